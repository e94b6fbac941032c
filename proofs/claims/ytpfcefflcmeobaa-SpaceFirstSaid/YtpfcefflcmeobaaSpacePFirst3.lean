/- The law of the first place. -/
import Derived.Test.YtpfcefflcmeobaaSpacePFirst2
import Derived.Test.YtpfcefflcmeobaaSpacePFst
import Derived.Deep.CutBlock
namespace Go.Proofs.Ytpfcefflcmeobaa.Space
open Go.RowKit Go.Sort Go.Proofs.Ytpfcefflcmeobaa.Rect Go.Proofs.Ytpfcefflcmeobaa.More Go.Proofs.Ytpfcefflcmeobaa.Shelf
set_option linter.unusedVariables false
set_option linter.unusedSimpArgs false

theorem tops_take {ss : List Sh} {k : Nat} {x : Sh} (y : Int) (h : ss[k]? = some x) : ((ss.take (k + 1)).filter (fun x => decide (y < x.1))).map (·.1) = ((ss.take k).filter (fun x => decide (y < x.1))).map (·.1) ++ (if y < x.1 then [x.1] else []) := by
  rw [List.take_add_one, h, List.filter_append, List.map_append]
  congr 1
  by_cases g : y < x.1 <;> simp [g]

/-- What the law wants of who is asked. -/
theorem first_facts {fs : List Fl} (hs : fs.all nearF = true) (hl : fs.length ≤ 30) {y : Int} (hy : inS y = true) (hm wm : Int) {q : Int → Bool} (hq : soQ fs hm wm = q) {ss : List Sh} (hss : shelvesD fs = ss) {ts : List Int} (hts : topsD fs y = ts) {z : Int} (hz : atD q ts = z) {K : Nat} (hK : stopN q ts = K) :
    ts = y :: (ss.filter (fun x => decide (y < x.1))).map (·.1) ∧ (∀ e ∈ ts, inS e = true) ∧ ts.length ≤ 62 ∧ ts[K]? = some z ∧ (∀ i e, i < K → ts[i]? = some e → q e = false) ∧ (q z = true ∨ K + 1 = ts.length) ∧ (∀ x, y ≤ x → x < z → q x = false) ∧ inS z = true ∧ y ≤ z ∧ K < ts.length ∧ ss.length ≤ 61 := by
  have hne : ts ≠ [] := by rw [← hts]; unfold topsD; simp
  have hlt := stopN_lt q ts hne
  rw [hK] at hlt
  have hat : ts[K]? = some z := by
    rw [← hz]
    unfold atD
    rw [hK, List.getD_eq_getElem?_getD, List.getElem?_eq_getElem hlt]
    rfl
  have hin : ∀ e ∈ ts, inS e = true := by rw [← hts]; exact tops_in hs hy
  have hr : ts.Pairwise (· < ·) := by rw [← hts]; exact tops_rise (near_of hs) y
  have h0 : ts[0]? = some y := by rw [← hts]; rfl
  refine ⟨by rw [← hts, ← hss]; rfl, hin, ?_, hat, ?_, ?_, ?_, hin z (List.mem_of_getElem? hat), ?_, hlt, ?_⟩
  · have := tops_len fs y; rw [hts] at this; omega
  · intro i e hi he; exact stopN_not q ts i e (by rw [hK]; exact hi) he
  · have := stopN_yes q ts z (by rw [hK]; exact hat)
    rwa [hK] at this
  · intro x h1 h2
    have := first_none (near_of hs) (y := y) (by have := (inS_iff.1 hy).1; unfold far; omega) q (by rw [← hq]; exact fun z0 x h hc => soQ_up hm wm z0 x h hc) x h1 (by rw [hts, hz]; exact h2)
    exact this
  · rcases Nat.eq_zero_or_pos K with e | e
    · rw [e, h0] at hat; injection hat with e; omega
    · exact Int.le_of_lt (rise_at hr h0 hat e)
  · have := shelvesD_len fs; rw [hss] at this; omega

section
variable {S : World → (Nat → Prop) → Addr → List Fl → Prop}

set_option maxRecDepth 100000 in
set_option maxHeartbeats 1000000 in
theorem pfirst_any (hO : SpaceOk S) (A : Option Addr) (n c : Nat) (fs : List Fl) (y wv hv : Int) (hwv : 0 ≤ wv ∧ wv ≤ 255) (hhv : 0 ≤ hv ∧ hv ≤ 255) (w : World) (hn : n = fs.length) (hlen : n ≤ 9223372036854775807) (hx : Floats w w.heap.size A fs) :
    Calls Try.prog 5 #[.slice A n c, .int .i64 y, .int .u8 wv, .int .u8 hv] w fun e w' => e = .returned (.bool true) ∧ Below w.heap.size w w' := by
  have HX := Lib.hid hx
  have HN := Lib.hid hn
  obtain ⟨hm, hhm⟩ : ∃ hm, hv.tmod 12 = hm := ⟨_, rfl⟩
  obtain ⟨wm, hwm⟩ : ∃ wm, wv.tmod 20 = wm := ⟨_, rfl⟩
  have hm0 : 0 ≤ hm ∧ hm < 12 := ⟨by rw [← hhm]; exact Int.tmod_nonneg 12 hhv.1, by rw [← hhm]; exact Int.tmod_lt_of_pos hv (by omega)⟩
  have hw0 : 0 ≤ wm ∧ wm < 20 := ⟨by rw [← hwm]; exact Int.tmod_nonneg 20 hwv.1, by rw [← hwm]; exact Int.tmod_lt_of_pos wv (by omega)⟩
  have HM := Lib.hid (⟨hhm, hwm, hm0, hw0⟩ : hv.tmod 12 = hm ∧ wv.tmod 20 = wm ∧ (0 ≤ hm ∧ hm < 12) ∧ (0 ≤ wm ∧ wm < 20))
  clear hx hn hhm hwm hm0 hw0 hwv hhv
  go_enter Try.func5, Try.ntmps5
  go_upto_region 1 with fail
  generalize hW : World.alloc (World.alloc (World.alloc w _) _) _ = W
  have hkW : Below w.heap.size w W := by rw [← hW]; exact ba3 _ _ _ _
  obtain ⟨b4, hb4⟩ : ∃ b4, w.heap.size = b4 := ⟨_, rfl⟩
  have c4 : W.cell? ⟨b4, 0, none⟩ = some (.slice A n c) := by rw [← hW, ← hb4]; simp [go_sem]
  have c6 : W.cell? ⟨b4 + 1, 0, none⟩ = some (.int .u8 wv) := by rw [← hW, ← hb4]; simp [go_sem]
  have c7 : W.cell? ⟨b4 + 1 + 1, 0, none⟩ = some (.int .u8 hv) := by rw [← hW, ← hb4]; simp [go_sem]
  go_simp
  have l4 := block_lt_of_cell c4
  have l6 := block_lt_of_cell c6
  have l7 := block_lt_of_cell c7
  have HC := Lib.hid (fun w' (k : Below W.heap.size W w') => (k.cell (p := ⟨b4, 0, none⟩) l4).trans c4)
  have HC2 := Lib.hid (⟨c4, c6, c7, l4, l6, l7⟩ : W.cell? ⟨b4, 0, none⟩ = some (.slice A n c) ∧ W.cell? ⟨b4 + 1, 0, none⟩ = some (.int .u8 wv) ∧ W.cell? ⟨b4 + 1 + 1, 0, none⟩ = some (.int .u8 hv) ∧ b4 < W.heap.size ∧ b4 + 1 < W.heap.size ∧ b4 + 1 + 1 < W.heap.size)
  have KW := Lib.hid hkW
  have HXW := Lib.hid (HX.out.thru hkW)
  clear hW hkW hb4 c6 c7 l4 l6 l7
  have HFew := Lib.hid (fun w1 (k : Below W.heap.size W w1) v hv => few_is A n c fs 30 v w1 HN.out (by omega) (HXW.out.thru k) hv)
  by_cases q1 : (fs.all nearF && decide ((n : Int) ≤ 30)) = true
  · have hn31 : n ≤ 1000000 := by
      have h1 := q1
      rw [Bool.and_eq_true] at h1
      have h4 := h1.2
      simp only [decide_eq_true_eq] at h4
      omega
    have HSd := Lib.hid (fun w1 (k : Below W.heap.size W w1) v hv => sides_is A n c fs v w1 HN.out hn31 (HXW.out.thru k) hv)
    clear hn31
    by_cases q2 : fs.all sideF = true
    · have Q1 := Lib.hid q1
      have Q2 := Lib.hid q2
      clear q1 q2
      by_cases y1 : y > 1125899906842624
      · go_upto_region 3 with (first
          | (go_at_call 8; refine (pspeaks hO _).mono ?_; rintro e w4 ⟨rfl, k4⟩; have K4 := Lib.hid k4; have c4' := HC.out _ k4; clear k4)
          | (go_at_call 9; refine (HFew.out _ K4.out _ Q1.out).mono ?_; rintro e w5 ⟨rfl, k5⟩; have K5 := Lib.hid (thru K4.out k5); clear c4'; have c4' := HC.out _ K5.out; clear k5)
          | (go_at_call 10; refine (HSd.out _ K5.out _ Q2.out).mono ?_; rintro e w6 ⟨rfl, k6⟩; have K6 := Lib.hid (thru K5.out k6); clear c4'; have c4' := HC.out _ K6.out; clear k6))
        go_wp2_with (first
          | (go_at_call 8; refine (pspeaks hO _).mono ?_; rintro e w9 ⟨rfl, k9⟩; have K9 := Lib.hid (thru K6.out k9); clear k9))
        go_ret
        exact ⟨rfl, thru KW.out K9.out⟩
      · by_cases y2 : y < -1125899906842624
        · go_upto_region 3 with (first
            | (go_at_call 8; refine (pspeaks hO _).mono ?_; rintro e w4 ⟨rfl, k4⟩; have K4 := Lib.hid k4; have c4' := HC.out _ k4; clear k4)
            | (go_at_call 9; refine (HFew.out _ K4.out _ Q1.out).mono ?_; rintro e w5 ⟨rfl, k5⟩; have K5 := Lib.hid (thru K4.out k5); clear c4'; have c4' := HC.out _ K5.out; clear k5)
            | (go_at_call 10; refine (HSd.out _ K5.out _ Q2.out).mono ?_; rintro e w6 ⟨rfl, k6⟩; have K6 := Lib.hid (thru K5.out k6); clear c4'; have c4' := HC.out _ K6.out; clear k6))
          go_wp2_with (first
            | (go_at_call 8; refine (pspeaks hO _).mono ?_; rintro e w9 ⟨rfl, k9⟩; have K9 := Lib.hid (thru K6.out k9); clear k9))
          go_ret
          exact ⟨rfl, thru KW.out K9.out⟩
        · go_upto_region 3 with (first
            | (go_at_call 8; refine (pspeaks hO _).mono ?_; rintro e w4 ⟨rfl, k4⟩; have K4 := Lib.hid k4; have c4' := HC.out _ k4; clear k4)
            | (go_at_call 9; refine (HFew.out _ K4.out _ Q1.out).mono ?_; rintro e w5 ⟨rfl, k5⟩; have K5 := Lib.hid (thru K4.out k5); clear c4'; have c4' := HC.out _ K5.out; clear k5)
            | (go_at_call 10; refine (HSd.out _ K5.out _ Q2.out).mono ?_; rintro e w6 ⟨rfl, k6⟩; have K6 := Lib.hid (thru K5.out k6); clear c4'; have c4' := HC.out _ K6.out; clear k6))
          have hall : fs.all nearF = true ∧ n ≤ 30 := by
            have h1 := Q1.out
            rw [Bool.and_eq_true] at h1
            have h4 := h1.2
            simp only [decide_eq_true_eq] at h4
            exact ⟨h1.1, by omega⟩
          have HALL := Lib.hid hall
          have HBe := Lib.hid (fun w1 (k : Below W.heap.size W w1) => pbegin_any hO A n c fs w1 HN.out (by omega) (HXW.out.thru k) hall.1 Q2.out)
          clear hall
          go_upto_region 6 with (first
            | (go_at_call 11; refine (HBe.out _ K6.out).mono ?_; rintro e u1 ⟨⟨p, F, rfl, hL, hF⟩, j1⟩; have N1 := Lib.hid (⟨hL, thru K6.out j1⟩ : S u1 F p fs ∧ Below W.heap.size W u1); clear hL hF j1))
          go_upto_region 8 with fail
          generalize hV : World.alloc u1 _ = V
          obtain ⟨bf, hbf⟩ : ∃ bf, u1.heap.size = bf := ⟨_, rfl⟩
          have hkV : Below u1.heap.size u1 V := by rw [← hV]; exact ba1 _ _
          have cf : V.cell? ⟨bf, 0, none⟩ = some (.func (.func 26) #[] #[.pointer (some ⟨b4, 0, none⟩), .pointer (some ⟨b4 + 1 + 1, 0, none⟩), .pointer (some ⟨b4 + 1, 0, none⟩)]) := by rw [← hV, ← hbf]; simp [go_sem]
          generalize hU : World.alloc V _ = U
          obtain ⟨ba, hba⟩ : ∃ ba, V.heap.size = ba := ⟨_, rfl⟩
          have hkU : Below V.heap.size V U := by rw [← hU]; exact ba1 _ _
          have ca : U.cell? ⟨ba, 0, none⟩ = some (.slice none 0 0) := by rw [← hU, ← hba]; simp [go_sem]
          have fa : U.frozen? ⟨ba, 0, none⟩ = false := by rw [← hU, ← hba]; simp [go_sem]
          have hbl : bf < V.heap.size := block_lt_of_cell cf
          have hVsz : u1.heap.size ≤ V.heap.size := hkV.size
          have hWu := thru (thru N1.out.2 hkV) hkU
          have HAs := Lib.hid (show Asked U V.heap.size ba [] from ⟨none, 0, 0, ca, fa, by omega, (fun k hk => by cases hk), World.ownsRow_nil U V.heap.size 3 1⟩)
          have hSU := hO.thru (hO.thru N1.out.1 hkV) hkU
          have hlF := fun k hk => Nat.lt_of_lt_of_le (hO.lt _ _ _ _ N1.out.1 k hk) hVsz
          have hWs : W.heap.size ≤ V.heap.size := Nat.le_trans N1.out.2.size hVsz
          have HFi := Lib.hid (first_asks hO A n c fs V.heap.size ba bf b4 (b4 + 1 + 1) (b4 + 1) F p y hv wv hm wm U hSU HN.out (by have := HALL.out.2; omega) ((HXW.out.below (thru N1.out.2 hkV) |>.more hWs).below hkU) HALL.out.1 (inS_iff.2 ⟨by omega, by omega⟩) hkU.size hlF (by have := HC2.out.2.2.2.1; omega) (by have := HC2.out.2.2.2.2.2; omega) (by have := HC2.out.2.2.2.2.1; omega) hbl
            ((hWu.cell (p := ⟨b4, 0, none⟩) HC2.out.2.2.2.1).trans HC2.out.1) ((hWu.cell (p := ⟨b4 + 1 + 1, 0, none⟩) HC2.out.2.2.2.2.2).trans HC2.out.2.2.1) ((hWu.cell (p := ⟨b4 + 1, 0, none⟩) HC2.out.2.2.2.2.1).trans HC2.out.2.1) HM.out.1 HM.out.2.1 HM.out.2.2.1 HM.out.2.2.2 ((hkU.cell (p := ⟨bf, 0, none⟩) hbl).trans cf) HAs.out)
          have NU := Lib.hid (⟨hWu, hWs, hkU.size, hbl, (hkU.cell (p := ⟨bf, 0, none⟩) hbl).trans cf⟩ : Below W.heap.size W U ∧ W.heap.size ≤ V.heap.size ∧ V.heap.size ≤ U.heap.size ∧ bf < V.heap.size ∧ U.cell? ⟨bf, 0, none⟩ = some (.func (.func 26) #[] #[.pointer (some ⟨b4, 0, none⟩), .pointer (some ⟨b4 + 1 + 1, 0, none⟩), .pointer (some ⟨b4 + 1, 0, none⟩)]))
          have hba2 : bf + 1 = ba := by rw [← hba, ← hV, ← hbf]; simp
          try rw [hbf]
          try rw [hba2]
          obtain ⟨B, hBB⟩ : ∃ B, V.heap.size = B := ⟨_, rfl⟩
          rw [hBB] at HFi NU HAs
          clear hV hU hkV hkU cf ca fa hbl hVsz hWu hSU hlF hWs hbf hba hba2 hBB c4'
          obtain ⟨q, hq⟩ : ∃ q, soQ fs hm wm = q := ⟨_, rfl⟩
          obtain ⟨ss, hss⟩ : ∃ ss, shelvesD fs = ss := ⟨_, rfl⟩
          obtain ⟨m, hms⟩ : ∃ m, ss.length = m := ⟨_, rfl⟩
          obtain ⟨ts, hts⟩ : ∃ ts, topsD fs y = ts := ⟨_, rfl⟩
          obtain ⟨z, hz⟩ : ∃ z, atD q ts = z := ⟨_, rfl⟩
          obtain ⟨K, hK⟩ : ∃ K, stopN q ts = K := ⟨_, rfl⟩
          obtain ⟨l, hl⟩ : ∃ l, ts.length = l := ⟨_, rfl⟩
          have hff := first_facts HALL.out.1 (by have := HALL.out.2; have := HN.out; omega) (y := y) (inS_iff.2 ⟨by omega, by omega⟩) hm wm hq hss hts hz hK
          rw [hl, hms] at hff
          have hm0 : 0 < m := by rw [← hms, ← hss]; unfold shelvesD; simp
          have HSo := Lib.hid (fun w1 (k : Below W.heap.size W w1) x v (hx : inS x = true) (hqx : q x = v) => (so_any A n c fs b4 (b4 + 1 + 1) (b4 + 1) hv wv hm wm x w1 HN.out (by have := HALL.out.2; omega) (HXW.out.thru k) HALL.out.1 hx ((k.cell (p := ⟨b4, 0, none⟩) HC2.out.2.2.2.1).trans HC2.out.1) ((k.cell (p := ⟨b4 + 1 + 1, 0, none⟩) HC2.out.2.2.2.2.2).trans HC2.out.2.2.1) ((k.cell (p := ⟨b4 + 1, 0, none⟩) HC2.out.2.2.2.2.1).trans HC2.out.2.1) HM.out.1 HM.out.2.1 HM.out.2.2.1 HM.out.2.2.2).mono (R' := fun e w' => e = .returned (.bool v) ∧ Below w1.heap.size w1 w') fun e w' ⟨r1, r2⟩ => ⟨by rw [r1, hq, hqx], r2⟩)
          have HRf := Lib.hid (fun w1 (k : Below W.heap.size W w1) => refshelves_any A n c fs w1 HN.out (by have := HALL.out.2; omega) (HXW.out.thru k))
          rw [hss, hms] at HRf
          rw [hq, hts, hz] at HFi
          rw [show askL q ts = ts.take (K + 1) by rw [← hK]; rfl] at HFi
          have HF := Lib.hid hff
          have hlm : l ≤ 62 := hff.2.2.1
          have hKl : K < l := hff.2.2.2.2.2.2.2.2.2.1
          have hmm : m ≤ 61 := hff.2.2.2.2.2.2.2.2.2.2
          have HLT := Lib.hid (⟨hl, hms⟩ : ts.length = l ∧ ss.length = m)
          clear hq hss hms hts hz hK hl hff
          go_upto_region 9 with (first
            | (go_at_call 27; refine HFi.out.mono ?_; rintro e u2 ⟨rfl, s2, a2, j2⟩; have N2 := Lib.hid (⟨a2, j2⟩ : Asked u2 B ba (ts.take (K + 1)) ∧ Below B U u2); clear s2 a2 j2))
          obtain ⟨hask, hj2⟩ := N2.out
          obtain ⟨T, hT⟩ : ∃ T, u2.heap.size = T := ⟨_, rfl⟩
          have hUT : B ≤ T := by rw [← hT]; exact Nat.le_trans NU.out.2.2.1 hj2.size
          have HW2 := Lib.hid (show Below W.heap.size W u2 from NU.out.1.trans (hj2.mono NU.out.2.1))
          obtain ⟨Aa, la, ca, a1, a2, a3, a4, a5⟩ := hask
          have hla : la = K + 1 := by rw [← a5.len, List.length_take, HLT.out.1]; omega
          subst hla
          have hbaT : ba < T := by rw [← hT]; exact block_lt_of_cell a1
          have hcbf : u2.cell? ⟨bf, 0, none⟩ = _ := (hj2.cell (p := ⟨bf, 0, none⟩) NU.out.2.2.2.1).trans NU.out.2.2.2.2
          have hbfT : bf < T := by have := NU.out.2.2.2.1; omega
          rw [← hT] at hbaT hbfT
          have HC9 := Lib.hid (fun w1 (k : Below u2.heap.size u2 w1) => (⟨(k.cell (p := ⟨ba, 0, none⟩) hbaT).trans a1, (k.cell (p := ⟨bf, 0, none⟩) hbfT).trans hcbf, HC.out w1 (HW2.out.trans (k.mono HW2.out.size)), HW2.out.trans (k.mono HW2.out.size), a5.below k⟩ : w1.cell? ⟨ba, 0, none⟩ = some (.slice Aa (K + 1) ca) ∧ w1.cell? ⟨bf, 0, none⟩ = some (.func (.func 26) #[] #[.pointer (some ⟨b4, 0, none⟩), .pointer (some ⟨b4 + 1 + 1, 0, none⟩), .pointer (some ⟨b4 + 1, 0, none⟩)]) ∧ w1.cell? ⟨b4, 0, none⟩ = some (.slice A n c) ∧ Below W.heap.size W w1 ∧ Mine w1 B Aa (K + 1) ca (ts.take (K + 1))))
          clear a1 a2 a3 a4 a5 hcbf hbaT hbfT hj2 HFi N2
          go_upto_region 10 with fail
          generalize hV : World.alloc u2 _ = V
          have hkV : Below u2.heap.size u2 V := by rw [← hV]; exact ba1 _ _
          have hmv : Mine V T (some ⟨T, 0, none⟩) 1 1 [y] := by rw [← hV, ← hT]; exact one_mine u2 u2.heap.size (Nat.le_refl _) y
          have hTV : T < V.heap.size := by rw [← hV, ← hT]; simp
          have c4v := (HC9.out V hkV).2.2.1
          have HV9 := Lib.hid (⟨hkV, hmv, hTV⟩ : Below u2.heap.size u2 V ∧ Mine V T (some ⟨T, 0, none⟩) 1 1 [y] ∧ T < V.heap.size)
          try rw [hT]
          have HT := Lib.hid hT
          clear hV hkV hmv hTV hT
          go_wp2_with (first
            | (go_at_call 29; refine (HRf.out V (HC9.out V HV9.out.1).2.2.2.1).mono ?_; rintro e u3 ⟨⟨Ab, cb, rfl, h5⟩, k5⟩; have N3 := Lib.hid (⟨h5, k5⟩ : MineE encSh 63 u3 V.heap.size Ab m cb ss ∧ Below V.heap.size V u3); clear h5 k5))
          clear c4v
          obtain ⟨sb, rfl, hb1, hb2, -, -⟩ := N3.out.1.form hm0
          have hTsb : ∀ j, blk (some (⟨T, 0, none⟩ : Addr)) = some j → j ≠ sb := fun j hj => by
            have h3 : T = j := by simpa [blk] using hj
            have := HV9.out.2.2
            omega
          go_loopw [13, 55] (fun v i wr => ∃ k : Nat, ∃ A' : Option Addr, ∃ l' c' : Nat, k ≤ m ∧ i = .int .i64 (k : Int) ∧ v = .slice A' l' c' ∧ Hid (Mine wr T A' l' c' (y :: ((ss.take k).filter (fun x => decide (y < x.1))).map (·.1)) ∧ MineE encSh 63 wr V.heap.size (some ⟨sb, 0, none⟩) m cb ss ∧ (∀ j, blk A' = some j → j ≠ sb) ∧ Below T u2 wr)) (fun _ i _ => m - (intOf i).toNat)
          case atStart => exact ⟨0, some ⟨T, 0, none⟩, 1, 1, Nat.zero_le _, rfl, rfl, Lib.hid ⟨HV9.out.2.1.below N3.out.2, N3.out.1, hTsb, by have h1 := HV9.out.1.trans (N3.out.2.mono HV9.out.1.size); rwa [HT.out] at h1⟩⟩
          case round =>
            obtain ⟨k, A', l', c', hk, rfl, rfl, H⟩ := hrel
            by_cases hlt : k < m
            · have hki : (k : Int) < (m : Int) := by omega
              have hk0 : ¬ (k : Int) < 0 := by omega
              obtain ⟨x, hx⟩ : ∃ x, ss[k]? = some x := ⟨_, List.getElem?_eq_getElem (by rw [HLT.out.2]; exact hlt)⟩
              obtain ⟨x1, x2, x3⟩ := x
              have a0 : wr.cell? ⟨sb, k * 3, none⟩ = some (.int .i64 x1) := H.out.2.1.at k _ hx 0 (by decide)
              have a1 : wr.cell? ⟨sb, k * 3 + 1, none⟩ = some (.int .i64 x2) := H.out.2.1.at k _ hx 1 (by decide)
              have a2 : wr.cell? ⟨sb, k * 3 + 2, none⟩ = some (.int .i64 x3) := H.out.2.1.at k _ hx 2 (by decide)
              have HFt := Lib.hid (tops_take y hx)
              have hl' : l' ≤ k + 1 := by
                have := H.out.1.len
                rw [← this, List.length_cons, List.length_map]
                have h2 := List.length_filter_le (fun x : Sh => decide (y < x.1)) (ss.take k)
                rw [List.length_take] at h2
                exact Nat.succ_le_succ (Nat.le_trans h2 (Nat.min_le_left _ _))
              have HL' := Lib.hid hl'
              clear hx hl'
              go_upto_region 13 with fail
              generalize hQ : World.alloc wr _ = Q
              obtain ⟨bx, hbx⟩ : ∃ bx, wr.heap.size = bx := ⟨_, rfl⟩
              have hkQ : Below wr.heap.size wr Q := by rw [← hQ]; exact ba1 _ _
              have e0 : Q.cell? ⟨bx, 0, none⟩ = some (.int .i64 x1) := by rw [← hQ, ← hbx]; simp [go_sem]
              have hQs : bx < Q.heap.size := block_lt_of_cell e0
              have hTw : T ≤ wr.heap.size := by have := H.out.2.2.2.size; have := HT.out; omega
              have HQ := Lib.hid (⟨H.out.1.below hkQ, H.out.2.1.below hkQ, H.out.2.2.1, H.out.2.2.2.trans (hkQ.mono hTw), Nat.le_trans hTw hkQ.size, Nat.lt_of_lt_of_le (by have := H.out.2.1.lt sb rfl; exact this.2) hkQ.size⟩ : Mine Q T A' l' c' (y :: ((ss.take k).filter (fun x => decide (y < x.1))).map (·.1)) ∧ MineE encSh 63 Q V.heap.size (some ⟨sb, 0, none⟩) m cb ss ∧ (∀ j, blk A' = some j → j ≠ sb) ∧ Below T u2 Q ∧ T ≤ Q.heap.size ∧ sb < Q.heap.size)
              rw [hbx]
              clear hQ hbx hkQ a0 a1 a2 hTw H
              by_cases hy : y < x1
              · go_wp2_with (first
                  | (at_builtin; refine wpList_append_mine _ rfl (.tmp 63) (.tmp 66) rfl T A' l' c' (y :: ((ss.take k).filter (fun x => decide (y < x.1))).map (·.1)) rfl (HQ.out.1.alloc _) (some ⟨Q.heap.size, 0, none⟩) 1 1 [x1] rfl (one_src Q x1) (by have := HL'.out; omega) (by have := HQ.out.2.2.2.2.1; simp; omega) ?_; intro A1 c1 W1 g1; have G1 := Lib.hid g1; clear g1))
                go_roundw
                case rel =>
                  refine ⟨k + 1, A1, l' + 1, c1, by omega, by go_num, rfl, Lib.hid ⟨?_, ?_, ?_, ?_⟩⟩
                  · have := HFt.out
                    simp only [if_pos hy] at this
                    rw [this, ← List.cons_append]
                    exact G1.out.1
                  · refine MineE.kept (HQ.out.2.1.alloc _) G1.out.2.1 (fun j hj e => ?_)
                    injection hj with hj
                    exact HQ.out.2.2.1 j (by rw [e]) hj.symm
                  · intro j hj
                    rcases G1.out.2.2 with e | e
                    · rw [e] at hj; exact HQ.out.2.2.1 j hj
                    · rw [e] at hj
                      have := HQ.out.2.2.2.2.2
                      simp at hj
                      omega
                  · exact Appended.below G1.out (HQ.out.1.alloc _) (HQ.out.2.2.2.1.trans ((ba1 Q _).mono HQ.out.2.2.2.2.1)) (Nat.le_refl _) (by have := HQ.out.2.2.2.2.1; simp; omega)
                case measure => simp [intOf]; omega
              · go_wp2_with fail
                go_roundw
                case rel =>
                  refine ⟨k + 1, A', l', c', by omega, by go_num, rfl, Lib.hid ⟨?_, HQ.out.2.1, HQ.out.2.2.1, HQ.out.2.2.2.1⟩⟩
                  have := HFt.out
                  simp only [if_neg hy, List.append_nil] at this
                  rw [this]
                  exact HQ.out.1
                case measure => simp [intOf]; omega
            · obtain rfl : k = m := by omega
              obtain ⟨w5, hw5⟩ : ∃ x, x = wr := ⟨_, rfl⟩
              subst hw5
              have hmine : Mine w5 T A' l' c' ts := by
                have := H.out.1
                rw [List.take_of_length_le (by rw [HLT.out.2]; exact Nat.le_refl _), ← HF.out.1] at this
                exact this
              obtain rfl : l = l' := by rw [← hmine.len, HLT.out.1]
              obtain ⟨tb, rfl, htb, hcap, -⟩ := hmine.cell 0 (by rw [HLT.out.1]; omega)
              obtain ⟨ad, had⟩ : ∃ ad : Addr, ⟨tb, 0, none⟩ = ad := ⟨_, rfl⟩
              rw [had] at hmine ⊢
              clear had htb
              have hk5 : Below u2.heap.size u2 w5 := by rw [HT.out]; exact H.out.2.2.2
              have HNm := Lib.hid (fun w1 (k : Below w5.heap.size w5 w1) i e (he : ts[i]? = some e) => (by
                obtain ⟨ad', e1, e2, e3⟩ := (hmine.nums.below k) i (List.getElem?_eq_some_iff.1 he).1
                injection e1 with e1
                subst e1
                rw [e3, List.getD_eq_getElem?_getD, he]
                rfl : w1.cell? (ad.add i) = some (.int .i64 e)))
              have HC5 := Lib.hid (fun w1 (k : Below w5.heap.size w5 w1) => HC9.out w1 (hk5.trans (k.mono hk5.size)))
              clear hmine hk5 H hlt hTsb
              have hsub : IntKind.i64.wrap ((l : Int) - 1) = (l : Int) - 1 := IntWalk.i64_in _ (by omega)
              have eg := enters_of Try.func26 (by kernel_rfl) rfl
              go_upto_block 2 with fail
              go_cut [16] (fun t wx => t = .int .i64 (K : Int) ∧ Hid (Below w5.heap.size w5 wx))
              case first =>
                go_wp2_with fail
                go_loopw [16] (fun v wr => ∃ j : Nat, j ≤ K ∧ v = .int .i64 (j : Int) ∧ Hid (Below w5.heap.size w5 wr)) (fun v _ => K - (intOf v).toNat)
                case atStart => exact ⟨0, Nat.zero_le _, rfl, Lib.hid (Below.refl _ _)⟩
                case round =>
                  obtain ⟨j, hj, rfl, H⟩ := hrel
                  obtain ⟨e, he⟩ : ∃ e, ts[j]? = some e := ⟨_, List.getElem?_eq_getElem (by rw [HLT.out.1]; omega)⟩
                  obtain ⟨cc1, cc2, cc3, cc4, cc5⟩ := HC5.out wr H.out
                  have hcell := HNm.out wr H.out j e he
                  have hin := HF.out.2.1 e (List.mem_of_getElem? he)
                  have hj0 : ¬ (j : Int) < 0 := by omega
                  have hjl : (j : Int) < (l : Int) := by omega
                  have hlc : l ≤ c' := hcap
                  by_cases hjK : j < K
                  · have hlt : (j : Int) < (l : Int) - 1 := by omega
                    have hcall := fun d os => HSo.out (grow (redrawn wr d) os) (cc4.trans ((below_regrown wr d os).mono cc4.size)) e false hin (HF.out.2.2.2.2.1 j e hjK he)
                    simp only [List.append_toArray, List.cons_append, List.nil_append] at hcall
                    have HCall := Lib.hid hcall
                    clear hcall
                    have g2 := cell_regrown cc2
                    have g3 := cell_regrown hcell
                    clear cc1 cc3 cc4 cc5 hin he
                    go_upto_region 17 with fail
                    refine wp_region_quiet_below (by kernel_rfl) (by kernel_rfl) ?_
                    repeat (quiet_step (first
                      | (go_at_call 26; exact Calls.regrown_of (HCall.out _ _))))
                    refine wpQuiet_nil ?_
                    intro _ hw'
                    obtain ⟨⟨dq, osq⟩, hw''⟩ := hw'
                    subst hw''
                    have K7 := Lib.hid (thru H.out (below_regrown wr dq osq))
                    clear g2 g3
                    go_wp2_with fail
                    go_roundw
                    case rel => exact ⟨j + 1, by omega, by go_num, K7⟩
                    case measure => simp [intOf]; omega
                  · obtain rfl : j = K := by omega
                    have hez : e = z := by have := HF.out.2.2.2.1; rw [he] at this; injection this
                    subst hez
                    by_cases hlt : (j : Int) < (l : Int) - 1
                    · have hqe : q e = true := by
                        rcases HF.out.2.2.2.2.2.1 with g | g
                        · exact g
                        · omega
                      have hcall := fun d os => HSo.out (grow (redrawn wr d) os) (cc4.trans ((below_regrown wr d os).mono cc4.size)) e true hin hqe
                      simp only [List.append_toArray, List.cons_append, List.nil_append] at hcall
                      have HCall := Lib.hid hcall
                      clear hcall
                      have g2 := cell_regrown cc2
                      have g3 := cell_regrown hcell
                      clear cc1 cc3 cc4 cc5 hin he hqe
                      go_upto_region 17 with fail
                      refine wp_region_quiet_below (by kernel_rfl) (by kernel_rfl) ?_
                      repeat (quiet_step (first
                        | (go_at_call 26; exact Calls.regrown_of (HCall.out _ _))))
                      refine wpQuiet_nil ?_
                      intro _ hw'
                      obtain ⟨⟨dq, osq⟩, hw''⟩ := hw'
                      subst hw''
                      have K7 := Lib.hid (thru H.out (below_regrown wr dq osq))
                      clear g2 g3
                      go_wp2_with fail
                      go_meet
                      exact ⟨rfl, K7⟩
                    · clear cc1 cc3 cc4 cc5 hin he
                      go_upto_region 17 with fail
                      go_quiet (fail)
                      have q9 : Below wr.heap.size wr (wr.drewN nq) := ⟨rfl, rfl, rfl, Nat.le_refl _, fun _ _ => rfl⟩
                      generalize wr.drewN nq = w9 at q9 ⊢
                      have K9 := Lib.hid (thru H.out q9)
                      clear q9
                      go_wp2_with fail
                      go_meet
                      exact ⟨rfl, K9⟩
              case rest =>
                obtain ⟨rfl, H6⟩ := hcut
                obtain ⟨cc1, cc2, cc3, cc4, cc5⟩ := HC5.out wc H6.out
                obtain ⟨ab, rfl, hab, hcapA, -⟩ := cc5.cell 0 (by rw [cc5.len]; omega)
                obtain ⟨aa, haa⟩ : ∃ aa : Addr, ⟨ab, 0, none⟩ = aa := ⟨_, rfl⟩
                rw [haa] at cc1 cc5
                have HNa := Lib.hid (fun w1 (k : Below wc.heap.size wc w1) i e (hi : i < K + 1) (he : ts[i]? = some e) => (by
                  have hi2 : i < (ts.take (K + 1)).length := by rw [cc5.len]; exact hi
                  obtain ⟨ad', e1, e2, e3⟩ := (cc5.nums.below k) i hi2
                  injection e1 with e1
                  subst e1
                  rw [e3, List.getD_eq_getElem?_getD, List.getElem?_take, if_pos hi, he]
                  rfl : w1.cell? (aa.add i) = some (.int .i64 e)))
                have HCb := Lib.hid (fun w1 (k : Below wc.heap.size wc w1) => (HC5.out w1 (thru H6.out k)).2.1)
                have HBW := Lib.hid (fun w1 (k : Below wc.heap.size wc w1) => (HC5.out w1 (thru H6.out k)).2.2.2.1)
                have hcz := HNm.out wc H6.out K z HF.out.2.2.2.1
                have hKi : (K : Int) < (l : Int) := by omega
                have hlc : l ≤ c' := hcap
                have hKc : K + 1 ≤ ca := hcapA
                have hK0 : ¬ (K : Int) < 0 := by omega
                clear cc2 cc3 cc4 cc5 haa hab
                go_wp2_with fail
                clear hcz
                go_loopw [100] (fun v wr => ∃ j : Nat, j ≤ K + 1 ∧ v = .int .i64 (j : Int) ∧ Hid (Below wc.heap.size wc wr)) (fun v _ => K + 1 - (intOf v).toNat)
                case atStart => exact ⟨0, Nat.zero_le _, rfl, Lib.hid (Below.refl _ _)⟩
                case round =>
                  obtain ⟨j, hj, rfl, H⟩ := hrel
                  by_cases hjK : j < K + 1
                  · obtain ⟨e, he⟩ : ∃ e, ts[j]? = some e := ⟨_, List.getElem?_eq_getElem (by rw [HLT.out.1]; omega)⟩
                    have ha := HNa.out wr H.out j e hjK he
                    have ht := HNm.out wr (thru H6.out H.out) j e he
                    have hj0 : ¬ (j : Int) < 0 := by omega
                    have hjl : (j : Int) < (l : Int) := by omega
                    have hjk : (j : Int) < (K : Int) + 1 := by omega
                    clear he
                    go_wp2_with fail
                    go_roundw
                    case rel => exact ⟨j + 1, by omega, by go_num, H⟩
                    case measure => simp [intOf]; omega
                  · obtain rfl : j = K + 1 := by omega
                    obtain ⟨w8, hw8⟩ : ∃ x, x = wr := ⟨_, rfl⟩
                    subst hw8
                    have hbf8 := HCb.out w8 H.out
                    have hzin := HF.out.2.2.2.2.2.2.2.1
                    have hzb := inS_iff.1 hzin
                    have hyz := HF.out.2.2.2.2.2.2.2.2.1
                    have HZ := Lib.hid hzb
                    have hws : IntKind.i64.wrap (z - y) = z - y := IntWalk.i64_in _ (by omega)
                    have HEnd := Lib.hid (fun w1 (k : Below wc.heap.size wc w1) => thru KW.out (HBW.out w1 k))
                    have HSoZ := Lib.hid (fun w1 (k : Below wc.heap.size wc w1) x v (hx : inS x = true) (hv : q x = v) => by
                      have h := HSo.out w1 (HBW.out w1 k) x v hx hv
                      simp only [List.append_toArray, List.cons_append, List.nil_append] at h
                      exact h)
                    clear cc1 hzb
                    cases hqz : q z with
                    | false =>
                      have hKl2 : K + 1 = l := by
                        rcases HF.out.2.2.2.2.2.1 with g | g
                        · rw [hqz] at g; cases g
                        · exact g
                      have hsub2 : IntKind.i64.wrap ((l : Int) - 1) = (K : Int) := by rw [hsub]; omega
                      have HSo1 := Lib.hid (fun w1 k => HSoZ.out w1 k z false hzin hqz)
                      clear hsub hqz hKl2
                      go_upto_region 28 with (first
                        | (go_at_call 26; refine (HSo1.out _ H.out).mono ?_; rintro r w9 ⟨rfl, k7⟩; have K9 := Lib.hid (thru H.out k7); have hbf9 := HCb.out _ (thru H.out k7); clear k7 hbf8))
                      go_wp2_with (first
                        | (go_at_call 26; refine (HSo1.out _ K9.out).mono ?_; rintro r w10 ⟨rfl, k7⟩; have K10 := Lib.hid (thru K9.out k7); clear k7 hbf9))
                      go_ret
                      exact ⟨rfl, HEnd.out _ K10.out⟩
                    | true =>
                      have HSo1 := Lib.hid (fun w1 k => HSoZ.out w1 k z true hzin hqz)
                      clear hqz
                      by_cases h200 : z - y > 200
                      · go_upto_region 28 with (first
                          | (go_at_call 26; refine (HSo1.out _ H.out).mono ?_; rintro r w9 ⟨rfl, k7⟩; have K9 := Lib.hid (thru H.out k7); have hbf9 := HCb.out _ (thru H.out k7); clear k7 hbf8))
                        go_wp2_with (first
                          | (go_at_call 26; refine (HSo1.out _ K9.out).mono ?_; rintro r w10 ⟨rfl, k7⟩; have K10 := Lib.hid (thru K9.out k7); clear k7 hbf9))
                        go_ret
                        exact ⟨rfl, HEnd.out _ K10.out⟩
                      · go_wp2_with (first
                          | (go_at_call 26; refine (HSo1.out _ H.out).mono ?_; rintro r w9 ⟨rfl, k7⟩; have K9 := Lib.hid (thru H.out k7); clear k7 hbf8))
                        go_loopw [19] (fun v wr => ∃ x : Int, y ≤ x ∧ x ≤ z ∧ v = .int .i64 x ∧ Hid (Below wc.heap.size wc wr)) (fun v _ => (z - intOf v).toNat)
                        case atStart => exact ⟨y, Int.le_refl _, hyz, rfl, K9⟩
                        case round =>
                          obtain ⟨x, hx1, hx2, rfl, H9⟩ := hrel
                          by_cases hxz : x < z
                          · have HSo2 := Lib.hid (HSoZ.out wr H9.out x false (inS_iff.2 (by have := HZ.out; omega)) (HF.out.2.2.2.2.2.2.1 x hx1 hxz))
                            have hbf9 := HCb.out wr H9.out
                            have hxw : IntKind.i64.wrap (x + 1) = x + 1 := IntWalk.i64_in _ (by have := HZ.out; omega)
                            go_wp2_with (first
                              | (go_at_call 26; refine HSo2.out.mono ?_; rintro r w10 ⟨rfl, k7⟩; have K10 := Lib.hid (thru H9.out k7); clear k7))
                            go_roundw
                            case rel => exact ⟨x + 1, by omega, by omega, by first | rfl | rw [hxw], K10⟩
                            case measure => simp [intOf]; omega
                          · go_wp2_with fail
                            go_ret
                            exact ⟨rfl, HEnd.out _ H9.out⟩
    · have Q1 := Lib.hid q1
      have Q2 := Lib.hid (show fs.all sideF = false by simpa using q2)
      clear q1 q2
      go_upto_region 3 with (first
        | (go_at_call 8; refine (pspeaks hO _).mono ?_; rintro e w4 ⟨rfl, k4⟩; have K4 := Lib.hid k4; have c4' := HC.out _ k4; clear k4)
        | (go_at_call 9; refine (HFew.out _ K4.out _ Q1.out).mono ?_; rintro e w5 ⟨rfl, k5⟩; have K5 := Lib.hid (thru K4.out k5); clear c4'; have c4' := HC.out _ K5.out; clear k5)
        | (go_at_call 10; refine (HSd.out _ K5.out _ Q2.out).mono ?_; rintro e w6 ⟨rfl, k6⟩; have K6 := Lib.hid (thru K5.out k6); clear c4'; have c4' := HC.out _ K6.out; clear k6))
      go_wp2_with (first
        | (go_at_call 8; refine (pspeaks hO _).mono ?_; rintro e w9 ⟨rfl, k9⟩; have K9 := Lib.hid (thru K6.out k9); clear k9))
      go_ret
      exact ⟨rfl, thru KW.out K9.out⟩
  · have Q1 := Lib.hid (show (fs.all nearF && decide ((n : Int) ≤ 30)) = false by simpa using q1)
    clear q1
    go_upto_region 3 with (first
      | (go_at_call 8; refine (pspeaks hO _).mono ?_; rintro e w4 ⟨rfl, k4⟩; have K4 := Lib.hid k4; have c4' := HC.out _ k4; clear k4)
      | (go_at_call 9; refine (HFew.out _ K4.out _ Q1.out).mono ?_; rintro e w5 ⟨rfl, k5⟩; have K5 := Lib.hid (thru K4.out k5); clear c4'; have c4' := HC.out _ K5.out; clear k5))
    go_wp2_with (first
      | (go_at_call 8; refine (pspeaks hO _).mono ?_; rintro e w9 ⟨rfl, k9⟩; have K9 := Lib.hid (thru K5.out k9); clear k9))
    go_ret
    exact ⟨rfl, thru KW.out K9.out⟩

end

end Go.Proofs.Ytpfcefflcmeobaa.Space
