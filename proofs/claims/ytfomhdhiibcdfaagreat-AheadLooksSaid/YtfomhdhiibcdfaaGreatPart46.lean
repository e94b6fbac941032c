/- The contracts of the two functions that narrow a shelf, and of Add. -/
import Derived.Test.YtfomhdhiibcdfaaGreatPart45
namespace Go.Proofs.YtfomhdhiibcdfaaGreat.Shelf
open Go.RowKit Go.Sort Go.Proofs.YtfomhdhiibcdfaaGreat.Rect Go.Proofs.YtfomhdhiibcdfaaGreat.More
set_option linter.unusedVariables false

set_option maxRecDepth 100000 in
set_option maxHeartbeats 800000 in
theorem narrow_left (w0 : World) (B pb g rb : Nat) (r : Int) (hr : w0.cell? ⟨rb, 2, none⟩ = some (.int .i64 r)) (h1 : rb ≠ g) (h2 : rb ≠ pb) :
    Narrows w0 B pb g 67 #[.pointer (some ⟨rb, 0, none⟩)] (fun p => (max p.1 r, p.2)) := by
  intro w1 g' n c i xs x hbut hg hm hx
  have hc := (hbut.cell (block_lt_of_cell hr) (fun q => by rcases q with q | q; exact h1 q; exact h2 q)).trans hr
  have HM := Lib.hid hm
  have HX := Lib.hid hx
  have HR := Lib.hid (fun w' (k : Below w1.heap.size w1 w') => row_at (MineE.below HM.out k) HX.out (j := i * 3) rfl)
  have HC := Lib.hid hc
  obtain ⟨x1, x2, x3⟩ := x
  obtain ⟨mx, hmx⟩ : ∃ mx, max x2 r = mx := ⟨_, rfl⟩
  dsimp only
  rw [hmx]
  clear hm hx hbut hg hc
  show Calls Tryz.prog 67 #[.pointer (some ⟨g', i * 3, none⟩), .pointer (some ⟨rb, 0, none⟩)] w1 _
  go_enter Tryz.func67, Tryz.ntmps67
  refine Hold.wp_region_hold [.val (.pointer (some ⟨g', i * 3, none⟩)), .val (.pointer (some ⟨g', i * 3, none⟩)), .val (.pointer (some ⟨g', i * 3, none⟩)), .val (.pointer (some ⟨g', i * 3 + 1, none⟩)), .val (.int .i64 x2), .val (.pointer (some ⟨rb, 2, none⟩)), .val (.int .i64 r), .val (.int .i64 mx)] (by kernel_rfl) (by kernel_rfl) (by kernel_rfl) ?_ ?_
  · simp only [Hold.fill, Hold.Leave.value]
    refine ⟨?_, ?_, ?_, ?_, ?_, ?_, ?_, ?_, trivial⟩
    · intro gg w' hw hk
      go_simp
      exact ⟨rfl, rfl⟩
    · intro gg w' hw hk
      go_simp
      exact ⟨rfl, rfl⟩
    · intro gg w' hw hk
      go_simp
      exact ⟨rfl, rfl⟩
    · intro gg w' hw hk
      go_simp
      exact ⟨rfl, rfl⟩
    · intro gg w' hw hk
      have q1 := (HR.out w' hw).2.1
      go_simp
      exact ⟨rfl, rfl⟩
    · intro gg w' hw hk
      go_simp
      exact ⟨rfl, rfl⟩
    · intro gg w' hw hk
      have q1 := (hw.cell (p := ⟨rb, 2, none⟩) (block_lt_of_cell HC.out)).trans HC.out
      go_simp
      exact ⟨rfl, rfl⟩
    · intro gg w' hw hk
      go_simp
      exact ⟨rfl, by rw [← hmx]; first | rfl | (congr 1; omega)⟩
  intro gg w2 k2 hgg
  clear hgg
  simp only [Hold.fill, Hold.Leave.value, List.length_cons, List.length_nil, List.drop_succ_cons, List.drop_zero]
  have m2 := MineE.below HM.out k2
  have q1 := (HR.out w2 k2).2.1
  have f1 := MineE.frozen m2 (i * 3 + 1)
  obtain ⟨m3, g3⟩ := MineE.stored m2 i (x1, (x2, x3)) (x1, (mx, x3)) HX.out 1 (by decide) (.int .i64 mx) rfl
  have H3 := Lib.hid (⟨m3, ((grown_of_below k2).but _).trans g3⟩ : MineE encSh 120 (w2.setCell ⟨g', i * 3 + 1, none⟩ (.int .i64 mx)) B (some ⟨g', 0, none⟩) n c (xs.set i (x1, (mx, x3))) ∧ w1.grownBy (w2.setCell ⟨g', i * 3 + 1, none⟩ (.int .i64 mx)) (some g'))
  clear m2 m3 g3 k2 hmx
  go_wp2_with fail
  go_end0
  exact ⟨⟨_, rfl⟩, H3.out.1, H3.out.2⟩

set_option maxRecDepth 100000 in
set_option maxHeartbeats 800000 in
theorem narrow_right (w0 : World) (B pb g rb : Nat) (r : Int) (hr : w0.cell? ⟨rb, 0, none⟩ = some (.int .i64 r)) (h1 : rb ≠ g) (h2 : rb ≠ pb) :
    Narrows w0 B pb g 68 #[.pointer (some ⟨rb, 0, none⟩)] (fun p => (p.1, min p.2 r)) := by
  intro w1 g' n c i xs x hbut hg hm hx
  have hc := (hbut.cell (block_lt_of_cell hr) (fun q => by rcases q with q | q; exact h1 q; exact h2 q)).trans hr
  have HM := Lib.hid hm
  have HX := Lib.hid hx
  have HR := Lib.hid (fun w' (k : Below w1.heap.size w1 w') => row_at (MineE.below HM.out k) HX.out (j := i * 3) rfl)
  have HC := Lib.hid hc
  obtain ⟨x1, x2, x3⟩ := x
  obtain ⟨mx, hmx⟩ : ∃ mx, min x3 r = mx := ⟨_, rfl⟩
  dsimp only
  rw [hmx]
  clear hm hx hbut hg hc
  show Calls Tryz.prog 68 #[.pointer (some ⟨g', i * 3, none⟩), .pointer (some ⟨rb, 0, none⟩)] w1 _
  go_enter Tryz.func68, Tryz.ntmps68
  refine Hold.wp_region_hold [.val (.pointer (some ⟨g', i * 3, none⟩)), .val (.pointer (some ⟨g', i * 3, none⟩)), .val (.pointer (some ⟨g', i * 3, none⟩)), .val (.pointer (some ⟨g', i * 3 + 2, none⟩)), .val (.int .i64 x3), .val (.pointer (some ⟨rb, 0, none⟩)), .val (.int .i64 r), .val (.int .i64 mx)] (by kernel_rfl) (by kernel_rfl) (by kernel_rfl) ?_ ?_
  · simp only [Hold.fill, Hold.Leave.value]
    refine ⟨?_, ?_, ?_, ?_, ?_, ?_, ?_, ?_, trivial⟩
    · intro gg w' hw hk
      go_simp
      exact ⟨rfl, rfl⟩
    · intro gg w' hw hk
      go_simp
      exact ⟨rfl, rfl⟩
    · intro gg w' hw hk
      go_simp
      exact ⟨rfl, rfl⟩
    · intro gg w' hw hk
      go_simp
      exact ⟨rfl, rfl⟩
    · intro gg w' hw hk
      have q1 := (HR.out w' hw).2.2
      go_simp
      exact ⟨rfl, rfl⟩
    · intro gg w' hw hk
      go_simp
      exact ⟨rfl, rfl⟩
    · intro gg w' hw hk
      have q1 := (hw.cell (p := ⟨rb, 0, none⟩) (block_lt_of_cell HC.out)).trans HC.out
      go_simp
      exact ⟨rfl, rfl⟩
    · intro gg w' hw hk
      go_simp
      exact ⟨rfl, by rw [← hmx]; first | rfl | (congr 1; omega)⟩
  intro gg w2 k2 hgg
  clear hgg
  simp only [Hold.fill, Hold.Leave.value, List.length_cons, List.length_nil, List.drop_succ_cons, List.drop_zero]
  have m2 := MineE.below HM.out k2
  have q1 := (HR.out w2 k2).2.2
  have f1 := MineE.frozen m2 (i * 3 + 2)
  obtain ⟨m3, g3⟩ := MineE.stored m2 i (x1, (x2, x3)) (x1, (x2, mx)) HX.out 2 (by decide) (.int .i64 mx) rfl
  have H3 := Lib.hid (⟨m3, ((grown_of_below k2).but _).trans g3⟩ : MineE encSh 120 (w2.setCell ⟨g', i * 3 + 2, none⟩ (.int .i64 mx)) B (some ⟨g', 0, none⟩) n c (xs.set i (x1, (x2, mx))) ∧ w1.grownBy (w2.setCell ⟨g', i * 3 + 2, none⟩ (.int .i64 mx)) (some g'))
  clear m2 m3 g3 k2 hmx
  go_wp2_with fail
  go_end0
  exact ⟨⟨_, rfl⟩, H3.out.1, H3.out.2⟩

/-- change, for a float that counts. -/
theorem change_float (B pb g n c : Nat) (fs : List Fl) (fl : Fl) (f : Nat) (cap : Array Value) (w : World) (eg : ∀ args w, (callFunc f args).run Tryz.prog w = .ok (.enter f args) w)
    (hl : Lst w B pb g n c (shelvesD fs)) (hlen : fs.length < 1000) (hB : B ≤ w.heap.size) (hs : fs.all nearF = true) (hf : nearF fl = true) (hc : cntF fl = true) (hN : Narrows w B pb g f cap (narF fl)) :
    Calls Tryz.prog 65 #[.pointer (some ⟨pb, 0, none⟩), .agg #[.int .i64 fl.t, .int .i64 fl.b], .func (.func f) #[] cap] w fun r w' => (∃ v, r = .returned v) ∧ (∃ g' n' c', Lst w' B pb g' n' c' (shelvesD (fs ++ [fl])) ∧ (g' = g ∨ w.heap.size ≤ g')) ∧ But (two g pb) w w' := by
  have hn1 := near_of hs
  have hn2 : Near (fs ++ [fl]) := near_of (by rw [List.all_append, hs]; simp [hf])
  obtain ⟨hd, hu⟩ := draws_dw _ _ (shelvesD_draws hn1)
  have hlt := (hn2 fl (by simp)).1
  have htb := (cntF_iff.1 hc).2.1
  obtain ⟨k1, ht1⟩ := thr_of hd fl.t
  have h1 := thr_pos hd (by unfold far; omega) ht1
  obtain ⟨P, b, S, e1, e2, e3, e4, e5⟩ := cut1 hd hu (by unfold far; omega) ht1
  obtain ⟨k2, ht2⟩ := thr_of e2 fl.b
  have h2 := thr_pos e2 (by unfold far; omega) ht2
  have ht2' : Thr (cutL (shelvesD fs) fl.t k1).1 fl.b k2 := by rw [e1]; exact ht2
  obtain ⟨A, x, M, b2, C, q1, q2, q3, q4⟩ := add_shelves hn1 hn2 hc k1 ht1 k2 ht2'
  have hlen2 := shelvesD_len fs
  have hll := hl.len
  have := change_any pb g n c B k1 k2 _ _ (shelvesD fs) _ _ A M C x fl.t fl.b b2 f cap (narF fl) w eg hl (by omega) hB h1 ht1 rfl h2 ht2' rfl q1 q2 q3 hN
  rw [← q4]
  exact this

set_option maxRecDepth 100000 in
set_option maxHeartbeats 800000 in
theorem padd_but (w : World) (B pb g n c : Nat) (fs : List Fl) (fl : Fl) (hl : Lst w B pb g n c (shelvesD fs)) (hB : B ≤ w.heap.size) (hlen : fs.length < 1000) (hs : fs.all nearF = true) (hf : nearF fl = true) :
    Calls Tryz.prog 54 #[.pointer (some ⟨pb, 0, none⟩), .int .i64 fl.s, .agg #[.int .i64 fl.l, .int .i64 fl.t, .int .i64 fl.r, .int .i64 fl.b]] w fun r w' => (∃ v, r = .returned v) ∧ (∃ g' n' c', Lst w' B pb g' n' c' (shelvesD (fs ++ [fl])) ∧ (g' = g ∨ w.heap.size ≤ g')) ∧ But (two g pb) w w' := by
  have HB := Lib.hid hB
  have HL := Lib.hid hl
  have hglt := hl.glt
  have hplt := hl.lt
  have HS := Lib.hid (⟨hs, hf, hlen⟩ : fs.all nearF = true ∧ nearF fl = true ∧ fs.length < 1000)
  obtain ⟨full, hfull⟩ : ∃ v, (decide (fl.l < fl.r) && decide (fl.t < fl.b)) = v := ⟨_, rfl⟩
  have HF := Lib.hid (fun w1 => full_is fl.l fl.t fl.r fl.b full hfull w1)
  have HR := Lib.hid (fun w1 => rows_any fl.l fl.t fl.r fl.b w1)
  have hsame : cntF fl = false → ∀ w', Below w.heap.size w w' → ∃ g' n' c', Lst w' B pb g' n' c' (shelvesD (fs ++ [fl])) ∧ (g' = g ∨ w.heap.size ≤ g') := fun hc w' k => by
    have e := shelvesD_same hc (near_of hs) (near_of (fs := fs ++ [fl]) (by rw [List.all_append, hs]; simp [hf]))
    exact ⟨g, n, c, by rw [← e]; exact hl.below k, .inl rfl⟩
  have HSM := Lib.hid hsame
  have HFU := Lib.hid hfull
  clear hl hB hs hf hfull hsame hlen
  go_enter Tryz.func54, Tryz.ntmps54
  go_upto_region 1 with fail
  generalize hW : World.alloc w _ = W
  obtain ⟨rb, hrb⟩ : ∃ rb, w.heap.size = rb := ⟨_, rfl⟩
  have hkW : Below w.heap.size w W := by rw [← hW]; exact ba1 _ _
  have e0 : W.cell? ⟨rb, 0, none⟩ = some (.int .i64 fl.l) := by rw [← hW, ← hrb]; simp [go_sem]
  have e1 : W.cell? ⟨rb, 1, none⟩ = some (.int .i64 fl.t) := by rw [← hW, ← hrb]; simp [go_sem]
  have e2 : W.cell? ⟨rb, 2, none⟩ = some (.int .i64 fl.r) := by rw [← hW, ← hrb]; simp [go_sem]
  have e3 : W.cell? ⟨rb, 3, none⟩ = some (.int .i64 fl.b) := by rw [← hW, ← hrb]; simp [go_sem]
  rw [hrb]
  have KW := Lib.hid hkW
  have hrl : rb < W.heap.size := block_lt_of_cell e0
  have hn1 : rb ≠ g := by omega
  have hn2 : rb ≠ pb := by omega
  clear hW hkW hrb hglt hplt
  have HE := Lib.hid (fun w' (k : Below W.heap.size W w') => (⟨(k.cell (p := ⟨rb, 0, none⟩) hrl).trans e0, (k.cell (p := ⟨rb, 1, none⟩) hrl).trans e1, (k.cell (p := ⟨rb, 2, none⟩) hrl).trans e2, (k.cell (p := ⟨rb, 3, none⟩) hrl).trans e3⟩ : w'.cell? ⟨rb, 0, none⟩ = some (.int .i64 fl.l) ∧ w'.cell? ⟨rb, 1, none⟩ = some (.int .i64 fl.t) ∧ w'.cell? ⟨rb, 2, none⟩ = some (.int .i64 fl.r) ∧ w'.cell? ⟨rb, 3, none⟩ = some (.int .i64 fl.b)))
  cases full
  · go_wp2_with (first
      | (go_at_call 64; refine (HF.out _).mono ?_; rintro e w1 ⟨rfl, k1⟩; have K1 := Lib.hid k1; clear k1))
    refine bodyPost_ret (results_none rfl _ _ _) rfl ?_
    have kk := thru KW.out K1.out
    exact ⟨⟨_, rfl⟩, HSM.out (by unfold cntF; rw [HFU.out]; rfl) _ kk, But.of_below kk⟩
  · by_cases hs1 : fl.s = 1
    · have hc : cntF fl = true := by unfold cntF; rw [HFU.out, hs1]; rfl
      have hnar : narF fl = fun p => (max p.1 fl.r, p.2) := by funext p; unfold narF; rw [if_pos hs1]
      have HCH := Lib.hid (fun w2 (k : Below W.heap.size W w2) => change_float B pb g n c fs fl 67 #[.pointer (some ⟨rb, 0, none⟩)] w2 (enters_of Tryz.func67 (by kernel_rfl) rfl) (HL.out.below (thru KW.out k)) HS.out.2.2 (by have := HB.out; have := KW.out.size; have := k.size; omega) HS.out.1 HS.out.2.1 hc (by rw [hnar]; exact narrow_left w2 B pb g rb fl.r (HE.out w2 k).2.2.1 hn1 hn2))
      clear hc hnar
      rw [hs1]
      go_upto_region 4 with (first
        | (go_at_call 64; refine (HF.out _).mono ?_; rintro e w1 ⟨rfl, k1⟩; have K1 := Lib.hid k1; clear e0 e1 e2 e3; obtain ⟨e0, e1, e2, e3⟩ := HE.out w1 k1; clear k1))
      go_wp2_with (first
        | (go_at_call 66; refine (HR.out _).mono ?_; rintro e w2 ⟨rfl, k2⟩; have K2 := Lib.hid (thru K1.out k2); clear k2)
        | (go_at_call 65; refine (HCH.out _ K2.out).mono ?_; rintro e w3 ⟨⟨v, rfl⟩, ⟨g', n', c', hl3, hg3⟩, hb3⟩; have H3 := Lib.hid (⟨hl3, hb3, hg3⟩ : Lst w3 B pb g' n' c' (shelvesD (fs ++ [fl])) ∧ But (two g pb) w2 w3 ∧ (g' = g ∨ w2.heap.size ≤ g')); clear hl3 hb3 hg3))
      go_end0
      exact ⟨⟨_, rfl⟩, ⟨g', n', c', H3.out.1, H3.out.2.2.elim .inl fun e => .inr (by have := (thru KW.out K2.out).size; omega)⟩, (But.of_below (thru KW.out K2.out)).trans H3.out.2.1 (fun _ _ q => q)⟩
    · by_cases hs2 : fl.s = 2
      · have hc : cntF fl = true := by unfold cntF; rw [HFU.out, hs2]; rfl
        have hnar : narF fl = fun p => (p.1, min p.2 fl.l) := by funext p; unfold narF; rw [if_neg hs1]
        have HCH := Lib.hid (fun w2 (k : Below W.heap.size W w2) => change_float B pb g n c fs fl 68 #[.pointer (some ⟨rb, 0, none⟩)] w2 (enters_of Tryz.func68 (by kernel_rfl) rfl) (HL.out.below (thru KW.out k)) HS.out.2.2 (by have := HB.out; have := KW.out.size; have := k.size; omega) HS.out.1 HS.out.2.1 hc (by rw [hnar]; exact narrow_right w2 B pb g rb fl.l (HE.out w2 k).1 hn1 hn2))
        clear hc hnar hs1
        rw [hs2]
        go_upto_region 6 with (first
          | (go_at_call 64; refine (HF.out _).mono ?_; rintro e w1 ⟨rfl, k1⟩; have K1 := Lib.hid k1; clear e0 e1 e2 e3; obtain ⟨e0, e1, e2, e3⟩ := HE.out w1 k1; clear k1))
        go_wp2_with (first
          | (go_at_call 66; refine (HR.out _).mono ?_; rintro e w2 ⟨rfl, k2⟩; have K2 := Lib.hid (thru K1.out k2); clear k2)
          | (go_at_call 65; refine (HCH.out _ K2.out).mono ?_; rintro e w3 ⟨⟨v, rfl⟩, ⟨g', n', c', hl3, hg3⟩, hb3⟩; have H3 := Lib.hid (⟨hl3, hb3, hg3⟩ : Lst w3 B pb g' n' c' (shelvesD (fs ++ [fl])) ∧ But (two g pb) w2 w3 ∧ (g' = g ∨ w2.heap.size ≤ g')); clear hl3 hb3 hg3))
        go_end0
        exact ⟨⟨_, rfl⟩, ⟨g', n', c', H3.out.1, H3.out.2.2.elim .inl fun e => .inr (by have := (thru KW.out K2.out).size; omega)⟩, (But.of_below (thru KW.out K2.out)).trans H3.out.2.1 (fun _ _ q => q)⟩
      · have hs1' : ¬ fl.s = 1 := hs1
        have hcn : cntF fl = false := by
          unfold cntF
          rw [show decide (fl.s = 1) = false by simp [hs1'], show decide (fl.s = 2) = false by simp [hs2]]
          simp
        have HCN := Lib.hid hcn
        clear hcn hs1'
        go_wp2_with (first
          | (go_at_call 64; refine (HF.out _).mono ?_; rintro e w1 ⟨rfl, k1⟩; have K1 := Lib.hid k1; clear k1))
        go_end0
        have kk := thru KW.out K1.out
        exact ⟨⟨_, rfl⟩, HSM.out HCN.out _ kk, But.of_below kk⟩

theorem padd_any (w : World) (B : Nat) (p : Addr) (fs : List Fl) (fl : Fl) (h : InL w B p fs) (hB : B ≤ w.heap.size) (hlen : fs.length < 1000) (hs : fs.all nearF = true) (hf : nearF fl = true) :
    Calls Tryz.prog 54 #[.pointer (some p), .int .i64 fl.s, .agg #[.int .i64 fl.l, .int .i64 fl.t, .int .i64 fl.r, .int .i64 fl.b]] w fun r w' => (∃ v, r = .returned v) ∧ InL w' B p (fs ++ [fl]) ∧ Below B w w' := by
  obtain ⟨-, pb, g, n, c, rfl, hl⟩ := h
  refine (padd_but w B pb g n c fs fl hl hB hlen hs hf).mono ?_
  rintro r w' ⟨hv, ⟨g', n', c', h1, -⟩, h2⟩
  refine ⟨hv, ⟨by rw [List.length_append]; simp; omega, pb, g', n', c', rfl, h1⟩, h2.below hB fun k q => ?_⟩
  rcases q with q | q
  · rw [q]; exact hl.glt.1
  · rw [q]; exact hl.hb

end Go.Proofs.YtfomhdhiibcdfaaGreat.Shelf
