/- The law of one float more. -/
import Derived.Test.YtpfcefflcmeobaaSpacePApp
namespace Go.Proofs.Ytpfcefflcmeobaa.Space
open Go.RowKit Go.Sort Go.Proofs.Ytpfcefflcmeobaa.Rect Go.Proofs.Ytpfcefflcmeobaa.More Go.Proofs.Ytpfcefflcmeobaa.Shelf
set_option linter.unusedVariables false
set_option linter.unusedSimpArgs false

theorem gives_append {TS : TypeId} {a : Act} {o : Oper} {w : World} {R : World → Value → Prop} (s x : Operand) (ho : o.op = .call { callee := .builtin .append, args := #[s, x], argTypes := #[TS, TS] }) (v1 v2 : Value) (hs : a.eval s = v1) (hx : a.eval x = v2)
    (h : ∃ v w', (Builtin.append_ #[TS, TS] o.type #[v1, v2]).run Try.prog w = .ok v w' ∧ Below w.heap.size w w' ∧ R w' v) : Hold.gives Try.prog w R ((execOp a.eval o).run Try.prog w) := by
  obtain ⟨v, w', hr, h1, h2⟩ := h
  unfold execOp
  simp only [ho, resolve, invoke, builtin, Sem.run_bind, Sem.run_pure, Result.andThen_ok, List.map_toArray, List.map_cons, List.map_nil, hs, hx, hr]
  exact ⟨h1, h2⟩

theorem in_cleared {fs : List Fl} {c : Int} {f : Fl} : f ∈ cleared fs c ↔ f ∈ fs ∧ clrB c f.s = true := List.mem_filter

theorem oneF (w : World) (B : Nat) (hB : B ≤ w.heap.size) (f : Fl) : MineE encF 45 (w.alloc (.cells #[.int .i64 f.s, .int .i64 f.l, .int .i64 f.t, .int .i64 f.r, .int .i64 f.b] 45)) B (some ⟨w.heap.size, 0, none⟩) 1 1 [f] := by
  have := World.ownsRow_lit (e := 45) (size := 5) (base := B) w #[.int .i64 f.s, .int .i64 f.l, .int .i64 f.t, .int .i64 f.r, .int .i64 f.b] 1 hB (by unfold maxLen; omega) rfl
  simpa [MineE, encF, cellsFl] using this

theorem src_all {w : World} {B : Nat} {A : Option Addr} {fs : List Fl} {n c : Nat} (h : Floats w B A fs) (hn : n = fs.length) (hnil : A = none → c = 0) : SrcE encF w A n c fs := by
  refine ⟨hn.symm, hnil, fun j u hu => ?_⟩
  cases A with
  | none =>
    have hlt := (List.getElem?_eq_some_iff.1 hu).1
    rw [encF.flat_len] at hlt
    have h5 : encF.size = 5 := rfl
    rw [h5] at hlt
    obtain ⟨ad, e, -⟩ := h (j / 5) fs[j / 5] (List.getElem?_eq_getElem (by omega))
    cases e
  | some ad => exact ⟨ad, rfl, floats_cell h j u hu⟩

/-- The two numbers of a block that has been made. -/
theorem pair_at {w : World} {r : Nat} {a b : Value} {T : TypeId} (h : w.heap[r]? = some (.cells #[a, b] T (0, 0))) :
    w.cell? ⟨r, 0, none⟩ = some a ∧ w.cell? ⟨r, 1, none⟩ = some b ∧ w.frozen? ⟨r, 0, none⟩ = false ∧ w.frozen? ⟨r, 1, none⟩ = false :=
  ⟨by rw [cell_of_row w r 0 _ _ _ h]; rfl, by rw [cell_of_row w r 1 _ _ _ h]; rfl, frozen_of_row w r 0 _ _ h, frozen_of_row w r 1 _ _ h⟩

theorem bandL_snoc (fs : List Fl) (f : Fl) (a z : Int) : bandL (fs ++ [f]) a z = if hitF 1 a z f then max (bandL fs a z) f.r else bandL fs a z := by
  unfold bandL
  simp [List.foldl_append]
theorem bandR_snoc (fs : List Fl) (f : Fl) (a z : Int) : bandR (fs ++ [f]) a z = if hitF 2 a z f then min (bandR fs a z) f.l else bandR fs a z := by
  unfold bandR
  simp [List.foldl_append]
theorem band_more (fs : List Fl) (f : Fl) (a z : Int) : ¬ bandL (fs ++ [f]) a z < bandL fs a z ∧ ¬ bandR fs a z < bandR (fs ++ [f]) a z := by
  rw [bandL_snoc, bandR_snoc]
  constructor
  · split <;> omega
  · split <;> omega
theorem band_same (fs : List Fl) (f : Fl) (a z : Int) (h : z ≤ f.t) : bandL (fs ++ [f]) a z = bandL fs a z ∧ bandR (fs ++ [f]) a z = bandR fs a z := by
  have hn : ∀ side, ¬ hitF side a z f = true := fun side hh => by
    obtain ⟨c, s, h1, h2, -⟩ := hitF_iff.1 hh
    omega
  rw [bandL_snoc, bandR_snoc, if_neg (hn 1), if_neg (hn 2)]
  exact ⟨rfl, rfl⟩

section
variable {S : World → (Nat → Prop) → Addr → List Fl → Prop}

set_option maxRecDepth 100000 in
set_option maxHeartbeats 1000000 in
theorem more_any (hO : SpaceOk S) (A : Option Addr) (n c : Nat) (fs : List Fl) (f : Fl) (y h : Int) (w : World) (hn : n = fs.length) (hlen : n * 40 ≤ 140737488351232) (hx : Floats w w.heap.size A fs) (hnil : A = none → c = 0) (hc : n ≤ c) :
    Calls Try.prog 6 #[.slice A n c, f.v, .int .i64 y, .int .i64 h] w fun e w' => e = .returned (.bool true) ∧ Below w.heap.size w w' := by
  have HX := Lib.hid hx
  have HN := Lib.hid (⟨hn, hnil, hc⟩ : n = fs.length ∧ (A = none → c = 0) ∧ n ≤ c)
  clear hx hn hnil hc
  go_enter Try.func6, Try.ntmps6
  go_upto_region 1 with fail
  generalize hW : World.alloc w _ = W
  obtain ⟨fb, hfb⟩ : ∃ fb, w.heap.size = fb := ⟨_, rfl⟩
  have hkW : Below w.heap.size w W := by rw [← hW]; exact ba1 _ _
  have e0 : W.cell? ⟨fb, 0, none⟩ = some (.int .i64 f.s) := by rw [← hW, ← hfb]; simp [go_sem]
  have e1 : W.cell? ⟨fb, 1, none⟩ = some (.int .i64 f.l) := by rw [← hW, ← hfb]; simp [go_sem]
  have e2 : W.cell? ⟨fb, 2, none⟩ = some (.int .i64 f.t) := by rw [← hW, ← hfb]; simp [go_sem]
  have e3 : W.cell? ⟨fb, 3, none⟩ = some (.int .i64 f.r) := by rw [← hW, ← hfb]; simp [go_sem]
  have e4 : W.cell? ⟨fb, 4, none⟩ = some (.int .i64 f.b) := by rw [← hW, ← hfb]; simp [go_sem]
  rw [hfb]
  have hfl : fb < W.heap.size := block_lt_of_cell e0
  have HE := Lib.hid (fun w' (j : Below W.heap.size W w') => (⟨(j.cell (p := ⟨fb, 0, none⟩) hfl).trans e0, (j.cell (p := ⟨fb, 1, none⟩) hfl).trans e1, (j.cell (p := ⟨fb, 2, none⟩) hfl).trans e2, (j.cell (p := ⟨fb, 3, none⟩) hfl).trans e3, (j.cell (p := ⟨fb, 4, none⟩) hfl).trans e4⟩ : w'.cell? ⟨fb, 0, none⟩ = some (.int .i64 f.s) ∧ w'.cell? ⟨fb, 1, none⟩ = some (.int .i64 f.l) ∧ w'.cell? ⟨fb, 2, none⟩ = some (.int .i64 f.t) ∧ w'.cell? ⟨fb, 3, none⟩ = some (.int .i64 f.r) ∧ w'.cell? ⟨fb, 4, none⟩ = some (.int .i64 f.b)))
  have KW := Lib.hid hkW
  have HXW := Lib.hid (HX.out.thru hkW)
  clear hW hkW hfb e0 e1 e2 e3 e4 hfl
  refine Hold.wp_region_hold [.some (Emp W.heap.size), .val (.slice A n c), .some (Own fs n W.heap.size), .val f.v, .some (Own [f] 1 W.heap.size)] (by kernel_rfl) (by kernel_rfl) (by kernel_rfl) ?_ ?_
  · simp only [Hold.fill, Hold.Leave.value]
    refine ⟨?_, ?_, ?_, ?_, ?_, trivial⟩
    · refine ⟨emp_keeps _, fun gg w' hw hk => ?_⟩
      go_simp
      exact ⟨ba1 _ _, _, rfl, emptyE_mine encF 45 w' W.heap.size hw.size, by have := hw.size; simp; omega⟩
    · intro gg w' hw hk
      go_simp
      exact ⟨rfl, rfl⟩
    · refine ⟨own_keeps _ _ _, fun gg w' hw hk => ?_⟩
      have h1 := hk ⟨0, .data⟩ (by simp) rfl _ rfl
      have hg : ∃ b, gg 0 = .slice (some ⟨b, 0, none⟩) 0 0 ∧ MineE encF 45 w' W.heap.size (some ⟨b, 0, none⟩) 0 0 [] := by
        obtain ⟨b, q1, q2, q3⟩ := h1
        exact ⟨b, q1, q2⟩
      clear h1 hk
      have hsrc : SrcE encF w' A n c fs := src_all (HXW.out.thru hw) HN.out.1 HN.out.2.1
      have key : ∀ b, gg 0 = .slice (some ⟨b, 0, none⟩) 0 0 → MineE encF 45 w' W.heap.size (some ⟨b, 0, none⟩) 0 0 [] → ∃ A' c' w'', (Builtin.append_ #[22, 22] 22 #[gg 0, .slice A n c]).run Try.prog w' = .ok (.slice A' n c') w'' ∧ MineE encF 45 w'' W.heap.size A' n c' fs ∧ Below w'.heap.size w' w'' := fun b q1 q2 => by
        rw [q1]
        exact run_append_fresh (E := encF) infoF _ w' W.heap.size b q2 A n c fs hsrc (by simp only [maxLen]; omega) (by omega) hw.size
      have hk2 := hg.elim fun b q => key b q.1 q.2
      clear key hg hsrc
      refine gives_append (.tmp 18) (.tmp 19) rfl (gg 0) (.slice A n c) ?_ ?_ ?_
      · go_simp
      · go_simp
      · have hsz := hw.size
        exact hk2.elim fun A' h => h.elim fun c' h => h.elim fun w'' h => ⟨_, w'', h.1, h.2.2, A', c', rfl, h.2.1, Nat.le_trans hsz h.2.2.size⟩
    · intro gg w' hw hk
      have q := HE.out w' hw
      have q0 := q.1
      have q1 := q.2.1
      have q2 := q.2.2.1
      have q3 := q.2.2.2.1
      have q4 := q.2.2.2.2
      clear q
      go_simp
      exact ⟨rfl, rfl⟩
    · refine ⟨own_keeps _ _ _, fun gg w' hw hk => ?_⟩
      have hsz := hw.size
      go_simp
      exact ⟨ba1 _ _, _, _, rfl, oneF w' W.heap.size hsz f, by simp; omega⟩
  intro gg w2 k2 hgg
  simp only [Hold.fill, Hold.Leave.value, List.length_cons, List.length_nil, List.drop_succ_cons, List.drop_zero]
  have h2 := hgg 2 _ rfl
  have h4 := hgg 4 _ rfl
  obtain ⟨A1, c1, q1, m1, b1⟩ := h2
  obtain ⟨A2, c2, q2, m2, b2⟩ := h4
  obtain ⟨g2, rfl, -, -, -, -⟩ := m2.form (by omega)
  rw [q1, q2]
  have M1 := Lib.hid m1
  have M2 := Lib.hid m2
  have K2 := Lib.hid k2
  clear hgg q1 q2 m1 m2 b1 b2 k2
  refine wpList_append_wideE infoF _ rfl (.tmp 20) (.tmp 22) rfl W.heap.size A1 n c1 fs (by go_simp) M1.out ⟨g2, 0, none⟩ 1 c2 [f] (by go_simp) (MineE.src M2.out) (by simp only [maxLen]; omega) (by omega) K2.out.size ?_
  intro A3 c3 w3 h3
  have M3 := Lib.hid (⟨h3.1, AppendedE.below h3 M1.out K2.out (Nat.le_refl _) K2.out.size⟩ : MineE encF 45 w3 W.heap.size A3 (n + 1) c3 (fs ++ [f]) ∧ Below W.heap.size W w3)
  clear h3 M1 M2 K2
  have HFl := Lib.hid (floats_mine M3.out.1)
  have K3 := Lib.hid (thru KW.out M3.out.2)
  have hln : n + 1 = (fs ++ [f]).length := by rw [List.length_append, HN.out.1]; rfl
  have HFew := Lib.hid (fun w1 (k : Below w3.heap.size w3 w1) v hv => few_is A3 (n + 1) c3 (fs ++ [f]) 31 v w1 hln (by omega) (HFl.out.thru k) hv)
  have HK3 := Lib.hid (Below.refl w3.heap.size w3)
  have HLn := Lib.hid hln
  clear hln
  by_cases q1 : ((fs ++ [f]).all nearF && decide (((n + 1 : Nat) : Int) ≤ 31)) = true
  · have hn31 : n + 1 ≤ 1000000 := by
      have h1 := q1
      rw [Bool.and_eq_true] at h1
      have h4 := h1.2
      simp only [decide_eq_true_eq] at h4
      omega
    have HSd := Lib.hid (fun w1 (k : Below w3.heap.size w3 w1) v hv => sides_is A3 (n + 1) c3 (fs ++ [f]) v w1 HLn.out hn31 (HFl.out.thru k) hv)
    clear hn31
    by_cases q2 : (fs ++ [f]).all sideF = true
    · have Q1 := Lib.hid q1
      have Q2 := Lib.hid q2
      clear q1 q2
      by_cases y1 : y > 562949953421312
      · go_upto_region 3 with (first
          | (go_at_call 8; refine (pspeaks hO _).mono ?_; rintro e w4 ⟨rfl, k4⟩; have K4 := Lib.hid (thru HK3.out k4); clear k4)
          | (go_at_call 9; refine (HFew.out _ K4.out _ Q1.out).mono ?_; rintro e w5 ⟨rfl, k5⟩; have K5 := Lib.hid (thru K4.out k5); clear k5)
          | (go_at_call 10; refine (HSd.out _ K5.out _ Q2.out).mono ?_; rintro e w6 ⟨rfl, k6⟩; have K6 := Lib.hid (thru K5.out k6); clear k6))
        go_wp2_with (first
          | (go_at_call 8; refine (pspeaks hO _).mono ?_; rintro e w9 ⟨rfl, k9⟩; have K9 := Lib.hid (thru K6.out k9); clear k9))
        go_ret
        exact ⟨rfl, thru K3.out K9.out⟩
      · by_cases y2 : y < -562949953421312
        · go_upto_region 3 with (first
            | (go_at_call 8; refine (pspeaks hO _).mono ?_; rintro e w4 ⟨rfl, k4⟩; have K4 := Lib.hid (thru HK3.out k4); clear k4)
            | (go_at_call 9; refine (HFew.out _ K4.out _ Q1.out).mono ?_; rintro e w5 ⟨rfl, k5⟩; have K5 := Lib.hid (thru K4.out k5); clear k5)
            | (go_at_call 10; refine (HSd.out _ K5.out _ Q2.out).mono ?_; rintro e w6 ⟨rfl, k6⟩; have K6 := Lib.hid (thru K5.out k6); clear k6))
          go_wp2_with (first
            | (go_at_call 8; refine (pspeaks hO _).mono ?_; rintro e w9 ⟨rfl, k9⟩; have K9 := Lib.hid (thru K6.out k9); clear k9))
          go_ret
          exact ⟨rfl, thru K3.out K9.out⟩
        · by_cases h1 : h > 562949953421312
          · go_upto_region 3 with (first
              | (go_at_call 8; refine (pspeaks hO _).mono ?_; rintro e w4 ⟨rfl, k4⟩; have K4 := Lib.hid (thru HK3.out k4); clear k4)
              | (go_at_call 9; refine (HFew.out _ K4.out _ Q1.out).mono ?_; rintro e w5 ⟨rfl, k5⟩; have K5 := Lib.hid (thru K4.out k5); clear k5)
              | (go_at_call 10; refine (HSd.out _ K5.out _ Q2.out).mono ?_; rintro e w6 ⟨rfl, k6⟩; have K6 := Lib.hid (thru K5.out k6); clear k6))
            go_wp2_with (first
              | (go_at_call 8; refine (pspeaks hO _).mono ?_; rintro e w9 ⟨rfl, k9⟩; have K9 := Lib.hid (thru K6.out k9); clear k9))
            go_ret
            exact ⟨rfl, thru K3.out K9.out⟩
          · by_cases h2 : h < -562949953421312
            · go_upto_region 3 with (first
                | (go_at_call 8; refine (pspeaks hO _).mono ?_; rintro e w4 ⟨rfl, k4⟩; have K4 := Lib.hid (thru HK3.out k4); clear k4)
                | (go_at_call 9; refine (HFew.out _ K4.out _ Q1.out).mono ?_; rintro e w5 ⟨rfl, k5⟩; have K5 := Lib.hid (thru K4.out k5); clear k5)
                | (go_at_call 10; refine (HSd.out _ K5.out _ Q2.out).mono ?_; rintro e w6 ⟨rfl, k6⟩; have K6 := Lib.hid (thru K5.out k6); clear k6))
              go_wp2_with (first
                | (go_at_call 8; refine (pspeaks hO _).mono ?_; rintro e w9 ⟨rfl, k9⟩; have K9 := Lib.hid (thru K6.out k9); clear k9))
              go_ret
              exact ⟨rfl, thru K3.out K9.out⟩
            · go_upto_region 4 with (first
                | (go_at_call 8; refine (pspeaks hO _).mono ?_; rintro e w4 ⟨rfl, k4⟩; have K4 := Lib.hid (thru HK3.out k4); clear k4)
                | (go_at_call 9; refine (HFew.out _ K4.out _ Q1.out).mono ?_; rintro e w5 ⟨rfl, k5⟩; have K5 := Lib.hid (thru K4.out k5); clear k5)
                | (go_at_call 10; refine (HSd.out _ K5.out _ Q2.out).mono ?_; rintro e w6 ⟨rfl, k6⟩; have K6 := Lib.hid (thru K5.out k6); clear k6))
              have hall : fs.all nearF = true ∧ nearF f = true ∧ (fs ++ [f]).all nearF = true ∧ n ≤ 30 := by
                have h1 := Q1.out
                rw [Bool.and_eq_true] at h1
                have h2 := h1.1
                rw [List.all_append, Bool.and_eq_true] at h2
                have h3 : nearF f = true := by simpa using h2.2
                have h4 := h1.2
                simp only [decide_eq_true_eq] at h4
                exact ⟨h2.1, h3, h1.1, by omega⟩
              have hsid : fs.all sideF = true := by
                have h2 := Q2.out
                rw [List.all_append, Bool.and_eq_true] at h2
                exact h2.1
              have HALL := Lib.hid hall
              have HBe1 := Lib.hid (fun w1 (k : Below w3.heap.size w3 w1) => pbegin_any hO A n c fs w1 HN.out.1 (by omega) (HX.out.thru (thru K3.out k)) hall.1 hsid)
              have HBe2 := Lib.hid (fun w1 (k : Below w3.heap.size w3 w1) => pbegin_any hO A3 (n + 1) c3 (fs ++ [f]) w1 HLn.out (by omega) (HFl.out.thru k) hall.2.2.1 Q2.out)
              have hz1 := highZ_pos h
              have hz3 : highZ h ≤ max 1 h := by unfold highZ; split <;> omega
              have HRo := hO.rows y h
              obtain ⟨t, ht⟩ : ∃ t, y + highZ h = t := ⟨_, rfl⟩
              rw [ht] at HRo
              have HRo2 := Lib.hid (fun w => HRo w ⟨by omega, by omega⟩ (by omega))
              have hbm := band_more fs f y t
              have hbs := band_same fs f y t
              obtain ⟨L1, hL1⟩ : ∃ L, bandL fs y t = L := ⟨_, rfl⟩
              obtain ⟨R1, hR1⟩ : ∃ L, bandR fs y t = L := ⟨_, rfl⟩
              obtain ⟨L2, hL2⟩ : ∃ L, bandL (fs ++ [f]) y t = L := ⟨_, rfl⟩
              obtain ⟨R2, hR2⟩ : ∃ L, bandR (fs ++ [f]) y t = L := ⟨_, rfl⟩
              rw [hL1, hR1, hL2, hR2] at hbm hbs
              have HB1 := Lib.hid (fun w1 F p (h' : S w1 F p fs) => hL1 ▸ hR1 ▸ hO.bounds w1 F p fs y t h' hall.1 (by omega) (by omega))
              have HB2 := Lib.hid (fun w1 F p (h' : S w1 F p (fs ++ [f])) => hL2 ▸ hR2 ▸ hO.bounds w1 F p (fs ++ [f]) y t h' hall.2.2.1 (by omega) (by omega))
              have HBM := Lib.hid hbm
              have HBS := Lib.hid hbs
              clear hall hsid hz1 hz3 HRo ht hbm hbs hL1 hR1 hL2 hR2
              go_upto_region 7 with (first
                | (go_at_call 11; with_reducible refine (HBe1.out _ K6.out).mono ?_; rintro e u1 ⟨⟨p1, F1, rfl, hL, hF⟩, j1⟩; have N1 := Lib.hid (⟨hL, thru K6.out j1⟩ : S u1 F1 p1 fs ∧ Below w3.heap.size w3 u1); clear hL hF j1)
                | (go_at_call 11; with_reducible refine (HBe2.out _ N1.out.2).mono ?_; rintro e u2 ⟨⟨p2, F2, rfl, hL, hF⟩, j2⟩; have N2 := Lib.hid (⟨hO.thru N1.out.1 j2, hL, thru N1.out.2 j2⟩ : S u2 F1 p1 fs ∧ S u2 F2 p2 (fs ++ [f]) ∧ Below w3.heap.size w3 u2); clear hL hF j2))
              go_upto_region 8 with (first
                | (go_at_call 20; refine (HRo2.out _).mono ?_; rintro e u3 ⟨rfl, j3⟩; have N3 := Lib.hid (⟨hO.thru N2.out.1 j3, hO.thru N2.out.2.1 j3, thru N2.out.2.2 j3⟩ : S u3 F1 p1 fs ∧ S u3 F2 p2 (fs ++ [f]) ∧ Below w3.heap.size w3 u3); clear j3))
              generalize hV : World.alloc u3 _ = V
              obtain ⟨vb, hvb⟩ : ∃ vb, u3.heap.size = vb := ⟨_, rfl⟩
              have hkV : Below u3.heap.size u3 V := by rw [← hV]; exact ba1 _ _
              have e0 : V.cell? ⟨vb, 0, none⟩ = some (.int .i64 y) := by rw [← hV, ← hvb]; simp [go_sem]
              have e1 : V.cell? ⟨vb, 1, none⟩ = some (.int .i64 t) := by rw [← hV, ← hvb]; simp [go_sem]
              rw [hvb]
              have hvl : vb < V.heap.size := block_lt_of_cell e0
              have HV := Lib.hid (fun w' (j : Below V.heap.size V w') => (⟨(j.cell (p := ⟨vb, 0, none⟩) hvl).trans e0, (j.cell (p := ⟨vb, 1, none⟩) hvl).trans e1⟩ : w'.cell? ⟨vb, 0, none⟩ = some (.int .i64 y) ∧ w'.cell? ⟨vb, 1, none⟩ = some (.int .i64 t)))
              have NV := Lib.hid (⟨hO.thru N3.out.1 hkV, hO.thru N3.out.2.1 hkV, thru N3.out.2.2 hkV⟩ : S V F1 p1 fs ∧ S V F2 p2 (fs ++ [f]) ∧ Below w3.heap.size w3 V)
              clear hV hkV hvb e0 e1 hvl
              refine Told.wp_region_told [.val (.pointer (some p1)), .val (.agg #[.int .i64 y, .int .i64 t]), .val (.agg #[.int .i64 L1, .int .i64 R1]), .val (.pointer (some p2)), .val (.agg #[.int .i64 y, .int .i64 t]), .val (.agg #[.int .i64 L2, .int .i64 R2]), .box (.cells #[.int .i64 0, .int .i64 0] 49), .box (.cells #[.int .i64 0, .int .i64 0] 49)] (by kernel_rfl) (by kernel_rfl) (by kernel_rfl) ?_ ?_
              · simp only [Told.fill, Told.Leave.value]
                refine ⟨?_, ?_, ?_, ?_, ?_, ?_, ?_, ?_, trivial⟩
                · intro gg w' hw hk
                  go_simp
                  exact ⟨rfl, rfl⟩
                · intro gg w' hw hk
                  have q0 := (HV.out w' hw).1
                  have q1 := (HV.out w' hw).2
                  go_simp
                  exact ⟨rfl, rfl⟩
                · intro gg w' hw hk
                  go_simp
                  exact Told.stays_call (HB1.out w' F1 p1 (hO.thru NV.out.1 hw))
                · intro gg w' hw hk
                  go_simp
                  exact ⟨rfl, rfl⟩
                · intro gg w' hw hk
                  have q0 := (HV.out w' hw).1
                  have q1 := (HV.out w' hw).2
                  go_simp
                  exact ⟨rfl, rfl⟩
                · intro gg w' hw hk
                  go_simp
                  exact Told.stays_call (HB2.out w' F2 p2 (hO.thru NV.out.2.1 hw))
                · intro gg w' hw hk
                  go_simp
                · intro gg w' hw hk
                  go_simp
              intro gg w8 k8 hbox hap
              obtain ⟨g8, h8⟩ := hbox 6 _ _ rfl rfl
              obtain ⟨g9, h9⟩ := hbox 7 _ _ rfl rfl
              have hne := hap 6 7 _ _ _ _ (by decide) rfl rfl rfl rfl
              clear hbox hap
              simp only [Told.fill, Told.Leave.value, List.length_cons, List.length_nil, List.drop_succ_cons, List.drop_zero]
              generalize gg 6 = r at g8 h8 hne ⊢
              generalize gg 7 = s at g9 h9 hne ⊢
              obtain ⟨a0, a1, f0, f1⟩ := pair_at h8
              obtain ⟨b0, b1, d0, d1⟩ := pair_at h9
              have K8 := Lib.hid k8
              clear h8 h9 k8
              go_simp
              go_upto_region 9 with fail
              generalize hZ : World.setCell (World.setCell (World.setCell (World.setCell w8 _ _) _ _) _ _) _ _ = Z
              have hkZ : Below V.heap.size V Z := by
                rw [← hZ]
                exact (((K8.out.setCell (p := ⟨r, 0, none⟩) g8 _).setCell (p := ⟨r, 1, none⟩) g8 _).setCell (p := ⟨s, 0, none⟩) g9 _).setCell (p := ⟨s, 1, none⟩) g9 _
              have z0 : Z.cell? ⟨r, 0, none⟩ = some (.int .i64 L1) := by rw [← hZ]; simp [go_sem, hne, Ne.symm hne, a0, a1, b0, b1]
              have z1 : Z.cell? ⟨r, 1, none⟩ = some (.int .i64 R1) := by rw [← hZ]; simp [go_sem, hne, Ne.symm hne, a0, a1, b0, b1]
              have z2 : Z.cell? ⟨s, 0, none⟩ = some (.int .i64 L2) := by rw [← hZ]; simp [go_sem, hne, Ne.symm hne, a0, a1, b0, b1]
              have z3 : Z.cell? ⟨s, 1, none⟩ = some (.int .i64 R2) := by rw [← hZ]; simp [go_sem, hne, Ne.symm hne, a0, a1, b0, b1]
              have hv1 := (HV.out Z hkZ).2
              have hKZ := thru (thru M3.out.2 NV.out.2.2) hkZ
              have hf2 := (HE.out Z hKZ).2.2.1
              have NZ := Lib.hid (⟨hO.thru NV.out.1 hkZ, hO.thru NV.out.2.1 hkZ, thru (thru K3.out NV.out.2.2) hkZ, hKZ⟩ : S Z F1 p1 fs ∧ S Z F2 p2 (fs ++ [f]) ∧ Below w.heap.size w Z ∧ Below W.heap.size W Z)
              have hge := HBM.out.1
              have hle := HBM.out.2
              clear hZ hkZ hKZ a0 a1 f0 f1 b0 b1 d0 d1 g8 g9 hne
              go_cut [96] (fun v wx => v = .bool false ∧ wx = Z)
              case first =>
                by_cases ht : t ≤ f.t
                · have hbs := HBS.out ht
                  have e1 := hbs.1
                  have e2 := hbs.2
                  clear hbs
                  subst e1 e2
                  have heq := eqSpan_same L2 R2 Z
                  go_wp2_with fail
                  go_meet
                  first
                    | exact ⟨rfl, rfl⟩
                    | exact ⟨by rw [decide_eq_false (show ¬ L2 < L1 by have := HBM.out.1; omega), decide_eq_false (show ¬ R1 < R2 by have := HBM.out.2; omega)]; rfl, rfl⟩
                · go_wp2_with fail
                  go_meet
                  first
                    | exact ⟨rfl, rfl⟩
                    | exact ⟨by rw [decide_eq_false (show ¬ L2 < L1 by have := HBM.out.1; omega), decide_eq_false (show ¬ R1 < R2 by have := HBM.out.2; omega)]; rfl, rfl⟩
              case rest =>
                obtain ⟨rfl, rfl⟩ := hcut
                clear z0 z1 z2 z3 hv1 hf2 hge hle
                go_wp2_with fail
                go_loopw [97] (fun i wr => ∃ k : Nat, k ≤ 4 ∧ i = .int .i64 (k : Int) ∧ Hid (S wr F1 p1 fs ∧ S wr F2 p2 (fs ++ [f]) ∧ Below wc.heap.size wc wr)) (fun i _ => 4 - (intOf i).toNat)
                case atStart => exact ⟨0, by omega, rfl, Lib.hid ⟨NZ.out.1, NZ.out.2.1, Below.refl _ _⟩⟩
                case round =>
                  obtain ⟨k, hk, rfl, H⟩ := hrel
                  by_cases hlt : k < 4
                  · have hki : (k : Int) < 4 := by omega
                    have hk0 : ¬ (k : Int) < 0 := by omega
                    have hC2 := fun w1 (h : S w1 F2 p2 (fs ++ [f])) => hO.clear w1 F2 p2 (fs ++ [f]) (k : Int) y h HALL.out.2.2.1 ⟨by omega, by omega⟩
                    have hC1 := fun w1 (h : S w1 F1 p1 fs) => hO.clear w1 F1 p1 fs (k : Int) y h HALL.out.1 ⟨by omega, by omega⟩
                    have hmo : clearS fs (k : Int) y ≤ clearS (fs ++ [f]) (k : Int) y := clearS_mono y fun g hg => in_cleared.2 ⟨List.mem_append_left _ (in_cleared.1 hg).1, (in_cleared.1 hg).2⟩
                    obtain ⟨v1, hv1⟩ : ∃ v, clearS fs (k : Int) y = v := ⟨_, rfl⟩
                    obtain ⟨v2, hv2⟩ : ∃ v, clearS (fs ++ [f]) (k : Int) y = v := ⟨_, rfl⟩
                    rw [hv1] at hC1 hmo
                    rw [hv2] at hC2 hmo
                    have hnl : ¬ v2 < v1 := by omega
                    have HC1 := Lib.hid hC1
                    have HC2 := Lib.hid hC2
                    clear hC1 hC2 hmo hv1 hv2
                    go_wp2_with (first
                      | (go_at_call 16; with_reducible refine (HC2.out _ H.out.2.1).mono ?_; rintro e x1 ⟨rfl, j1⟩; have X1 := Lib.hid (⟨hO.thru H.out.1 j1, hO.thru H.out.2.1 j1, thru H.out.2.2 j1⟩ : S x1 F1 p1 fs ∧ S x1 F2 p2 (fs ++ [f]) ∧ Below wc.heap.size wc x1); clear j1)
                      | (go_at_call 16; with_reducible refine (HC1.out _ X1.out.1).mono ?_; rintro e x2 ⟨rfl, j2⟩; have X2 := Lib.hid (⟨hO.thru X1.out.1 j2, hO.thru X1.out.2.1 j2, thru X1.out.2.2 j2⟩ : S x2 F1 p1 fs ∧ S x2 F2 p2 (fs ++ [f]) ∧ Below wc.heap.size wc x2); clear j2))
                    go_roundw
                    case rel => exact ⟨k + 1, by omega, by go_num, X2⟩
                    case measure => simp [intOf]; omega
                  · obtain rfl : k = 4 := by omega
                    have hla := fun w1 (h : S w1 F2 p2 (fs ++ [f])) => hO.last w1 F2 p2 (fs ++ [f]) h HALL.out.2.2.1
                    have hpos : decide (0 < (fs ++ [f]).length) = true := by simp
                    have hge2 : f.t ≤ lastD (fs ++ [f]) := lastD_ge _ _ (by simp)
                    obtain ⟨lv, hlv⟩ : ∃ lv, lastD (fs ++ [f]) = lv := ⟨_, rfl⟩
                    rw [hpos, hlv] at hla
                    rw [hlv] at hge2
                    have HLa := Lib.hid hla
                    have HE2 := Lib.hid (fun w' (j : Below wr.heap.size wr w') => (HE.out w' (thru (thru NZ.out.2.2.2 H.out.2.2) j)).2.2.1)
                    clear hla hpos hlv hlt
                    go_wp2_with (first
                      | (go_at_call 12; refine (HLa.out _ H.out.2.1).mono ?_; rintro e x3 ⟨rfl, j3⟩; have K9 := Lib.hid (thru (thru NZ.out.2.2.1 H.out.2.2) j3); have hf2 := HE2.out _ j3; clear j3))
                    go_ret
                    exact ⟨rfl, K9.out⟩
    · have Q1 := Lib.hid q1
      have Q2 := Lib.hid (show (fs ++ [f]).all sideF = false by simpa using q2)
      clear q1 q2
      go_upto_region 3 with (first
        | (go_at_call 8; refine (pspeaks hO _).mono ?_; rintro e w4 ⟨rfl, k4⟩; have K4 := Lib.hid (thru HK3.out k4); clear k4)
        | (go_at_call 9; refine (HFew.out _ K4.out _ Q1.out).mono ?_; rintro e w5 ⟨rfl, k5⟩; have K5 := Lib.hid (thru K4.out k5); clear k5)
        | (go_at_call 10; refine (HSd.out _ K5.out _ Q2.out).mono ?_; rintro e w6 ⟨rfl, k6⟩; have K6 := Lib.hid (thru K5.out k6); clear k6))
      go_wp2_with (first
        | (go_at_call 8; refine (pspeaks hO _).mono ?_; rintro e w9 ⟨rfl, k9⟩; have K9 := Lib.hid (thru K6.out k9); clear k9))
      go_ret
      exact ⟨rfl, thru K3.out K9.out⟩
  · have Q1 := Lib.hid (show ((fs ++ [f]).all nearF && decide (((n + 1 : Nat) : Int) ≤ 31)) = false by simpa using q1)
    clear q1
    go_upto_region 3 with (first
      | (go_at_call 8; refine (pspeaks hO _).mono ?_; rintro e w4 ⟨rfl, k4⟩; have K4 := Lib.hid (thru HK3.out k4); clear k4)
      | (go_at_call 9; refine (HFew.out _ K4.out _ Q1.out).mono ?_; rintro e w5 ⟨rfl, k5⟩; have K5 := Lib.hid (thru K4.out k5); clear k5))
    go_wp2_with (first
      | (go_at_call 8; refine (pspeaks hO _).mono ?_; rintro e w9 ⟨rfl, k9⟩; have K9 := Lib.hid (thru K5.out k9); clear k9))
    go_ret
    exact ⟨rfl, thru K3.out K9.out⟩

end

end Go.Proofs.Ytpfcefflcmeobaa.Space
