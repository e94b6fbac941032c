/- What the program's spaces answer: Last, Bottom, Clear, Floats, Rows, Bounds, Free. -/
import Derived.Test.YtpfcefflcmeobaaSpacePInP
namespace Go.Proofs.Ytpfcefflcmeobaa.Space
open Go.RowKit Go.Sort Go.Proofs.Ytpfcefflcmeobaa.Rect Go.Proofs.Ytpfcefflcmeobaa.More Go.Proofs.Ytpfcefflcmeobaa.Shelf
set_option linter.unusedVariables false
set_option linter.unusedSimpArgs false

set_option maxRecDepth 100000 in
set_option maxHeartbeats 600000 in
theorem plast_any (w : World) (F : Nat → Prop) (p : Addr) (fs : List Fl) (h : InP w F p fs) :
    Calls Try.prog 12 #[.pointer (some p)] w fun r w' => r = .returned (.tuple #[.int .i64 (lastD fs), .bool (decide (0 < fs.length))]) ∧ Below w.heap.size w w' := by
  obtain ⟨sb, rfl⟩ := inP_form h
  obtain ⟨pb, A, cA, hr, -⟩ := inP_row h
  have c2 : w.cell? ⟨sb, 2, none⟩ = some (.int .i64 (lastD fs)) := hr.at' 2
  have c3 : w.cell? ⟨sb, 3, none⟩ = some (.bool (decide (0 < fs.length))) := hr.at' 3
  generalize lastD fs = lv at c2 ⊢
  generalize decide (0 < fs.length) = v at c3 ⊢
  clear hr h
  go_enter Try.func12, Try.ntmps12
  go_upto_region 1 with fail
  go_quiet (fail)
  have q : Below w.heap.size w (w.drewN nq) := ⟨rfl, rfl, rfl, Nat.le_refl _, fun _ _ => rfl⟩
  clear c2 c3
  generalize w.drewN nq = w4 at q ⊢
  have HQ := Lib.hid q
  clear q
  go_wp2_with fail
  exact bodyPost_ret (v := .tuple #[.int .i64 lv, .bool v]) (by simp [results, Try.results12, go_sem]) rfl ⟨rfl, HQ.out⟩

set_option maxRecDepth 100000 in
set_option maxHeartbeats 600000 in
theorem bottom_at (w : World) (sb : Nat) (k : Nat) (m : Int) (s : Bool) (hk : k < 4) (h0 : w.cell? ⟨sb, 4 + k * 2, none⟩ = some (.int .i64 m)) (h1 : w.cell? ⟨sb, 4 + k * 2 + 1, none⟩ = some (.bool s)) :
    Calls Try.prog 14 #[.pointer (some ⟨sb, 0, none⟩), .int .i64 (k : Int)] w fun r w' => r = .returned (.tuple #[.int .i64 m, .bool s]) ∧ Below w.heap.size w w' := by
  have hk1 : ¬ (k : Int) < 0 := by omega
  have hk2 : ¬ (3 : Int) < (k : Int) := by omega
  have hk3 : (k : Int) < 4 := by omega
  clear hk
  go_enter Try.func14, Try.ntmps14
  go_upto_region 4 with fail
  generalize hW : World.alloc w _ = W
  obtain ⟨b, hb⟩ : ∃ b, w.heap.size = b := ⟨_, rfl⟩
  have hkW : Below w.heap.size w W := by rw [← hW]; exact ba1 _ _
  have e0 : W.cell? ⟨b, 0, none⟩ = some (.int .i64 m) := by rw [← hW, ← hb]; simp [go_sem]
  have e1 : W.cell? ⟨b, 1, none⟩ = some (.bool s) := by rw [← hW, ← hb]; simp [go_sem]
  have KW := Lib.hid hkW
  rw [hb]
  clear hW hkW hb h0 h1 hk1 hk2 hk3
  go_quiet (fail)
  have q : Below W.heap.size W (W.drewN nq) := ⟨rfl, rfl, rfl, Nat.le_refl _, fun _ _ => rfl⟩
  clear e0 e1
  generalize W.drewN nq = w4 at q ⊢
  have HQ := Lib.hid (thru KW.out q)
  clear q
  go_wp2_with fail
  exact bodyPost_ret (v := .tuple #[.int .i64 m, .bool s]) (by simp [results, Try.results14, go_sem]) rfl ⟨rfl, HQ.out⟩

theorem pbottom_any (w : World) (F : Nat → Prop) (p : Addr) (fs : List Fl) (c : Int) (h : InP w F p fs) (hc : 0 ≤ c ∧ c ≤ 3) :
    Calls Try.prog 14 #[.pointer (some p), .int .i64 c] w fun r w' => r = .returned (.tuple #[.int .i64 (botS fs c).1, .bool (botS fs c).2]) ∧ Below w.heap.size w w' := by
  obtain ⟨sb, rfl⟩ := inP_form h
  obtain ⟨pb, A, cA, hr, -⟩ := inP_row h
  obtain ⟨k, rfl⟩ : ∃ k : Nat, c = (k : Int) := ⟨c.toNat, by omega⟩
  have hk : k < 4 := by omega
  have key : w.cell? ⟨sb, 4 + k * 2, none⟩ = some (.int .i64 (botS fs (k : Int)).1) ∧ w.cell? ⟨sb, 4 + k * 2 + 1, none⟩ = some (.bool (botS fs (k : Int)).2) := by
    rw [hr.at', hr.at']
    rcases (show k = 0 ∨ k = 1 ∨ k = 2 ∨ k = 3 by omega) with rfl | rfl | rfl | rfl <;> exact ⟨rfl, rfl⟩
  exact bottom_at w sb k _ _ hk key.1 key.2

set_option maxRecDepth 100000 in
set_option maxHeartbeats 600000 in
theorem pclear_any (w : World) (F : Nat → Prop) (p : Addr) (fs : List Fl) (c y : Int) (h : InP w F p fs) (hc : 0 ≤ c ∧ c ≤ 3) :
    Calls Try.prog 16 #[.pointer (some p), .int .i64 c, .int .i64 y] w fun r w' => r = .returned (.int .i64 (clearS fs c y)) ∧ Below w.heap.size w w' := by
  have HB := Lib.hid (pbottom_any w F p fs c h hc)
  obtain ⟨v, hv⟩ : ∃ v, clearS fs c y = v := ⟨_, rfl⟩
  rw [hv]
  unfold clearS at hv
  clear h hc
  generalize (botS fs c).1 = m at hv HB
  generalize (botS fs c).2 = s at hv HB
  cases s
  · have hv2 : y = v := by simpa using hv
    subst hv2
    clear hv
    go_enter Try.func16, Try.ntmps16
    go_wp2_with (first
      | (go_at_call 14; refine HB.out.mono ?_; rintro e w1 ⟨rfl, k1⟩; have K1 := Lib.hid k1; clear k1))
    go_ret
    exact ⟨rfl, K1.out⟩
  · by_cases q : y < m
    · have hv2 : m = v := by simpa [q] using hv
      subst hv2
      clear hv
      go_enter Try.func16, Try.ntmps16
      go_wp2_with (first
        | (go_at_call 14; refine HB.out.mono ?_; rintro e w1 ⟨rfl, k1⟩; have K1 := Lib.hid k1; clear k1))
      go_ret
      exact ⟨rfl, K1.out⟩
    · have hv2 : y = v := by simpa [q] using hv
      subst hv2
      clear hv
      go_enter Try.func16, Try.ntmps16
      go_wp2_with (first
        | (go_at_call 14; refine HB.out.mono ?_; rintro e w1 ⟨rfl, k1⟩; have K1 := Lib.hid k1; clear k1))
      go_ret
      exact ⟨rfl, K1.out⟩

set_option maxRecDepth 100000 in
set_option maxHeartbeats 600000 in
theorem prows_any (y h : Int) (w : World) (hy : -2305843009213693952 ≤ y ∧ y ≤ 2305843009213693952) (hh : h ≤ 2305843009213693952) :
    Calls Try.prog 20 #[.int .i64 y, .int .i64 h] w fun r w' => r = .returned (.agg #[.int .i64 y, .int .i64 (y + highZ h)]) ∧ Below w.heap.size w w' := by
  obtain ⟨hy1, hy2⟩ := hy
  by_cases q : h < 1
  · rw [show highZ h = 1 by unfold highZ; rw [if_pos q]]
    go_enter Try.func20, Try.ntmps20
    go_wp2_with fail
    all_goals exact bodyPost_ret (v := .agg #[.int .i64 y, .int .i64 (y + 1)]) (by simp [results, Try.results20, go_sem]; try omega) rfl ⟨rfl, ba1 _ _⟩
  · rw [show highZ h = h by unfold highZ; rw [if_neg q]]
    have q2 : 1 ≤ h := by omega
    go_enter Try.func20, Try.ntmps20
    go_wp2_with fail
    all_goals exact bodyPost_ret (v := .agg #[.int .i64 y, .int .i64 (y + h)]) (by simp [results, Try.results20, go_sem]; try omega) rfl ⟨rfl, ba1 _ _⟩

set_option maxRecDepth 100000 in
set_option maxHeartbeats 600000 in
theorem pbounds_any (w : World) (F : Nat → Prop) (p : Addr) (fs : List Fl) (a z : Int) (h : InP w F p fs) (hs : fs.all nearF = true) (ha : -4503599627370496 ≤ a) (hz : z ≤ 4611686018427387904) :
    Calls Try.prog 24 #[.pointer (some p), .agg #[.int .i64 a, .int .i64 z]] w fun r w' => r = .returned (.agg #[.int .i64 (bandL fs a z), .int .i64 (bandR fs a z)]) ∧ Below w.heap.size w w' := by
  obtain ⟨sb, rfl⟩ := inP_form h
  obtain ⟨pb, hc, hl⟩ := inP_list h
  have HL := Lib.hid (fun w1 (k : Below w.heap.size w w1) => pband_any w1 0 ⟨pb, 0, none⟩ fs a z (inL_keep hl k) hs ha hz)
  have hsl : sb < w.heap.size := block_lt_of_cell hc
  generalize bandL fs a z = l at HL ⊢
  generalize bandR fs a z = r at HL ⊢
  clear h hl hs ha hz
  go_enter Try.func24, Try.ntmps24
  go_upto_region 1 with fail
  generalize hW : World.alloc (World.alloc w _) _ = W
  have hkW : Below w.heap.size w W := by rw [← hW]; exact ba2 _ _ _
  obtain ⟨b, hb⟩ : ∃ b, w.heap.size = b := ⟨_, rfl⟩
  have e0 : W.cell? ⟨b, 0, none⟩ = some (.int .i64 a) := by rw [← hW, ← hb]; simp [go_sem]
  have e1 : W.cell? ⟨b, 1, none⟩ = some (.int .i64 z) := by rw [← hW, ← hb]; simp [go_sem]
  have r0 : W.cell? ⟨b + 1, 0, none⟩ = some (.int .i64 0) := by rw [← hW, ← hb]; simp [go_sem]
  have r1 : W.cell? ⟨b + 1, 1, none⟩ = some (.int .i64 0) := by rw [← hW, ← hb]; simp [go_sem]
  have f0 : W.frozen? ⟨b + 1, 0, none⟩ = false := by rw [← hW, ← hb]; simp [go_sem]
  have f1 : W.frozen? ⟨b + 1, 1, none⟩ = false := by rw [← hW, ← hb]; simp [go_sem]
  have c0 := (hkW.cell (p := ⟨sb, 0, none⟩) hsl).trans hc
  have HE := Lib.hid (⟨e0, e1, c0, r0, r1, f0, f1⟩ : W.cell? ⟨b, 0, none⟩ = some (.int .i64 a) ∧ W.cell? ⟨b, 1, none⟩ = some (.int .i64 z) ∧ W.cell? ⟨sb, 0, none⟩ = some (.pointer (some ⟨pb, 0, none⟩)) ∧ W.cell? ⟨b + 1, 0, none⟩ = some (.int .i64 0) ∧ W.cell? ⟨b + 1, 1, none⟩ = some (.int .i64 0) ∧ W.frozen? ⟨b + 1, 0, none⟩ = false ∧ W.frozen? ⟨b + 1, 1, none⟩ = false)
  have KW := Lib.hid hkW
  have HB := Lib.hid hb
  rw [hb]
  clear hW hkW hb e0 e1 c0 r0 r1 f0 f1 hc hsl
  refine Hold.wp_region_hold [.val (.pointer (some ⟨sb, 0, none⟩)), .val (.pointer (some ⟨sb, 0, none⟩)), .val (.pointer (some ⟨sb, 0, none⟩)), .val (.pointer (some ⟨pb, 0, none⟩)), .val (.agg #[.int .i64 a, .int .i64 z])] (by kernel_rfl) (by kernel_rfl) (by kernel_rfl) ?_ ?_
  · simp only [Hold.fill, Hold.Leave.value]
    refine ⟨?_, ?_, ?_, ?_, ?_, trivial⟩
    · intro gg w' hw hk
      go_simp
      exact ⟨rfl, rfl⟩
    · intro gg w' hw hk
      go_simp
      exact ⟨rfl, rfl⟩
    · intro gg w' hw hk
      go_simp
      exact ⟨rfl, rfl⟩
    · intro gg w' hw hk
      have q0 := (hw.cell (p := ⟨sb, 0, none⟩) (block_lt_of_cell HE.out.2.2.1)).trans HE.out.2.2.1
      go_simp
      exact ⟨rfl, rfl⟩
    · intro gg w' hw hk
      have q0 := (hw.cell (p := ⟨b, 0, none⟩) (block_lt_of_cell HE.out.1)).trans HE.out.1
      have q1 := (hw.cell (p := ⟨b, 1, none⟩) (block_lt_of_cell HE.out.2.1)).trans HE.out.2.1
      go_simp
      exact ⟨rfl, rfl⟩
  intro gg w2 k2 hgg
  clear hgg
  simp only [Hold.fill, Hold.Leave.value, List.length_cons, List.length_nil, List.drop_succ_cons, List.drop_zero]
  have K2 := Lib.hid k2
  clear k2
  go_wp2_with (first
    | (go_at_call 37; refine (HL.out _ (thru KW.out K2.out)).mono ?_; rintro e w3 ⟨rfl, k3⟩; have K3 := Lib.hid (thru K2.out k3); have r0 := (K3.out.cell (p := ⟨b + 1, 0, none⟩) (block_lt_of_cell HE.out.2.2.2.1)).trans HE.out.2.2.2.1; have r1 := (K3.out.cell (p := ⟨b + 1, 1, none⟩) (block_lt_of_cell HE.out.2.2.2.2.1)).trans HE.out.2.2.2.2.1; have f0 := (K3.out.frozen (p := ⟨b + 1, 0, none⟩) (block_lt_of_cell HE.out.2.2.2.1)).trans HE.out.2.2.2.2.2.1; have f1 := (K3.out.frozen (p := ⟨b + 1, 1, none⟩) (block_lt_of_cell HE.out.2.2.2.2.1)).trans HE.out.2.2.2.2.2.2; clear k3))
  have hkk := ((thru KW.out K3.out).setCell (p := ⟨b + 1, 0, none⟩) (by have := HB.out; show w.heap.size ≤ b + 1; omega) (.int .i64 l)).setCell (p := ⟨b + 1, 1, none⟩) (by have := HB.out; show w.heap.size ≤ b + 1; omega) (.int .i64 r)
  exact bodyPost_ret (v := .agg #[.int .i64 l, .int .i64 r]) (by simp [results, Try.results24, go_sem, r0, r1]) rfl ⟨rfl, hkk⟩

set_option maxRecDepth 100000 in
set_option maxHeartbeats 600000 in
theorem pfree_any (w : World) (F : Nat → Prop) (p : Addr) (fs : List Fl) (x y a z : Int) (h : InP w F p fs) (hs : fs.all nearF = true) (ha : -4503599627370496 ≤ a) (hz : z ≤ 4611686018427387904) :
    Calls Try.prog 25 #[.pointer (some p), .agg #[.int .i64 x, .int .i64 y], .agg #[.int .i64 a, .int .i64 z]] w fun r w' => r = .returned (.agg #[.int .i64 (max x (bandL fs a z)), .int .i64 (min y (bandR fs a z))]) ∧ Below w.heap.size w w' := by
  have HL := Lib.hid (fun w1 (k : Below w.heap.size w w1) => pbounds_any w1 F p fs a z (inP_below h k) hs ha hz)
  generalize bandL fs a z = l at HL ⊢
  generalize bandR fs a z = r at HL ⊢
  have HC := Lib.hid (fun w1 => clip_any x y l r w1)
  obtain ⟨u, hu⟩ : ∃ u, max x l = u := ⟨_, rfl⟩
  obtain ⟨v, hv⟩ : ∃ v, min y r = v := ⟨_, rfl⟩
  rw [hu, hv] at HC ⊢
  clear h hs ha hz hu hv
  go_enter Try.func25, Try.ntmps25
  go_upto_region 1 with fail
  generalize hW : World.alloc (World.alloc (World.alloc w _) _) _ = W
  have hkW : Below w.heap.size w W := by rw [← hW]; exact ba3 _ _ _ _
  obtain ⟨b, hb⟩ : ∃ b, w.heap.size = b := ⟨_, rfl⟩
  have e0 : W.cell? ⟨b, 0, none⟩ = some (.int .i64 x) := by rw [← hW, ← hb]; simp [go_sem]
  have e1 : W.cell? ⟨b, 1, none⟩ = some (.int .i64 y) := by rw [← hW, ← hb]; simp [go_sem]
  have d0 : W.cell? ⟨b + 1, 0, none⟩ = some (.int .i64 a) := by rw [← hW, ← hb]; simp [go_sem]
  have d1 : W.cell? ⟨b + 1, 1, none⟩ = some (.int .i64 z) := by rw [← hW, ← hb]; simp [go_sem]
  have r0 : W.cell? ⟨b + 1 + 1, 0, none⟩ = some (.int .i64 0) := by rw [← hW, ← hb]; simp [go_sem]
  have r1 : W.cell? ⟨b + 1 + 1, 1, none⟩ = some (.int .i64 0) := by rw [← hW, ← hb]; simp [go_sem]
  have f0 : W.frozen? ⟨b + 1 + 1, 0, none⟩ = false := by rw [← hW, ← hb]; simp [go_sem]
  have f1 : W.frozen? ⟨b + 1 + 1, 1, none⟩ = false := by rw [← hW, ← hb]; simp [go_sem]
  have HE := Lib.hid (⟨e0, e1, d0, d1⟩ : W.cell? ⟨b, 0, none⟩ = some (.int .i64 x) ∧ W.cell? ⟨b, 1, none⟩ = some (.int .i64 y) ∧ W.cell? ⟨b + 1, 0, none⟩ = some (.int .i64 a) ∧ W.cell? ⟨b + 1, 1, none⟩ = some (.int .i64 z))
  have HR := Lib.hid (⟨r0, r1, f0, f1⟩ : W.cell? ⟨b + 1 + 1, 0, none⟩ = some (.int .i64 0) ∧ W.cell? ⟨b + 1 + 1, 1, none⟩ = some (.int .i64 0) ∧ W.frozen? ⟨b + 1 + 1, 0, none⟩ = false ∧ W.frozen? ⟨b + 1 + 1, 1, none⟩ = false)
  have KW := Lib.hid hkW
  have HB := Lib.hid hb
  rw [hb]
  clear hW hkW hb e0 e1 d0 d1 r0 r1 f0 f1
  refine Hold.wp_region_hold [.val (.agg #[.int .i64 x, .int .i64 y]), .val (.pointer (some p)), .val (.agg #[.int .i64 a, .int .i64 z]), .val (.agg #[.int .i64 l, .int .i64 r])] (by kernel_rfl) (by kernel_rfl) (by kernel_rfl) ?_ ?_
  · simp only [Hold.fill, Hold.Leave.value]
    refine ⟨?_, ?_, ?_, ?_, trivial⟩
    · intro gg w' hw hk
      have q0 := (hw.cell (p := ⟨b, 0, none⟩) (block_lt_of_cell HE.out.1)).trans HE.out.1
      have q1 := (hw.cell (p := ⟨b, 1, none⟩) (block_lt_of_cell HE.out.2.1)).trans HE.out.2.1
      go_simp
      exact ⟨rfl, rfl⟩
    · intro gg w' hw hk
      go_simp
      exact ⟨rfl, rfl⟩
    · intro gg w' hw hk
      have q0 := (hw.cell (p := ⟨b + 1, 0, none⟩) (block_lt_of_cell HE.out.2.2.1)).trans HE.out.2.2.1
      have q1 := (hw.cell (p := ⟨b + 1, 1, none⟩) (block_lt_of_cell HE.out.2.2.2)).trans HE.out.2.2.2
      go_simp
      exact ⟨rfl, rfl⟩
    · intro gg w' hw hk
      go_simp
      exact Hold.stays_call (HL.out w' (thru KW.out hw))
  intro gg w2 k2 hgg
  clear hgg
  simp only [Hold.fill, Hold.Leave.value, List.length_cons, List.length_nil, List.drop_succ_cons, List.drop_zero]
  have K2 := Lib.hid k2
  clear k2
  go_wp2_with (first
    | (go_at_call 38; refine (HC.out _).mono ?_; rintro e w3 ⟨rfl, k3⟩; have K3 := Lib.hid (thru K2.out k3); have r0 := (K3.out.cell (p := ⟨b + 1 + 1, 0, none⟩) (block_lt_of_cell HR.out.1)).trans HR.out.1; have r1 := (K3.out.cell (p := ⟨b + 1 + 1, 1, none⟩) (block_lt_of_cell HR.out.2.1)).trans HR.out.2.1; have f0 := (K3.out.frozen (p := ⟨b + 1 + 1, 0, none⟩) (block_lt_of_cell HR.out.1)).trans HR.out.2.2.1; have f1 := (K3.out.frozen (p := ⟨b + 1 + 1, 1, none⟩) (block_lt_of_cell HR.out.2.1)).trans HR.out.2.2.2; clear k3))
  have hkk := ((thru KW.out K3.out).setCell (p := ⟨b + 1 + 1, 0, none⟩) (by have := HB.out; show w.heap.size ≤ b + 1 + 1; omega) (.int .i64 u)).setCell (p := ⟨b + 1 + 1, 1, none⟩) (by have := HB.out; show w.heap.size ≤ b + 1 + 1; omega) (.int .i64 v)
  exact bodyPost_ret (v := .agg #[.int .i64 u, .int .i64 v]) (by simp [results, Try.results25, go_sem, r0, r1]) rfl ⟨rfl, hkk⟩

theorem infoPF : InfoE encF 41 36 40 :=
  ⟨Try.underlying36, .agg #[.int .i64 0, .int .i64 0, .int .i64 0, .int .i64 0, .int .i64 0], rfl, by kernel_rfl⟩

set_option maxHeartbeats 1000000 in
theorem fclone_some (g n c B : Nat) (xs : List Fl) (w : World) (h : MineE encF 41 w B (some ⟨g, 0, none⟩) n c xs) (hn : n ≤ 1000000) :
    Calls Try.prog 35 #[.slice (some ⟨g, 0, none⟩) n c] w fun r w' => (∃ A c', r = .returned (.slice A n c') ∧ MineE encF 41 w' w.heap.size A n c' xs) ∧ Below w.heap.size w w' := by
  have HM := Lib.hid h
  have hnil : ∀ w, (binOp .eql 36 (.slice (some ⟨g, 0, none⟩) n c) (.slice none 0 0)).run Try.prog w = .ok (.bool false) w := fun w => Lib.run_eql_slice_nil w _ 41 (some ⟨g, 0, none⟩) n c 0 0 Try.underlying36
  clear h
  go_enter Try.func35, Try.ntmps35
  go_upto_region 3 with fail
  go_wp2_with (first
    | (at_builtin; refine wpList_append_E (bytes := 40) (by omega) infoPF _ rfl _ _ rfl w.heap.size (some ⟨w.heap.size, 0, none⟩) 0 0 [] rfl (emptyE_mine encF 41 w w.heap.size (Nat.le_refl _)) (some ⟨g, 0, none⟩) n c xs rfl (MineE.src (MineE.alloc HM.out _)) (by omega) (by simp) ?_; intro A' c' w1 hA; have HA := Lib.hid hA; clear hA))
  go_ret
  refine ⟨⟨A', c', rfl, by have := HA.out.1; rwa [Nat.zero_add, List.nil_append] at this⟩, AppendedE.below HA.out (emptyE_mine encF 41 w w.heap.size (Nat.le_refl _)) (ba1 w _) (Nat.le_refl _) (by simp)⟩

set_option maxHeartbeats 1000000 in
theorem fclone_none (w : World) :
    Calls Try.prog 35 #[.slice none 0 0] w fun r w' => (∃ A c', r = .returned (.slice A 0 c') ∧ MineE encF 41 w' w.heap.size A 0 c' []) ∧ Below w.heap.size w w' := by
  have hnil : ∀ w, (binOp .eql 36 (.slice none 0 0) (.slice none 0 0)).run Try.prog w = .ok (.bool true) w := fun w => Lib.run_eql_slice_nil w _ 41 none 0 0 0 0 Try.underlying36
  go_enter Try.func35, Try.ntmps35
  go_wp2_with fail
  go_ret
  exact ⟨⟨none, 0, rfl, noneE_mine _ _ _ _⟩, Below.refl _ _⟩

set_option maxRecDepth 100000 in
set_option maxHeartbeats 600000 in
theorem pfloats_any (w : World) (F : Nat → Prop) (p : Addr) (fs : List Fl) (h : InP w F p fs) :
    Calls Try.prog 18 #[.pointer (some p)] w fun r w' => (∃ A c, r = .returned (.slice A fs.length c) ∧ MineE encF 41 w' w.heap.size A fs.length c fs) ∧ Below w.heap.size w w' := by
  have hf := h.1
  obtain ⟨sb, rfl⟩ := inP_form h
  obtain ⟨pb, A, cA, hr, hm⟩ := inP_row h
  have c1 : w.cell? ⟨sb, 1, none⟩ = some (.slice A fs.length cA) := hr.at' 1
  have hc : Calls Try.prog 35 #[.slice A fs.length cA] w fun r w' => (∃ A c', r = .returned (.slice A fs.length c') ∧ MineE encF 41 w' w.heap.size A fs.length c' fs) ∧ Below w.heap.size w w' := by
    rcases hm.2 with ⟨e, e0⟩ | ⟨g, cap, cur, e, -⟩
    · injection e with e1 e2 e3
      have efs : fs = [] := List.eq_nil_of_length_eq_zero e2
      subst e1 e3 efs
      exact fclone_none w
    · injection e with e1 e2 e3
      subst e1
      exact fclone_some g _ cA 0 fs w hm (by omega)
  have HC := Lib.hid hc
  clear h hr hm hc hf
  generalize fs.length = n at c1 HC ⊢
  go_enter Try.func18, Try.ntmps18
  go_wp2_with (first
    | (go_at_call 35; refine HC.out.mono ?_; rintro e w1 ⟨⟨A1, c1', rfl, hm⟩, k1⟩; have HM := Lib.hid hm; have K1 := Lib.hid k1; clear hm k1))
  go_ret
  exact ⟨⟨A1, c1', rfl, HM.out⟩, K1.out⟩

end Go.Proofs.Ytpfcefflcmeobaa.Space
