/- The contracts of the document's looks at wants and floats, and of the law's own conversion. -/
import Derived.Test.YtkabpflbedpbaaaPart13
namespace Go.Proofs.Ytkabpflbedpbaaa.Place
open Go.RowKit Go.Sort Go.Proofs.Ytkabpflbedpbaaa.Rect Go.Proofs.Ytkabpflbedpbaaa.More Go.Proofs.Ytkabpflbedpbaaa.Shelf Go.Proofs.Ytkabpflbedpbaaa.Space
set_option linter.unusedVariables false
set_option linter.unusedSimpArgs false

abbrev Wt.v (x : Wt) : Value := .agg #[.int .i64 x.s, .int .i64 x.c, .int .i64 x.f, .int .i64 x.t, .int .i64 x.wd, .int .i64 x.ht, .int .i64 x.y]

/-- The seven numbers of a want that lies at a block. -/
def AtW (w : World) (b : Nat) (x : Wt) : Prop :=
  w.cell? ⟨b, 0, none⟩ = some (.int .i64 x.s) ∧ w.cell? ⟨b, 1, none⟩ = some (.int .i64 x.c) ∧ w.cell? ⟨b, 2, none⟩ = some (.int .i64 x.f) ∧ w.cell? ⟨b, 3, none⟩ = some (.int .i64 x.t) ∧ w.cell? ⟨b, 4, none⟩ = some (.int .i64 x.wd) ∧ w.cell? ⟨b, 5, none⟩ = some (.int .i64 x.ht) ∧ w.cell? ⟨b, 6, none⟩ = some (.int .i64 x.y)

theorem AtW.below {w w' : World} {b : Nat} {x : Wt} (h : AtW w b x) (k : Below w.heap.size w w') : AtW w' b x := by
  obtain ⟨h0, h1, h2, h3, h4, h5, h6⟩ := h
  have hb := block_lt_of_cell h0
  exact ⟨(k.cell (p := ⟨b, 0, none⟩) hb).trans h0, (k.cell (p := ⟨b, 1, none⟩) hb).trans h1, (k.cell (p := ⟨b, 2, none⟩) hb).trans h2, (k.cell (p := ⟨b, 3, none⟩) hb).trans h3, (k.cell (p := ⟨b, 4, none⟩) hb).trans h4, (k.cell (p := ⟨b, 5, none⟩) hb).trans h5, (k.cell (p := ⟨b, 6, none⟩) hb).trans h6⟩

theorem AtW.block {w : World} {b : Nat} {x : Wt} (h : AtW w b x) : b < w.heap.size := block_lt_of_cell h.1

theorem atW_boxed (w : World) (x : Wt) (T : TypeId) : AtW (w.alloc (.cells #[.int .i64 x.s, .int .i64 x.c, .int .i64 x.f, .int .i64 x.t, .int .i64 x.wd, .int .i64 x.ht, .int .i64 x.y] T)) w.heap.size x := by
  refine ⟨?_, ?_, ?_, ?_, ?_, ?_, ?_⟩ <;> simp [go_sem]

set_option maxHeartbeats 400000 in
theorem wantOf_any (x : Wt) (w : World) :
    Calls Try.prog 14 #[x.v] w fun e w' => e = .returned x.v ∧ Below w.heap.size w w' := by
  go_enter Try.func14, Try.ntmps14
  go_wp2
  all_goals exact bodyPost_ret (v := x.v) (by simp [results, Try.results14, go_sem]) rfl ⟨rfl, by first | exact ba1 _ _ | exact ba2 _ _ _⟩

theorem thruS {S : World → (Nat → Prop) → Addr → List Fl → Prop} (hO : SpaceOk S) {w w' : World} {F : Nat → Prop} {p : Addr} {fs : List Fl} (h : S w F p fs) (k : Below w.heap.size w w') : S w' F p fs :=
  hO.keep _ _ _ (fun _ => False) _ _ h (But.of_below k) (fun _ _ h => h)

/-! Is a want right? -/

theorem all_w (xs : List Int) (k : Nat) (h : k < xs.length) (y : Int) (hy : xs.getD k 0 = y) (hb : inW y = false) : xs.all inW = false := by
  rw [List.all_eq_false]
  refine ⟨y, ?_, by rw [hb]; simp⟩
  rw [← hy]; simp [List.getD, h]

set_option maxRecDepth 100000 in
set_option maxHeartbeats 1000000 in
theorem right_is (x : Wt) (v : Bool) (hv : rightW x = v) (w : World) :
    Calls Try.prog 12 #[x.v] w fun e w' => e = .returned (.bool v) ∧ Below w.heap.size w w' := by
  obtain ⟨xs, hxs⟩ : ∃ xs : List Int, x.nums = xs := ⟨_, rfl⟩
  obtain ⟨c, hc⟩ : ∃ c : Bool, ((x.s == 1 || x.s == 2) && decide (0 ≤ x.c) && decide (x.c ≤ 3) && decide (x.f ≤ x.t)) = c := ⟨_, rfl⟩
  have HXS := Lib.hid hxs
  have HC := Lib.hid hc
  have HV := Lib.hid (show (xs.all inW && c) = v by rw [← hv, ← hc, ← hxs]; rfl)
  clear hv hxs hc
  go_enter Try.func12, Try.ntmps12
  go_upto_region 1 with fail
  generalize hW : World.alloc w _ = W
  obtain ⟨b0, hb0⟩ : ∃ b0, w.heap.size = b0 := ⟨_, rfl⟩
  have KW := Lib.hid (show Below w.heap.size w W by rw [← hW]; exact ba1 _ _)
  have AW := Lib.hid (show AtW W b0 x by rw [← hW, ← hb0]; exact atW_boxed _ _ _)
  rw [hb0]
  clear hW hb0
  obtain ⟨c0, c1, c2, c3, c4, c5, c6⟩ := AW.out
  go_wp2_with fail
  generalize hV : World.alloc W _ = V
  obtain ⟨rb, hrb⟩ : ∃ rb, W.heap.size = rb := ⟨_, rfl⟩
  have hkV : Below W.heap.size W V := by rw [← hV]; exact ba1 _ _
  have hcs : ∀ k : Nat, k < 5 → V.cell? ⟨rb, k, none⟩ = some (.int .i64 (xs.getD k 0)) := by
    intro k hk
    rw [← hV, ← hrb, ← HXS.out]
    match k, hk with
    | 0, _ => simp [go_sem, Wt.nums]
    | 1, _ => simp [go_sem, Wt.nums]
    | 2, _ => simp [go_sem, Wt.nums]
    | 3, _ => simp [go_sem, Wt.nums]
    | 4, _ => simp [go_sem, Wt.nums]
    | k + 5, h => omega
  rw [hrb]
  have HCS := Lib.hid hcs
  have AV := Lib.hid (AW.out.below hkV)
  have KV := Lib.hid (thru KW.out hkV)
  have hlx := Lib.hid (show xs.length = 5 by rw [← HXS.out]; rfl)
  clear hV hkV hrb hcs c0 c1 c2 c3 c4 c5 c6 AW KW
  go_loop [17] (fun i => ∃ k : Nat, k ≤ 5 ∧ i = .int .i64 (k : Int) ∧ Hid (∀ j, j < k → inW (xs.getD j 0) = true)) (fun i => 5 - (intOf i).toNat)
  case atStart => exact ⟨0, by omega, rfl, Lib.hid fun j hj => by omega⟩
  case round =>
    obtain ⟨k, hk, rfl, H⟩ := hrel
    by_cases hlt : k < 5
    · have hki : (k : Int) < 5 := by omega
      have hk0 : ¬ (k : Int) < 0 := by omega
      have hcell := HCS.out k hlt
      obtain ⟨y, hxk⟩ : ∃ y, xs.getD k 0 = y := ⟨_, rfl⟩
      rw [hxk] at hcell
      have HXK := Lib.hid hxk
      clear hxk
      by_cases d1 : y > 281474976710656
      · have hvf : v = false := by rw [← HV.out, all_w xs k (by rw [hlx.out]; exact hlt) y HXK.out (by rw [← Bool.not_eq_true, inW_iff]; omega)]; rfl
        subst hvf
        go_wp2_with fail
        go_ret
        exact ⟨rfl, KV.out⟩
      · by_cases d2 : y < -281474976710656
        · have hvf : v = false := by rw [← HV.out, all_w xs k (by rw [hlx.out]; exact hlt) y HXK.out (by rw [← Bool.not_eq_true, inW_iff]; omega)]; rfl
          subst hvf
          go_wp2_with fail
          go_ret
          exact ⟨rfl, KV.out⟩
        · have HJ := Lib.hid (show ∀ j, j < k + 1 → inW (xs.getD j 0) = true from fun j hj => by
            rcases (show j < k ∨ j = k by omega) with e | e
            · exact H.out j e
            · rw [e, HXK.out, inW_iff]; omega)
          go_wp2_with fail
          go_round
          case rel => exact ⟨k + 1, by omega, by go_num, HJ⟩
          case measure => simp [intOf]; omega
    · obtain rfl : k = 5 := by omega
      have hall : xs.all inW = true := by
        rw [List.all_eq_true]
        intro y hy
        obtain ⟨j, hj, rfl⟩ := List.getElem_of_mem hy
        have := H.out j (by rw [hlx.out] at hj; exact hj)
        rwa [List.getD_eq_getElem?_getD, List.getElem?_eq_getElem hj] at this
      have hcv : c = v := by rw [← HV.out, hall]; rfl
      subst hcv
      clear H hlt hk hall
      obtain ⟨c0, c1, c2, c3, c4, c5, c6⟩ := AV.out
      go_upto_region 7 with fail
      go_cut [2] (fun t wx => t = .bool c ∧ wx = V)
      case first => as_aux_lemma =>
        go_wp2_with fail
        all_goals (go_meet; exact ⟨congrArg Value.bool (by rw [← HC.out, Bool.eq_iff_iff]; simp_all <;> omega), rfl⟩)
      case rest =>
      obtain ⟨rfl, rfl⟩ := hcut
      go_wp2_with fail
      go_ret
      exact ⟨rfl, KV.out⟩

end Go.Proofs.Ytkabpflbedpbaaa.Place
