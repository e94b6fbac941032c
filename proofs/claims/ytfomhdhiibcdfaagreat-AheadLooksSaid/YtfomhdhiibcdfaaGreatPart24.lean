/- New, Shelves, After of the program's list. -/
import Derived.Test.YtfomhdhiibcdfaaGreatPart23
import Derived.Lib.SliceRun
namespace Go.Proofs.YtfomhdhiibcdfaaGreat.Shelf
open Go.RowKit Go.Sort Go.Proofs.YtfomhdhiibcdfaaGreat.Rect Go.Proofs.YtfomhdhiibcdfaaGreat.More
set_option linter.unusedVariables false

section
variable {β : Type} {F : Int → β}

theorem dw_ge : ∀ (xs : List (Int × β)) (a : Int), DW F a xs → ∀ z ∈ xs, a ≤ z.1
  | [], _, h, _, _ => h.elim
  | [(t, b)], a, h, z, hz => by
    rw [List.mem_singleton.1 hz]
    have := h.1
    dsimp only
    omega
  | (t, b) :: (t2, b2) :: r, a, ⟨h1, h2, h4, h5⟩, z, hz => by
    rcases List.mem_cons.1 hz with e | e
    · rw [e]; dsimp only; omega
    · have := dw_ge ((t2, b2) :: r) t2 h5 z e
      omega

theorem dw_rise : ∀ (xs : List (Int × β)) (a : Int), DW F a xs → ∀ (i j : Nat) (x y : Int × β), i ≤ j → xs[i]? = some x → xs[j]? = some y → x.1 ≤ y.1
  | [], _, h, _, _, _, _, _, _, _ => h.elim
  | (t, b) :: r, a, h, 0, j, x, y, _, hx, hy => by
    have e : (t, b) = x := by simpa using hx
    subst e
    have h1 := dw_head h
    have h2 := dw_ge _ a h y (List.mem_of_getElem? hy)
    omega
  | [(t, b)], a, h, i + 1, j, x, y, _, hx, _ => by simp at hx
  | (t, b) :: (t2, b2) :: r, a, h, i + 1, j, x, y, hij, hx, hy => by
    obtain ⟨k, rfl⟩ : ∃ k, j = k + 1 := ⟨j - 1, by omega⟩
    rw [List.getElem?_cons_succ] at hx hy
    exact dw_rise ((t2, b2) :: r) t2 h.2.2.2 i k x y (by omega) hx hy

theorem thr_of {xs : List (Int × β)} {a : Int} (h : DW F a xs) (y : Int) : ∃ k, Thr xs y k := by
  refine ⟨xs.findIdx (fun x => decide (y < x.1)), List.findIdx_le_length, fun i x hx => ?_⟩
  have hi := (List.getElem?_eq_some_iff.1 hx).1
  by_cases hk : xs.findIdx (fun x => decide (y < x.1)) ≤ i
  · rw [show decide (xs.findIdx (fun x => decide (y < x.1)) ≤ i) = true by simp [hk]]
    have hlt : xs.findIdx (fun x => decide (y < x.1)) < xs.length := by omega
    have h1 := List.findIdx_getElem (w := hlt)
    have h2 := dw_rise xs a h _ i _ x hk (List.getElem?_eq_getElem hlt) hx
    have h3 := of_decide_eq_true h1
    simp only [decide_eq_true_eq]
    omega
  · rw [show decide (xs.findIdx (fun x => decide (y < x.1)) ≤ i) = false by simp [hk]]
    have h1 := List.not_of_lt_findIdx (p := fun x : Int × β => decide (y < x.1)) (xs := xs) (i := i) (by omega)
    rw [(List.getElem?_eq_some_iff.1 hx).2] at h1
    simpa using h1

theorem thr_find {xs : List (Int × β)} {y : Int} {k : Nat} (h : Thr xs y k) : xs.find? (fun x => decide (y < x.1)) = xs[k]? := by
  have hno : (xs.take k).find? (fun x => decide (y < x.1)) = none := by
    rw [List.find?_eq_none]
    intro z hz
    obtain ⟨j, hj⟩ := List.getElem?_of_mem hz
    rw [List.getElem?_take] at hj
    split at hj
    · rename_i hjk
      rw [h.2 j z hj]
      simp; omega
    · cases hj
  have e : xs = xs.take k ++ xs.drop k := (List.take_append_drop k xs).symm
  cases hx : xs[k]? with
  | none =>
    have hk := List.getElem?_eq_none_iff.1 hx
    rw [e, List.find?_append, hno, List.drop_of_length_le hk]
    rfl
  | some x =>
    have hk := (List.getElem?_eq_some_iff.1 hx)
    obtain ⟨hk1, hk2⟩ := hk
    rw [e, List.find?_append, hno, List.drop_eq_getElem_cons hk1, hk2]
    have hp : decide (y < x.1) = true := by rw [h.2 k x hx]; simp
    simp [hp]

end

/-- The list of what the floats leave free. -/
def InL (w : World) (B : Nat) (p : Addr) (fs : List Fl) : Prop := fs.length ≤ 1000 ∧ ∃ pb g n c, p = ⟨pb, 0, none⟩ ∧ Lst w B pb g n c (shelvesD fs)

theorem infoPs : InfoE encSh 120 121 24 :=
  ⟨Tryz.underlying121, .agg #[.int .i64 0, .int .i64 0, .int .i64 0], rfl, by kernel_rfl⟩

theorem inL_keep {w w' : World} {B : Nat} {p : Addr} {fs : List Fl} (h : InL w B p fs) (k : Below w.heap.size w w') : InL w' B p fs := by
  obtain ⟨hf, pb, g, n, c, e, hl⟩ := h
  exact ⟨hf, pb, g, n, c, e, hl.below k⟩

set_option maxRecDepth 100000 in
set_option maxHeartbeats 1000000 in
theorem new_any (w : World) : Calls Tryz.prog 39 #[] w fun r w' => (∃ p, r = .returned (.pointer (some p)) ∧ InL w' w.heap.size p []) ∧ Below w.heap.size w w' := by
  go_enter Tryz.func39, Tryz.ntmps39
  go_wp2_with fail
  go_ret
  refine ⟨⟨_, rfl, Nat.zero_le _, w.heap.size + 1, w.heap.size, 1, 1, rfl, by omega, by simp [go_sem], by simp [go_sem], by omega, ?_⟩, ba2 _ _ _⟩
  have := World.ownsRow_lit (e := 120) (size := 3) (base := w.heap.size) w #[.int .i64 (-4503599627370496), .int .i64 (-4503599627370496), .int .i64 4503599627370496] 1 (Nat.le_refl _) (by unfold maxLen; omega) rfl
  have h1 : MineE encSh 120 (w.alloc (.cells #[.int .i64 (-4503599627370496), .int .i64 (-4503599627370496), .int .i64 4503599627370496] 120)) w.heap.size (some ⟨w.heap.size, 0, none⟩) 1 1 (shelvesD []) := by
    simpa [MineE, encSh, shelvesD, far, nextF] using this
  exact MineE.alloc h1 _

end Go.Proofs.YtfomhdhiibcdfaaGreat.Shelf
