/- Which boxes may be, of which kind; what a turned number does. -/
import Derived.Test.YtnmfgcdenngpfaaRecordNew
namespace Go.Proofs.Ytnmfgcdenngpfaa.Record
open Go.RowKit Go.Sort

theorem pick_zero : ∀ (l : List (Bool × Int)), (∀ x ∈ l, x.2 ≠ 0) → (pickN l = 0 ↔ ∀ x ∈ l, x.1 = false)
  | [], _ => by simp [pickN]
  | (true, n) :: t, h => by
    have := h (true, n) (by simp)
    simp [pickN]
    exact this
  | (false, n) :: t, h => by
    have := pick_zero t (fun x hx => h x (by simp [hx]))
    simp [pickN, this]

/-- What a box that may be is like. -/
structure Good (b : Bx) : Prop where
  k : 1 ≤ b.k ∧ b.k ≤ 5
  wh : (bigB b.w || bigB b.h) = false
  m : [b.m0, b.m1, b.m2, b.m3].any bigB = false
  e : [b.e0, b.e1, b.e2, b.e3].any bigB = false
  s : sideB b.k b.s = true
  c : 0 ≤ b.c ∧ b.c ≤ 3
  c5 : b.k = 5 → b.c = 0
  z : sizeB b.k b.w b.h = false
  bm : [b.m0, b.m1, b.m2, b.m3].any (badM (b.k == 5)) = false
  be : [b.e0, b.e1, b.e2, b.e3].any (badE (b.k == 5)) = false
  d : 0 ≤ b.d ∧ b.d ≤ 256

/-- The rules' list, in the document's words. -/
def listOf (b : Bx) : List (Bool × Int) :=
  [(beyB b.k 1 5, 4), ((bigB b.w || bigB b.h) || [b.m0, b.m1, b.m2, b.m3].any bigB || [b.e0, b.e1, b.e2, b.e3].any bigB, 10), (!sideB b.k b.s, 5), (beyB b.c 0 3 || ((b.k == 5) && !(b.c == 0)), 6),
    (sizeB b.k b.w b.h, 7), ([b.m0, b.m1, b.m2, b.m3].any (badM (b.k == 5)), 8), ([b.e0, b.e1, b.e2, b.e3].any (badE (b.k == 5)), 9), (beyB b.d 0 256, 11)]

theorem list_is (b : Bx) : brokenOf b = listOf b := by
  have h1 := at1 b _ _ _ rfl rfl rfl
  have h4 := at4 b _ rfl
  have h5 := at5 b _ _ rfl rfl
  have h6 := at6 b _ _ rfl rfl
  unfold brokenOf at h1 h4 h5 h6 ⊢
  simp only [List.getElem?_cons_zero, List.getElem?_cons_succ, Option.some.injEq, Prod.mk.injEq, and_true] at h1 h4 h5 h6
  unfold listOf
  rw [h1, h4, h5, h6]

theorem bey_no {n a b : Int} : beyB n a b = false ↔ a ≤ n ∧ n ≤ b := by
  simp [beyB]

theorem good_iff (b : Bx) : pickN (brokenOf b) = 0 ↔ Good b := by
  rw [list_is, pick_zero _ (by simp [listOf])]
  unfold listOf
  simp only [List.forall_mem_cons, Bool.or_eq_false_iff, Bool.not_eq_false', bey_no, List.not_mem_nil, false_imp_iff, implies_true, and_true]
  constructor
  · rintro ⟨h1, ⟨⟨h2, h3⟩, h4⟩, h5, ⟨h6, h7⟩, h8, h9, h10, h11⟩
    exact ⟨h1, by simpa using h2, h3, h4, h5, h6, fun e => by simpa [e] using h7, h8, h9, h10, h11⟩
  · rintro ⟨h1, h2, h3, h4, h5, h6, h7, h8, h9, h10, h11⟩
    refine ⟨h1, ⟨⟨by simpa using h2, h3⟩, h4⟩, h5, ⟨h6, ?_⟩, h8, h9, h10, h11⟩
    by_cases e : b.k = 5
    · simp [e, h7 e]
    · simp [e]

end Go.Proofs.Ytnmfgcdenngpfaa.Record
