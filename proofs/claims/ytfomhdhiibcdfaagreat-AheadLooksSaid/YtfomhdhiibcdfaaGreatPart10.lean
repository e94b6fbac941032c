/- Texts of this proof that follow each other, in one file. -/
import Derived.Test.YtfomhdhiibcdfaaGreatPart8
import Derived.Test.YtfomhdhiibcdfaaGreatPart9
import Derived.Test.YtfomhdhiibcdfaaGreatPart2
import Derived.Laws.StructEq
/-! A new box's block, one of whose numbers is turned. -/
namespace Go.Proofs.YtfomhdhiibcdfaaGreat.Record
open Go.RowKit Go.Sort

/-- A box of another kind. -/
abbrev Bx.kind (b : Bx) (k : Int) : Bx := { b with k := k }

theorem kind_in {w : World} {g : Nat} (b : Bx) {T : TypeId} (k : Int) (h : w.heap[g]? = some (.cells #[.int .i64 b.d, .int .i64 b.k, .int .i64 b.s, .int .i64 b.c, .int .i64 b.w, .int .i64 b.h, .int .i64 b.m0, .int .i64 b.m1, .int .i64 b.m2, .int .i64 b.m3, .int .i64 b.e0, .int .i64 b.e1, .int .i64 b.e2, .int .i64 b.e3] T)) :
    At (w.setCell ⟨g, 1, none⟩ (.int .i64 k)) g (b.kind k) := by
  have hlt := lt_of_block h
  exact At.of_block (T := T) (by simp [World.setCell, Array.getElem?_modify, h])

end Go.Proofs.YtfomhdhiibcdfaaGreat.Record

/-! Which boxes may be, of which kind; what a turned number does. -/
namespace Go.Proofs.YtfomhdhiibcdfaaGreat.Record
open Go.RowKit Go.Sort

theorem pick_zero : ∀ (l : List (Bool × Int)), (∀ x ∈ l, x.2 ≠ 0) → (pickN l = 0 ↔ ∀ x ∈ l, x.1 = false)
  | [], _ => by simp [pickN]
  | (true, n) :: t, h => by
    have := h (true, n) (by simp)
    simp [pickN]
    exact this
  | (false, n) :: t, h => by
    have := pick_zero t (fun x hx => h x (by simp [hx]))
    simp [pickN, this]

/-- What a box that may be is like. -/
structure Good (b : Bx) : Prop where
  k : 1 ≤ b.k ∧ b.k ≤ 5
  wh : (bigB b.w || bigB b.h) = false
  m : [b.m0, b.m1, b.m2, b.m3].any bigB = false
  e : [b.e0, b.e1, b.e2, b.e3].any bigB = false
  s : sideB b.k b.s = true
  c : 0 ≤ b.c ∧ b.c ≤ 3
  c5 : b.k = 5 → b.c = 0
  z : sizeB b.k b.w b.h = false
  bm : [b.m0, b.m1, b.m2, b.m3].any (badM (b.k == 5)) = false
  be : [b.e0, b.e1, b.e2, b.e3].any (badE (b.k == 5)) = false
  d : 0 ≤ b.d ∧ b.d ≤ 256

/-- The rules' list, in the document's words. -/
def listOf (b : Bx) : List (Bool × Int) :=
  [(beyB b.k 1 5, 4), ((bigB b.w || bigB b.h) || [b.m0, b.m1, b.m2, b.m3].any bigB || [b.e0, b.e1, b.e2, b.e3].any bigB, 10), (!sideB b.k b.s, 5), (beyB b.c 0 3 || ((b.k == 5) && !(b.c == 0)), 6),
    (sizeB b.k b.w b.h, 7), ([b.m0, b.m1, b.m2, b.m3].any (badM (b.k == 5)), 8), ([b.e0, b.e1, b.e2, b.e3].any (badE (b.k == 5)), 9), (beyB b.d 0 256, 11)]

theorem list_is (b : Bx) : brokenOf b = listOf b := by
  have h1 := at1 b _ _ _ rfl rfl rfl
  have h4 := at4 b _ rfl
  have h5 := at5 b _ _ rfl rfl
  have h6 := at6 b _ _ rfl rfl
  unfold brokenOf at h1 h4 h5 h6 ⊢
  simp only [List.getElem?_cons_zero, List.getElem?_cons_succ, Option.some.injEq, Prod.mk.injEq, and_true] at h1 h4 h5 h6
  unfold listOf
  rw [h1, h4, h5, h6]

theorem bey_no {n a b : Int} : beyB n a b = false ↔ a ≤ n ∧ n ≤ b := by
  simp [beyB]

theorem good_iff (b : Bx) : pickN (brokenOf b) = 0 ↔ Good b := by
  rw [list_is, pick_zero _ (by simp [listOf])]
  unfold listOf
  simp only [List.forall_mem_cons, Bool.or_eq_false_iff, Bool.not_eq_false', bey_no, List.not_mem_nil, false_imp_iff, implies_true, and_true]
  constructor
  · rintro ⟨h1, ⟨⟨h2, h3⟩, h4⟩, h5, ⟨h6, h7⟩, h8, h9, h10, h11⟩
    exact ⟨h1, by simpa using h2, h3, h4, h5, h6, fun e => by simpa [e] using h7, h8, h9, h10, h11⟩
  · rintro ⟨h1, h2, h3, h4, h5, h6, h7, h8, h9, h10, h11⟩
    refine ⟨h1, ⟨⟨by simpa using h2, h3⟩, h4⟩, h5, ⟨h6, ?_⟩, h8, h9, h10, h11⟩
    by_cases e : b.k = 5
    · simp [e, h7 e]
    · simp [e]

end Go.Proofs.YtfomhdhiibcdfaaGreat.Record

/-! The walk of RecordFits. -/
namespace Go.Proofs.YtfomhdhiibcdfaaGreat.Record
open Go.RowKit Go.Sort

theorem fits_is (p c : Int) (v : Bool) (hv : fitsB p c = v) (w : World) :
    Calls Tryz.prog 71 #[.int .i64 p, .int .i64 c] w fun e w' => e = .returned (.bool v) ∧ w = w' := by
  subst hv; exact fits_any p c w

theorem reffits_is (p c : Int) (v : Bool) (hv : fitsB p c = v) (w : World) :
    Calls Tryz.prog 32 #[.int .i64 p, .int .i64 c] w fun e w' => e = .returned (.bool v) ∧ Below w.heap.size w w' := by
  subst hv; exact reffits_any p c w

end Go.Proofs.YtfomhdhiibcdfaaGreat.Record

/-! Boxes that are held against each other. -/
namespace Go.Proofs.YtfomhdhiibcdfaaGreat.Script
open Go.RowKit Go.Sort Go.Proofs.YtfomhdhiibcdfaaGreat.Record

theorem eqArr (dd : Nat) (a b c d x y z u : Int) (w : World) : (Op.equalIn (dd + 2) 44 (.agg #[.int .i64 a, .int .i64 b, .int .i64 c, .int .i64 d]) (.agg #[.int .i64 x, .int .i64 y, .int .i64 z, .int .i64 u])).run Tryz.prog w = .ok (a == x && b == y && c == z && d == u) w := by
  have u3 := Tryz.underlying3
  have a3 := Tryz.isAgg3
  have z3 := Tryz.sizeOf3
  rw [show dd + 2 = (dd + 1) + 1 from rfl, Op.equalIn]
  simp only [Sem.run_bind, run_underlying Tryz.underlying44, Result.andThen_ok]
  simp only [Std.Legacy.Range.forIn_eq_forIn_range', Std.Legacy.Range.size, Nat.sub_zero, Nat.add_sub_cancel, Nat.div_one, List.range'_succ, List.range'_zero, List.forIn_cons, List.forIn_nil]
  go_simp
  by_cases h1 : a = x <;> by_cases h2 : b = y <;> by_cases h3 : c = z <;> by_cases h4 : d = u <;> simp [h1, h2, h3, h4]

theorem eqBox (b : Bx) (w : World) : (Op.equalIn 10000 64 b.v b.v).run Tryz.prog w = .ok true w := by
  have u3 := Tryz.underlying3
  have a3 := Tryz.isAgg3
  have z3 := Tryz.sizeOf3
  have a33 := Tryz.isAgg44
  have z33 := Tryz.sizeOf44
  have hS : Tryz.prog.underlying 64 = some (.struct (Tryz.prog.fieldsOf 64)) := by kernel_rfl
  rw [show (10000 : Nat) = 9999 + 1 from rfl, run_equalIn_agg w 9999 64 _ _ hS (by kernel_rfl)]
  simp only [Program.fieldsOf, Tryz.underlying64]
  have E := fun a b c d x y z u => eqArr 9997 a b c d x y z u w
  go_simp

end Go.Proofs.YtfomhdhiibcdfaaGreat.Script
