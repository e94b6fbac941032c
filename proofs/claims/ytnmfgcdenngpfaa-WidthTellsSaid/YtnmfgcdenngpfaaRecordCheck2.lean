/- The contract of Check. -/
import Derived.Test.YtnmfgcdenngpfaaRecordCheck
namespace Go.Proofs.Ytnmfgcdenngpfaa.Record
open Go.RowKit Go.Sort

/-- The first error of those whose rule is broken. -/
def pickN : List (Bool × Int) → Int
  | [] => 0
  | (true, n) :: _ => n
  | (false, _) :: t => pickN t

/-- Which rules a box breaks, with their errors. -/
def brokenOf (b : Bx) : List (Bool × Int) :=
  [(beyB b.k 1 5, 4), ([b.w, b.h].any bigB || [b.m0, b.m1, b.m2, b.m3].any bigB || [b.e0, b.e1, b.e2, b.e3].any bigB, 10), (!sideB b.k b.s, 5), (beyB b.c 0 3 || ((b.k == 5) && !(b.c == 0)), 6),
    (decide (b.w < leastW b.k) || decide (b.h < leastH b.k), 7), ((b.k == 5) && !(b.m0 == 0 && b.m1 == 0 && b.m2 == 0 && b.m3 == 0), 8),
    (decide (minOf [b.e0, b.e1, b.e2, b.e3] < 0) || ((b.k == 5) && !(b.e0 == 0 && b.e1 == 0 && b.e2 == 0 && b.e3 == 0)), 9), (beyB b.d 0 256, 11)]

/-- What the i-th rule answers, as its closure tells it. -/
theorem closure_is (i f : Nat) (cap : Array Value) (s : Int) (q g a : Nat) (b : Bx) (w : World) (h : Ready w q g a b) (v : Bool) (hi : (brokenOf b)[i]? = some (v, s))
    (hc : w.cell? ⟨q, 2 * i + 1, none⟩ = some (.func (.func f) #[] cap)) :
    Calls Try.prog f cap w fun e w' => e = .returned (.bool v) ∧ Below w.heap.size w w' := by
  obtain ⟨h1, h2, h3⟩ := h
  obtain ⟨-, k0, -, k1, -, k2, -, k3, -, k4, -, k5, -, k6, -, k7⟩ := h3
  have hlt : i < 8 := by
    have := List.getElem?_eq_some_iff.1 hi
    obtain ⟨hl, -⟩ := this
    simpa [brokenOf] using hl
  obtain rfl | rfl | rfl | rfl | rfl | rfl | rfl | rfl : i = 0 ∨ i = 1 ∨ i = 2 ∨ i = 3 ∨ i = 4 ∨ i = 5 ∨ i = 6 ∨ i = 7 := by omega
  all_goals
    simp only [brokenOf, List.getElem?_cons_zero, List.getElem?_cons_succ, Option.some.injEq, Prod.mk.injEq] at hi
    obtain ⟨hv, -⟩ := hi
    simp only [Nat.reduceMul, Nat.reduceAdd, k0, k1, k2, k3, k4, k5, k6, k7, Option.some.injEq, Value.func.injEq, Fn.func.injEq, true_and] at hc
    obtain ⟨hf, hcap⟩ := hc
    subst hf hcap hv
  · exact r1_is g b w h1 _ rfl
  · exact r2_is g b w h1 _ _ _ rfl rfl rfl
  · exact r3_is g b w h1 _ rfl
  · exact r4_is g a b w h1 _ h2 _ rfl
  · exact r5_is g b w h1 _ _ rfl rfl _ rfl
  · exact r6_is g a b w h1 _ h2
  · exact r7_is g a b w h1 _ h2 _ rfl
  · exact r8_is g b w h1 _ rfl

end Go.Proofs.Ytnmfgcdenngpfaa.Record
