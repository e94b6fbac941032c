/- The walk of StrutTells. -/
import Derived.Test.YtkjbimoflmkekaaStrutRaw
namespace Go.Proofs.Ytkjbimoflmkekaa.Strut
open Go.RowKit Go.Sort

theorem calls_same_below {P : Program} {f : FuncId} {args : Array Value} {w : World} {v : Value} (h : Calls P f args w fun e w' => e = .returned v ∧ w = w') :
    Calls P f args w fun e w' => e = .returned v ∧ Below w.heap.size w w' := h.mono fun _ _ ⟨he, hw⟩ => ⟨he, by subst hw; exact Below.refl _ _⟩

theorem most_is {A : Option Addr} {n c : Nat} {xs : List Int} {w W : World} {p : Int} {d : Nat} {os : Array Obj} (hp : mostOf xs = p) (hn : n = xs.length) (h60 : n ≤ 60) (hx : Nums w w.heap.size A xs) (hb : Below w.heap.size w W) :
    Calls Try.prog 26 #[.slice A n c] (grow (redrawn W d) os) fun e w' => e = .returned (.int .i64 p) ∧ Below (grow (redrawn W d) os).heap.size (grow (redrawn W d) os) w' := by
  subst hp; exact calls_same_below (most_any A n c xs _ hn (by omega) _ ((hx.thru hb).below (below_regrown _ _ _)))
theorem least_is {A : Option Addr} {n c : Nat} {xs : List Int} {w W : World} {p : Int} {d : Nat} {os : Array Obj} (hp : leastOf xs = p) (hn : n = xs.length) (h60 : n ≤ 60) (hx : Nums w w.heap.size A xs) (hb : Below w.heap.size w W) :
    Calls Try.prog 27 #[.slice A n c] (grow (redrawn W d) os) fun e w' => e = .returned (.int .i64 p) ∧ Below (grow (redrawn W d) os).heap.size (grow (redrawn W d) os) w' := by
  subst hp; exact calls_same_below (least_any A n c xs _ hn (by omega) _ ((hx.thru hb).below (below_regrown _ _ _)))
theorem rsum_is {A : Option Addr} {n c : Nat} {xs : List Int} {w W : World} {p q : Int} {d : Nat} {os : Array Obj} (hp : mostOf xs = p) (hq : leastOf xs = q) (hn : n = xs.length) (h60 : n ≤ 60) (hx : Nums w w.heap.size A xs) (hs : xs.all inB = true) (hb : Below w.heap.size w W) :
    Calls Try.prog 22 #[.slice A n c] (grow (redrawn W d) os) fun e w' => e = .returned (.int .i64 (p + q)) ∧ Below (grow (redrawn W d) os).heap.size (grow (redrawn W d) os) w' := by
  subst hp hq; exact calls_same_below (rsum_any A n c xs _ hn (by omega) _ ((hx.thru hb).below (below_regrown _ _ _)) hs)
theorem sum_is {p q : Int} (hb : (0 ≤ p ∧ p ≤ 1152921504606846976) ∧ (-1152921504606846976 ≤ q ∧ q ≤ 0)) (w : World) :
    Calls Try.prog 24 #[.agg #[.int .i64 p, .int .i64 q]] w fun e w' => e = .returned (.int .i64 (p + q)) ∧ Below w.heap.size w w' :=
  sum_any p q (by omega) (by omega) w

end Go.Proofs.Ytkjbimoflmkekaa.Strut
