/- A box that may be, one number of which is turned. -/
import Derived.Test.YtkklepionbppdaaMath
namespace Go.Proofs.Ytkklepionbppdaa
open Go.RowKit Go.Sort

/-- A box with another margin, another edge. -/
def turnM (b : Bx) (t : Int) : Nat → Bx
  | 0 => { b with m0 := t }
  | 1 => { b with m1 := t }
  | 2 => { b with m2 := t }
  | _ => { b with m3 := t }
def turnE (b : Bx) (t : Int) : Nat → Bx
  | 0 => { b with e0 := t }
  | 1 => { b with e1 := t }
  | 2 => { b with e2 := t }
  | _ => { b with e3 := t }

def wantM (b : Bx) (t : Int) : Int := if bigB t = true then 10 else if badM (b.k == 5) t = true then 8 else 0
def wantE (b : Bx) (t : Int) : Int := if bigB t = true then 10 else if badE (b.k == 5) t = true then 9 else 0

theorem any4 {f : Int → Bool} {a b c d : Int} (h : [a, b, c, d].any f = false) : f a = false ∧ f b = false ∧ f c = false ∧ f d = false := by
  simpa using h

theorem turnM_law (b : Bx) (t : Int) (j : Nat) (hj : j < 4) (hb : pickN (brokenOf b) = 0) : pickN (brokenOf (turnM b t j)) = wantM b t := by
  rw [good_iff] at hb
  obtain ⟨h1, h2, h3, h4, h5, h6, h7, h8, h9, h10, h11⟩ := hb
  obtain ⟨m0, m1, m2, m3⟩ := any4 h3
  obtain ⟨n0, n1, n2, n3⟩ := any4 h9
  have g1 : beyB b.k 1 5 = false := bey_no.2 h1
  have g6 : (beyB b.c 0 3 || ((b.k == 5) && !(b.c == 0))) = false := by
    rw [bey_no.2 h6]
    by_cases e : b.k = 5
    · simp [h7 e]
    · simp [e]
  have g11 : beyB b.d 0 256 = false := bey_no.2 h11
  rw [list_is]
  unfold wantM
  obtain rfl | rfl | rfl | rfl : j = 0 ∨ j = 1 ∨ j = 2 ∨ j = 3 := by omega
  all_goals
    cases y : bigB t <;> cases z : badM (b.k == 5) t
    all_goals
      unfold listOf turnM
      simp only [g1, h2, h4, h5, g6, h8, h10, g11, List.any_cons, List.any_nil, m0, m1, m2, m3, n0, n1, n2, n3, y, z]
      rfl

theorem turnE_law (b : Bx) (t : Int) (j : Nat) (hj : j < 4) (hb : pickN (brokenOf b) = 0) : pickN (brokenOf (turnE b t j)) = wantE b t := by
  rw [good_iff] at hb
  obtain ⟨h1, h2, h3, h4, h5, h6, h7, h8, h9, h10, h11⟩ := hb
  obtain ⟨m0, m1, m2, m3⟩ := any4 h4
  obtain ⟨n0, n1, n2, n3⟩ := any4 h10
  have g1 : beyB b.k 1 5 = false := bey_no.2 h1
  have g6 : (beyB b.c 0 3 || ((b.k == 5) && !(b.c == 0))) = false := by
    rw [bey_no.2 h6]
    by_cases e : b.k = 5
    · simp [h7 e]
    · simp [e]
  have g11 : beyB b.d 0 256 = false := bey_no.2 h11
  rw [list_is]
  unfold wantE
  obtain rfl | rfl | rfl | rfl : j = 0 ∨ j = 1 ∨ j = 2 ∨ j = 3 := by omega
  all_goals
    cases y : bigB t <;> cases z : badE (b.k == 5) t
    all_goals
      unfold listOf turnE
      simp only [g1, h2, h3, h5, g6, h8, h9, g11, List.any_cons, List.any_nil, m0, m1, m2, m3, n0, n1, n2, n3, y, z]
      rfl

theorem margin_in {w : World} {g : Nat} (b : Bx) {T : TypeId} (t : Int) (j : Nat) (hj : j < 4) (h : w.heap[g]? = some (.cells #[.int .i64 b.d, .int .i64 b.k, .int .i64 b.s, .int .i64 b.c, .int .i64 b.w, .int .i64 b.h, .int .i64 b.m0, .int .i64 b.m1, .int .i64 b.m2, .int .i64 b.m3, .int .i64 b.e0, .int .i64 b.e1, .int .i64 b.e2, .int .i64 b.e3] T)) :
    At (w.setCell ⟨g, 6 + j, none⟩ (.int .i64 t)) g (turnM b t j) := by
  have hlt := lt_of_block h
  obtain rfl | rfl | rfl | rfl : j = 0 ∨ j = 1 ∨ j = 2 ∨ j = 3 := by omega
  all_goals exact At.of_block (T := T) (by simp [World.setCell, Array.getElem?_modify, h, turnM])

theorem edge_in {w : World} {g : Nat} (b : Bx) {T : TypeId} (t : Int) (j : Nat) (hj : j < 4) (h : w.heap[g]? = some (.cells #[.int .i64 b.d, .int .i64 b.k, .int .i64 b.s, .int .i64 b.c, .int .i64 b.w, .int .i64 b.h, .int .i64 b.m0, .int .i64 b.m1, .int .i64 b.m2, .int .i64 b.m3, .int .i64 b.e0, .int .i64 b.e1, .int .i64 b.e2, .int .i64 b.e3] T)) :
    At (w.setCell ⟨g, 10 + j, none⟩ (.int .i64 t)) g (turnE b t j) := by
  have hlt := lt_of_block h
  obtain rfl | rfl | rfl | rfl : j = 0 ∨ j = 1 ∨ j = 2 ∨ j = 3 := by omega
  all_goals exact At.of_block (T := T) (by simp [World.setCell, Array.getElem?_modify, h, turnE])

end Go.Proofs.Ytkklepionbppdaa
