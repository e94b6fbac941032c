/- A box that may be, of another kind. -/
import Derived.Test.YtkklepionbppdaaMath
namespace Go.Proofs.Ytkklepionbppdaa
open Go.RowKit Go.Sort

/-- Are its margins, its edges all 0? -/
def noM (b : Bx) : Bool := b.m0 == 0 && b.m1 == 0 && b.m2 == 0 && b.m3 == 0
def noE (b : Bx) : Bool := b.e0 == 0 && b.e1 == 0 && b.e2 == 0 && b.e3 == 0

/-- May a box be of a kind, as the law has it? -/
def okOf (b : Bx) (k : Int) : Bool :=
  ((k == 2) == !(b.s == 0)) && (if k = 2 then decide (0 ≤ b.w) else if k = 5 then (b.c == 0) && decide (0 ≤ b.w) && decide (0 ≤ b.h) && noM b && noE b else true)

theorem kinds_law (b : Bx) (k : Int) (hb : pickN (brokenOf b) = 0) (hk : 1 ≤ k ∧ k ≤ 5) : (pickN (brokenOf (b.kind k)) == 0) = okOf b k := by
  rw [good_iff] at hb
  obtain ⟨h1, h2, h3, h4, h5, h6, h7, h8, h9, h10, h11⟩ := hb
  have hs : 0 ≤ b.s ∧ b.s ≤ 2 := by
    unfold sideB at h5
    split at h5
    · simp at h5; omega
    · simp at h5; omega
  have hw : -1 ≤ b.w ∧ -1 ≤ b.h := by
    simp [sizeB] at h8; omega
  have he : 0 ≤ b.e0 ∧ 0 ≤ b.e1 ∧ 0 ≤ b.e2 ∧ 0 ≤ b.e3 := by
    simp [badE] at h10; omega
  have hG : Good (b.kind k) ↔ (sideB k b.s = true ∧ (k = 5 → b.c = 0) ∧ sizeB k b.w b.h = false ∧ [b.m0, b.m1, b.m2, b.m3].any (badM (k == 5)) = false ∧ [b.e0, b.e1, b.e2, b.e3].any (badE (k == 5)) = false) :=
    ⟨fun g => ⟨g.s, g.c5, g.z, g.bm, g.be⟩, fun ⟨g1, g2, g3, g4, g5⟩ => ⟨hk, h2, h3, h4, g1, h6, g2, g3, g4, g5, h11⟩⟩
  rw [Bool.eq_iff_iff, beq_iff_eq, good_iff, hG]
  clear hG h1 h2 h3 h4 h5 h6 h7 h8 h9 h10 h11
  obtain rfl | rfl | rfl | rfl | rfl : k = 1 ∨ k = 2 ∨ k = 3 ∨ k = 4 ∨ k = 5 := by omega
  all_goals
    simp [okOf, sideB, sizeB, badM, badE, noM, noE]
    omega

end Go.Proofs.Ytkklepionbppdaa
