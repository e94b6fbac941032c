/- What the rules come to, in the document's own words. -/
import Derived.Test.YtfomhdhiibcdfaaGreatPart6
namespace Go.Proofs.YtfomhdhiibcdfaaGreat.Record
open Go.RowKit Go.Sort

theorem at1 (b : Bx) (x y z : Bool) (h1 : (bigB b.w || bigB b.h) = x) (h2 : [b.m0, b.m1, b.m2, b.m3].any bigB = y) (h3 : [b.e0, b.e1, b.e2, b.e3].any bigB = z) : (brokenOf b)[1]? = some (x || y || z, 10) := by
  subst h1 h2 h3
  show some (([b.w, b.h].any bigB || [b.m0, b.m1, b.m2, b.m3].any bigB || [b.e0, b.e1, b.e2, b.e3].any bigB, (10 : Int))) = _
  rw [show [b.w, b.h].any bigB = (bigB b.w || bigB b.h) by simp]

theorem at1_wh (b : Bx) (h1 : (bigB b.w || bigB b.h) = true) : (brokenOf b)[1]? = some (true, 10) := by
  rw [at1 b _ _ _ h1 rfl rfl]; rfl
theorem at1_m (b : Bx) (h2 : [b.m0, b.m1, b.m2, b.m3].any bigB = true) : (brokenOf b)[1]? = some (true, 10) := by
  rw [at1 b _ _ _ rfl h2 rfl, Bool.or_true, Bool.true_or]
theorem at1_e (b : Bx) (h3 : [b.e0, b.e1, b.e2, b.e3].any bigB = true) : (brokenOf b)[1]? = some (true, 10) := by
  rw [at1 b _ _ _ rfl rfl h3, Bool.or_true]

/-- Are the sizes wrong? In the document's order. -/
def sizeB (k w h : Int) : Bool := decide (w < -1) || decide (h < -1) || ((w == -1) && ((k == 2) || (k == 5))) || ((h == -1) && (k == 5))

theorem at4 (b : Bx) (v : Bool) (hv : sizeB b.k b.w b.h = v) : (brokenOf b)[4]? = some (v, 7) := by
  subst hv
  show some ((decide (b.w < leastW b.k) || decide (b.h < leastH b.k), (7 : Int))) = _
  have : (decide (b.w < leastW b.k) || decide (b.h < leastH b.k)) = sizeB b.k b.w b.h := by
    rw [Bool.eq_iff_iff]
    by_cases h2 : b.k = 2
    · simp [leastW, leastH, sizeB, h2]; omega
    · by_cases h5 : b.k = 5
      · simp [leastW, leastH, sizeB, h5]; omega
      · simp [leastW, leastH, sizeB, h2, h5]
  rw [this]

/-- A margin that its box may not have; an edge that its box may not have. -/
def badM (u : Bool) (m : Int) : Bool := u && !(m == 0)
def badE (u : Bool) (m : Int) : Bool := decide (m < 0) || (u && !(m == 0))

theorem at5 (b : Bx) (u v : Bool) (hu : (b.k == 5) = u) (hv : [b.m0, b.m1, b.m2, b.m3].any (badM u) = v) : (brokenOf b)[5]? = some (v, 8) := by
  subst hu hv
  show some (((b.k == 5) && !(b.m0 == 0 && b.m1 == 0 && b.m2 == 0 && b.m3 == 0), (8 : Int))) = _
  simp only [List.any_cons, List.any_nil, badM]
  cases (b.k == 5) <;> cases (b.m0 == 0) <;> cases (b.m1 == 0) <;> cases (b.m2 == 0) <;> cases (b.m3 == 0) <;> rfl

theorem min_neg (a b c d : Int) : decide (minOf [a, b, c, d] < 0) = (decide (a < 0) || decide (b < 0) || decide (c < 0) || decide (d < 0)) := by
  rw [Bool.eq_iff_iff]
  simp [minOf]
  omega

theorem at6 (b : Bx) (u v : Bool) (hu : (b.k == 5) = u) (hv : [b.e0, b.e1, b.e2, b.e3].any (badE u) = v) : (brokenOf b)[6]? = some (v, 9) := by
  subst hu hv
  show some ((decide (minOf [b.e0, b.e1, b.e2, b.e3] < 0) || ((b.k == 5) && !(b.e0 == 0 && b.e1 == 0 && b.e2 == 0 && b.e3 == 0)), (9 : Int))) = _
  rw [min_neg]
  simp only [List.any_cons, List.any_nil, badE]
  cases (b.k == 5) <;> cases (b.e0 == 0) <;> cases (b.e1 == 0) <;> cases (b.e2 == 0) <;> cases (b.e3 == 0) <;> cases decide (b.e0 < 0) <;> cases decide (b.e1 < 0) <;> cases decide (b.e2 < 0) <;> cases decide (b.e3 < 0) <;> rfl

end Go.Proofs.YtfomhdhiibcdfaaGreat.Record
