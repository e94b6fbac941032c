/- The contracts of what rect and the document make of two rectangles. -/
import Derived.Test.YtpfcefflcmeobaaRectBase
import Derived.Test.YtpfcefflcmeobaaReg
namespace Go.Proofs.Ytpfcefflcmeobaa.Rect
open Go.RowKit Go.Sort

theorem bcell {W w1 : World} (hb : Below W.heap.size W w1) : (∀ b o, b < W.heap.size → w1.cell? ⟨b, o, none⟩ = W.cell? ⟨b, o, none⟩) ∧ (∀ b o, b < W.heap.size → w1.frozen? ⟨b, o, none⟩ = W.frozen? ⟨b, o, none⟩) :=
  ⟨fun b o h => hb.cell (p := ⟨b, o, none⟩) h, fun b o h => hb.frozen (p := ⟨b, o, none⟩) h⟩

theorem thru {w W w1 : World} (h1 : Below w.heap.size w W) (h2 : Below W.heap.size W w1) : Below w.heap.size w w1 := h1.trans (h2.mono h1.size)

theorem calls_same_below {P : Program} {f : FuncId} {args : Array Value} {w : World} {v : Value} (h : Calls P f args w fun e w' => e = .returned v ∧ w = w') :
    Calls P f args w fun e w' => e = .returned v ∧ Below w.heap.size w w' := h.mono fun _ _ ⟨he, hw⟩ => ⟨he, by subst hw; exact Below.refl _ _⟩

theorem some_is (a b : Int) (v : Bool) (hv : decide (a < b) = v) (w : World) :
    Calls Try.prog 57 #[.agg #[.int .i64 a, .int .i64 b]] w fun e w' => e = .returned (.bool v) ∧ Below w.heap.size w w' := by
  subst hv; exact some_any a b w

set_option maxHeartbeats 400000 in
theorem full_is (l t r b : Int) (v : Bool) (hv : (decide (l < r) && decide (t < b)) = v) (w : World) :
    Calls Try.prog 48 #[.agg #[.int .i64 l, .int .i64 t, .int .i64 r, .int .i64 b]] w fun e w' => e = .returned (.bool v) ∧ Below w.heap.size w w' := by
  obtain ⟨p, hp⟩ : ∃ p : Bool, decide (l < r) = p := ⟨_, rfl⟩
  obtain ⟨q, hq⟩ : ∃ q : Bool, decide (t < b) = q := ⟨_, rfl⟩
  rw [hp, hq] at hv
  subst hv
  have HP := Lib.hid hp
  have HQ := Lib.hid hq
  clear hp hq
  cases p
  all_goals
    go_enter Try.func48, Try.ntmps48
    go_wp2_with fail
    refine (columns_any _ _ _ _ _).mono ?_; rintro e w1 ⟨rfl, b1⟩
    obtain ⟨c1, f1⟩ := bcell b1
    go_wp2_with fail
    refine (some_is _ _ _ HP.out _).mono ?_; rintro e w2 ⟨rfl, b2⟩
    replace b2 := thru b1 b2
    clear b1 c1 f1
    obtain ⟨c2, f2⟩ := bcell b2
    go_wp2_with fail
  · go_ret
    exact ⟨rfl, thru (ba1 _ _) b2⟩
  · refine (rows_any _ _ _ _ _).mono ?_; rintro e w3 ⟨rfl, b3⟩
    replace b3 := thru b2 b3
    clear b2 c2 f2
    go_wp2_with fail
    refine (some_is _ _ _ HQ.out _).mono ?_; rintro e w4 ⟨rfl, b4⟩
    replace b4 := thru b3 b4
    clear b3
    go_wp2_with fail
    go_ret
    exact ⟨by simp, thru (ba1 _ _) b4⟩

end Go.Proofs.Ytpfcefflcmeobaa.Rect
