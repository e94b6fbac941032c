/- The contracts of the document's own Fits, and of the law's look at the document's example. -/
import Derived.Test.YtfomhdhiibcdfaaGreatPart6
namespace Go.Proofs.YtfomhdhiibcdfaaGreat.Record
open Go.RowKit Go.Sort

set_option maxHeartbeats 1000000 in
theorem reffits_any (p c : Int) (w : World) :
    Calls Tryz.prog 32 #[.int .i64 p, .int .i64 c] w fun e w' => e = .returned (.bool (fitsB p c)) ∧ Below w.heap.size w w' := by
  by_cases hp : 1 ≤ p ∧ p ≤ 5
  · by_cases hc : 1 ≤ c ∧ c ≤ 5
    · obtain rfl | rfl | rfl | rfl | rfl : p = 1 ∨ p = 2 ∨ p = 3 ∨ p = 4 ∨ p = 5 := by omega
      all_goals
        obtain rfl | rfl | rfl | rfl | rfl : c = 1 ∨ c = 2 ∨ c = 3 ∨ c = 4 ∨ c = 5 := by omega
        all_goals
          clear hp hc
          go_enter Tryz.func32, Tryz.ntmps32
          go_wp2_with fail
          go_ret
          exact ⟨ret_bool (by decide), ba1 _ _⟩
    · have hf : fitsB p c = false := by
        unfold fitsB
        rw [if_neg (by omega), if_neg (by omega), if_neg (by omega)]
      rw [hf]
      obtain ⟨h1, h2⟩ := hp
      have hcc : c < 1 ∨ 5 < c := by omega
      clear hc hf
      rcases hcc with h | h
      · go_enter Tryz.func32, Tryz.ntmps32
        go_wp2_with fail
        go_ret
        exact ⟨rfl, Below.refl _ _⟩
      · go_enter Tryz.func32, Tryz.ntmps32
        go_wp2_with fail
        go_ret
        exact ⟨rfl, Below.refl _ _⟩
  · have hf : fitsB p c = false := by
      have a1 : ¬ p = 1 := by omega
      have a2 : ¬ p = 2 := by omega
      have a3 : ¬ p = 3 := by omega
      have a4 : ¬ p = 4 := by omega
      simp [fitsB, holdsB, openB, a1, a2, a3, a4]
    rw [hf]
    have hpp : p < 1 ∨ 5 < p := by omega
    clear hp hf
    rcases hpp with h | h
    · go_enter Tryz.func32, Tryz.ntmps32
      go_wp2_with fail
      go_ret
      exact ⟨rfl, Below.refl _ _⟩
    · go_enter Tryz.func32, Tryz.ntmps32
      go_wp2_with fail
      go_ret
      exact ⟨rfl, Below.refl _ _⟩

end Go.Proofs.YtfomhdhiibcdfaaGreat.Record
