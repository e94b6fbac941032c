/- The contracts of the document's answers: where a float starts, may stand, and stands. -/
import Derived.Test.YtkabpflbedpbaaaPart14
import Derived.Test.YtkabpflbedpbaaaPart7
namespace Go.Proofs.Ytkabpflbedpbaaa.Place
open Go.RowKit Go.Sort Go.Proofs.Ytkabpflbedpbaaa.Rect Go.Proofs.Ytkabpflbedpbaaa.More Go.Proofs.Ytkabpflbedpbaaa.Shelf Go.Proofs.Ytkabpflbedpbaaa.Space
set_option linter.unusedVariables false
set_option linter.unusedSimpArgs false

set_option maxRecDepth 100000 in
set_option maxHeartbeats 600000 in
theorem refstart_any (A : Option Addr) (n c : Nat) (fs : List Fl) (x : Wt) (w : World) (hn : n = fs.length) (hlen : n ≤ 1000000) (hx : Floats w w.heap.size A fs) :
    Calls Try.prog 17 #[.slice A n c, x.v] w fun e w' => e = .returned (.int .i64 (startQ fs x)) ∧ Below w.heap.size w w' := by
  obtain ⟨v, hv⟩ : ∃ v : Bool, decide (0 < fs.length) = v := ⟨_, rfl⟩
  have HCl := Lib.hid (fun w1 (k : Below w.heap.size w w1) => refclear_any A n c fs x.c x.y w1 hn hlen (hx.thru k))
  have HLa := Lib.hid (fun w1 (k : Below w.heap.size w w1) => reflast_any A n c fs v w1 hn hlen (hx.thru k) hv)
  obtain ⟨z, hz⟩ : ∃ z, startQ fs x = z := ⟨_, rfl⟩
  rw [hz]
  unfold startQ at hz
  rw [hv] at hz
  generalize clearS fs x.c x.y = cl at hz HCl
  generalize lastD fs = la at hz HLa
  clear hx hn hv
  cases v
  · have hz2 : cl = z := by simpa using hz
    subst hz2
    clear hz
    go_enter Try.func17, Try.ntmps17
    go_wp2_with (first
      | (go_at_call 38; refine (HCl.out _ (ba1 w _)).mono ?_; rintro e w1 ⟨rfl, k1⟩; have K1 := Lib.hid (thru (ba1 w _) k1); clear k1)
      | (go_at_call 39; refine (HLa.out _ K1.out).mono ?_; rintro e w2 ⟨rfl, k2⟩; have K2 := Lib.hid (thru K1.out k2); clear k2))
    go_ret
    exact ⟨rfl, K2.out⟩
  · by_cases g : cl < la
    · have hz2 : la = z := by simpa [g] using hz
      subst hz2
      clear hz
      go_enter Try.func17, Try.ntmps17
      go_wp2_with (first
        | (go_at_call 38; refine (HCl.out _ (ba1 w _)).mono ?_; rintro e w1 ⟨rfl, k1⟩; have K1 := Lib.hid (thru (ba1 w _) k1); clear k1)
        | (go_at_call 39; refine (HLa.out _ K1.out).mono ?_; rintro e w2 ⟨rfl, k2⟩; have K2 := Lib.hid (thru K1.out k2); clear k2))
      go_ret
      exact ⟨rfl, K2.out⟩
    · have hz2 : cl = z := by simpa [g] using hz
      subst hz2
      clear hz
      go_enter Try.func17, Try.ntmps17
      go_wp2_with (first
        | (go_at_call 38; refine (HCl.out _ (ba1 w _)).mono ?_; rintro e w1 ⟨rfl, k1⟩; have K1 := Lib.hid (thru (ba1 w _) k1); clear k1)
        | (go_at_call 39; refine (HLa.out _ K1.out).mono ?_; rintro e w2 ⟨rfl, k2⟩; have K2 := Lib.hid (thru K1.out k2); clear k2))
      go_ret
      exact ⟨rfl, K2.out⟩

end Go.Proofs.Ytkabpflbedpbaaa.Place
