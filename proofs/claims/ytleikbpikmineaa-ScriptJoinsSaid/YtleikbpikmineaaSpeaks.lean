/- The law's example; the program's contracts by their names. -/
import Derived.Test.YtleikbpikmineaaEncode
import Derived.Test.YtleikbpikmineaaDecode
import Derived.Test.YtleikbpikmineaaScriptCount
namespace Go.Proofs.Ytleikbpikmineaa.Script
open Go.RowKit Go.Sort Go.Proofs.Ytleikbpikmineaa.Record

theorem encodeOk : EncodeOk := encode_any

theorem countOk : CountOk := count_any

theorem oneB_boxes (w : World) (b : Bx) (T : TypeId) : Boxes (w.alloc (.cells (cellsOfB b).toArray T)) (w.alloc (.cells (cellsOfB b).toArray T)).heap.size (some ⟨w.heap.size, 0, none⟩) [b] := by
  have hm : MineB T (w.alloc (.cells (cellsOfB b).toArray T)) 0 (some ⟨w.heap.size, 0, none⟩) 1 1 [b] := by
    have := World.ownsRow_lit (e := T) (size := 14) (base := 0) w (cellsOfB b).toArray 1 (Nat.zero_le _) (by unfold maxLen; omega) rfl
    simpa [MineB] using this
  exact hm.boxes

set_option maxRecDepth 100000 in
set_option maxHeartbeats 1000000 in
theorem speaksOk : SpeaksOk := by
  intro w
  go_enter Try.func8, Try.ntmps8
  go_wp2_with fail
  refine (decode_ok none 0 0 [] w rfl (by omega) (by omega) (nums0 _ _ _)).mono ?_; rintro e w1 ⟨⟨A1, c1, rfl, -⟩, k1⟩
  go_wp2_with fail
  refine (encodeOk (some ⟨w1.heap.size, 0, none⟩) 1 1 [⟨0, 1, 0, 0, 0, 0, 0, 0, 0, 0, 0, 0, 0, 0⟩] _ rfl (by omega) (oneB_boxes w1 ⟨0, 1, 0, 0, 0, 0, 0, 0, 0, 0, 0, 0, 0, 0⟩ _)).mono ?_; rintro e w2 ⟨⟨A2, c2, rfl, -⟩, k2⟩
  have K2 := Lib.hid (thru (k1.alloc k1.size _) k2)
  clear k1 k2
  go_wp2_with fail
  go_ret
  exact ⟨rfl, K2.out⟩

end Go.Proofs.Ytleikbpikmineaa.Script
