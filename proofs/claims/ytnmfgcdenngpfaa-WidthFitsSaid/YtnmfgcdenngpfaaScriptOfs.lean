/- The contracts of the law's own conversion of lists, and of the document's Encode. -/
import Derived.Test.YtnmfgcdenngpfaaScriptBoxes
namespace Go.Proofs.Ytnmfgcdenngpfaa.Script
open Go.RowKit Go.Sort Go.Proofs.Ytnmfgcdenngpfaa.Record

theorem infoApi : BoxInfo 28 53 := ⟨Try.underlying53, .agg #[.int .i64 0, .int .i64 0, .int .i64 0, .int .i64 0, .int .i64 0, .int .i64 0, .int .i64 0, .int .i64 0, .int .i64 0, .int .i64 0, .int .i64 0, .int .i64 0, .int .i64 0, .int .i64 0], rfl, by kernel_rfl⟩
theorem infoRef : BoxInfo 24 33 := ⟨Try.underlying33, .agg #[.int .i64 0, .int .i64 0, .int .i64 0, .int .i64 0, .int .i64 0, .int .i64 0, .int .i64 0, .int .i64 0, .int .i64 0, .int .i64 0, .int .i64 0, .int .i64 0, .int .i64 0, .int .i64 0], rfl, by kernel_rfl⟩

theorem takeB_next (bs : List Bx) (k : Nat) (h : k < bs.length) : bs.take (k + 1) = bs.take k ++ [bs.getD k noB] := by
  rw [List.take_succ_eq_append_getElem h]; simp [List.getD, h]

set_option maxHeartbeats 1000000 in
theorem ofs_any (A : Option Addr) (n c : Nat) (bs : List Bx) (w : World) (hn : n = bs.length) (hlen : n ≤ 100000) (hx : Boxes w w.heap.size A bs) :
    Calls Try.prog 31 #[.slice A n c] w fun e w' => (∃ A' c', e = .returned (.slice A' n c') ∧ MineB 28 w' w.heap.size A' n c' bs) ∧ Below w.heap.size w w' := by
  have HX := Lib.hid hx
  have HN := Lib.hid hn
  clear hx hn
  go_enter Try.func31, Try.ntmps31
  go_wp2_with fail
  go_loopw [3, 8] (fun s i wr => ∃ k : Nat, ∃ A' : Option Addr, ∃ c' : Nat, k ≤ n ∧ i = .int .i64 k ∧ s = .slice A' k c' ∧ Hid (MineB 28 wr w.heap.size A' k c' (bs.take k) ∧ Below w.heap.size w wr)) (fun _ i _ => n - (intOf i).toNat)
  case atStart => exact ⟨0, none, 0, Nat.zero_le _, rfl, rfl, Lib.hid ⟨noneB_mine _ _ _, Below.refl _ _⟩⟩
  case round wr =>
    obtain ⟨k, A', c', hk, rfl, rfl, H⟩ := hrel
    by_cases hlt : k < n
    · obtain ⟨ad, hA, _, hcx⟩ := (HX.out.below H.out.2) k (by rw [← HN.out]; exact hlt)
      subst hA
      have HT := Lib.hid (takeB_next bs k (by rw [← HN.out]; exact hlt))
      generalize bs.getD k noB = y at hcx HT
      obtain ⟨c0, c1, c2, c3, c4, c5, c6, c7, c8, c9, c10, c11, c12, c13⟩ := hcx
      have hsz := H.out.2.size
      go_wp2_with fail
      have hm1 := H.out.1.alloc (.cells (cellsOfB y).toArray 24)
      refine (of_any y _).mono ?_; rintro e w2 ⟨rfl, b2⟩
      have hm2 := hm1.below b2
      have hb2 := thru (H.out.2.alloc hsz (.cells (cellsOfB y).toArray 24)) b2
      have hsz2 := hb2.size
      have HM2 := Lib.hid hm2
      have HB2 := Lib.hid hb2
      clear hm1 b2 hm2 hb2 c0 c1 c2 c3 c4 c5 c6 c7 c8 c9 c10 c11 c12 c13
      go_wp2_with (first
        | (at_builtin; refine wpList_append_boxes infoApi _ rfl (.tmp 12) (.tmp 15) rfl w.heap.size A' k c' (bs.take k) rfl (HM2.out.alloc _) (some ⟨w2.heap.size, 0, none⟩) 1 1 [y] rfl (oneB_src w2 y 28) (by omega) (by simp; omega) ?_; intro A1 c1 W2 h1))
      have hb3 := h1.below (HM2.out.alloc _) (HB2.out.alloc hsz2 _) (Nat.le_refl _) (by simp; omega)
      go_roundw
      case rel => exact ⟨k + 1, A1, c1, by omega, by go_num, rfl, Lib.hid ⟨by rw [HT.out]; exact h1.1, hb3⟩⟩
      case measure => simp [intOf]; omega
    · obtain rfl : k = n := by omega
      have ht : bs.take k = bs := List.take_of_length_le (by rw [← HN.out]; omega)
      have hm := H.out.1
      rw [ht] at hm
      have HM := Lib.hid hm
      clear hm ht hlt hk
      go_wp2_with fail
      go_ret
      exact ⟨⟨_, _, rfl, HM.out⟩, H.out.2⟩

end Go.Proofs.Ytnmfgcdenngpfaa.Script
