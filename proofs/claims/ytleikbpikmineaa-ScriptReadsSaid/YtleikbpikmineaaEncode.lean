/- The program's Encode: it makes its list with room for all numbers, and appends what each box holds. -/
import Derived.Test.YtleikbpikmineaaScriptEnc
import Derived.Laws.OwnMore
namespace Go.Proofs.Ytleikbpikmineaa.Script
open Go.RowKit Go.Sort Go.Proofs.Ytleikbpikmineaa.Record

theorem src_of_nums {w : World} {B : Nat} {ad : Addr} {ys : List Int} {m c : Nat} (h : Nums w B (some ad) ys) (hm : ys.length = m) : Src w (some ad) m c ys := by
  refine ⟨hm, fun e => (by cases e), fun k hk => ?_⟩
  obtain ⟨a, e, _, hc⟩ := h k hk
  exact ⟨a, e, hc⟩

set_option maxRecDepth 100000 in
set_option maxHeartbeats 2000000 in
theorem encode_any (A : Option Addr) (n c : Nat) (bs : List Bx) (w : World) (hn : n = bs.length) (hlen : n ≤ 1000) (hx : Boxes w w.heap.size A bs) :
    Calls Try.prog 9 #[.slice A n c] w fun e w' => (∃ A' c', e = .returned (.slice A' (n * 14) c') ∧ Mine w' w.heap.size A' (n * 14) c' (bs.flatMap numsOf)) ∧ Below w.heap.size w w' := by
  have HX := Lib.hid hx
  have HN := Lib.hid hn
  clear hx hn
  obtain ⟨i0, hi0, hz0, hz1, hz2⟩ := info_parts int_info
  obtain ⟨w0, hmk, hown, hg0⟩ := run_make_own (P := Try.prog) w w.heap.size 24 3 i0 (.int .i64 0) 1 Try.underlying24 hi0 hz0 hz1 .i64 .i64 (n * 14) (by rw [hz2]; omega) (by unfold maxLen; omega) (Nat.le_refl _)
  have hM0 : Mine w0 w.heap.size (some ⟨w.heap.size, 0, none⟩) 0 (n * 14) [] := hown
  have H0 : Hid (Mine w0 w.heap.size (some ⟨w.heap.size, 0, none⟩) (0 * 14) (n * 14) ((bs.take 0).flatMap numsOf) ∧ Below w.heap.size w w0) := Lib.hid ⟨hM0, (Below.refl _ _).grown hg0 (Nat.le_refl _) (fun j e => by cases e)⟩
  clear hown hM0 hg0 hi0 hz0 hz1 hz2
  push_cast at hmk
  go_enter Try.func9, Try.ntmps9
  go_wp2_with fail
  go_loopw [3, 12] (fun s i wr => ∃ k : Nat, ∃ A' : Option Addr, ∃ c' : Nat, k ≤ n ∧ i = .int .i64 k ∧ s = .slice A' (k * 14) c' ∧ Hid (Mine wr w.heap.size A' (k * 14) c' ((bs.take k).flatMap numsOf) ∧ Below w.heap.size w wr)) (fun _ i _ => n - (intOf i).toNat)
  case atStart => exact ⟨0, _, _, Nat.zero_le _, rfl, rfl, H0⟩
  case round wr =>
    obtain ⟨k, A', c', hk, rfl, rfl, H⟩ := hrel
    clear hmk H0
    by_cases hlt : k < n
    · obtain ⟨ad, hA, _, hcx⟩ := (HX.out.below H.out.2) k (by rw [← HN.out]; exact hlt)
      subst hA
      have HT := Lib.hid (takeB_next bs k (by rw [← HN.out]; exact hlt))
      generalize bs.getD k noB = y at hcx HT
      obtain ⟨c0, c1, c2, c3, c4, c5, c6, c7, c8, c9, c10, c11, c12, c13⟩ := hcx
      have hsz := H.out.2.size
      go_upto_region 5 with fail
      clear c0 c1 c2 c3 c4 c5 c6 c7 c8 c9 c10 c11 c12 c13
      generalize hW : World.alloc wr _ = W
      obtain ⟨at1, k1⟩ := box_in y hW
      have HW := Lib.hid (show W.heap.size = wr.heap.size + 1 by rw [← hW]; simp)
      have HM := Lib.hid (H.out.1.below k1)
      have HB := Lib.hid (thru H.out.2 k1)
      have AT := Lib.hid at1
      have HO := Lib.hid (mine_off H.out.1 (Nat.le_refl _))
      clear hW k1
      obtain ⟨c0, c1, c2, c3, c4, c5, c6, c7, c8, c9, c10, c11, c12, c13⟩ := at1
      go_wp2_with (first
        | (at_builtin; refine wpList_append_mine _ rfl (.tmp 16) (.tmp 29) rfl w.heap.size A' (k * 14) c' ((bs.take k).flatMap numsOf) rfl (HM.out.alloc _) (some ⟨W.heap.size, 0, none⟩) 6 6 [y.d, y.k, y.s, y.c, y.w, y.h] rfl (lit_src W [y.d, y.k, y.s, y.c, y.w, y.h] (by simp)) (by omega) (by have := HB.out.size; simp; omega) ?_; intro A1 c1' W1 h1; have at1 := At.grown (AT.out.below AT.out.lt (ba1 W (.cells #[.int .i64 y.d, .int .i64 y.k, .int .i64 y.s, .int .i64 y.c, .int .i64 y.w, .int .i64 y.h] 3))) h1.2.1 HO.out; have hb1 := h1.below (HM.out.alloc _) (HB.out.alloc HB.out.size _) (Nat.le_refl _) (by have := HB.out.size; simp; omega); have hg1 : wr.heap.size < W1.heap.size := at1.lt; have ho1 : blk A1 ≠ some wr.heap.size := (by rcases h1.2.2 with e | e <;> rw [e] <;> first | exact HO.out | (have := AT.out.lt; simp; omega)); have HM1 := Lib.hid h1.1; have HB1 := Lib.hid hb1; have AT1 := Lib.hid at1; have HO1 := Lib.hid ho1; clear h1 hb1 ho1 hg1 c0 c1 c2 c3 c4 c5 c6 c7 c8 c9 c10 c11 c12 c13)
        | (at_builtin; refine wpList_append_mine _ rfl (.tmp 31) (.tmp 33) rfl w.heap.size A1 (k * 14 + 6) c1' ((bs.take k).flatMap numsOf ++ [y.d, y.k, y.s, y.c, y.w, y.h]) rfl HM1.out (some ⟨wr.heap.size, 6, none⟩) 4 4 [y.m0, y.m1, y.m2, y.m3] rfl (src_of_nums AT1.out.margins rfl) (by omega) (by have := HB1.out.size; omega) ?_; intro A2 c2' W2 h2; have at2 := At.grown AT1.out h2.2.1 HO1.out; have hb2 := h2.below HM1.out HB1.out (Nat.le_refl _) (by have := HB1.out.size; omega); have ho2 : blk A2 ≠ some wr.heap.size := (by rcases h2.2.2 with e | e <;> rw [e] <;> first | exact HO1.out | (have := AT1.out.lt; simp; omega)); have HM2 := Lib.hid h2.1; have HB2 := Lib.hid hb2; have AT2 := Lib.hid at2; have HO2 := Lib.hid ho2; clear h2 hb2 ho2 at2)
        | (at_builtin; refine wpList_append_mine _ rfl (.tmp 35) (.tmp 37) rfl w.heap.size A2 (k * 14 + 6 + 4) c2' ((bs.take k).flatMap numsOf ++ [y.d, y.k, y.s, y.c, y.w, y.h] ++ [y.m0, y.m1, y.m2, y.m3]) rfl HM2.out (some ⟨wr.heap.size, 10, none⟩) 4 4 [y.e0, y.e1, y.e2, y.e3] rfl (src_of_nums AT2.out.edges rfl) (by omega) (by have := HB2.out.size; omega) ?_; intro A3 c3' W3 h3; have hb3 := h3.below HM2.out HB2.out (Nat.le_refl _) (by have := HB2.out.size; omega); have HM3 := Lib.hid h3.1; have HB3 := Lib.hid hb3; clear h3 hb3))
      go_roundw
      case rel => exact ⟨k + 1, A3, c3', by omega, by go_num, by rw [show k * 14 + 6 + 4 + 4 = (k + 1) * 14 by omega], Lib.hid ⟨by
        rw [HT.out, List.flatMap_append, show (k + 1) * 14 = k * 14 + 6 + 4 + 4 by omega]
        have := HM3.out
        simpa [numsOf] using this, HB3.out⟩⟩
      case measure => simp [intOf]; omega
    · obtain rfl : k = n := by omega
      have ht : bs.take k = bs := List.take_of_length_le (by rw [← HN.out]; omega)
      have hm := H.out.1
      rw [ht] at hm
      have HM := Lib.hid hm
      clear hm ht hlt hk
      go_wp2_with fail
      go_ret
      exact ⟨⟨_, _, rfl, HM.out⟩, H.out.2⟩

end Go.Proofs.Ytleikbpikmineaa.Script
