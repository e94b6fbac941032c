/- The contract of Count, of a loop that counts in a map (a trial's text: slots as in that code). -/
import Derived.Test.YtleikbpikmineaaScriptCountD
namespace Go.Proofs.Ytleikbpikmineaa.Script
open Go.RowKit Go.Sort Go.Proofs.Ytleikbpikmineaa.Record

set_option maxHeartbeats 1000000 in
theorem count_any (A : Option Addr) (n c : Nat) (bs : List Bx) (w : World) (hn : n = bs.length) (hlen : n ≤ 100000) (hx : Boxes w w.heap.size A bs) (hk : ∀ b ∈ bs, (Lit.int .i64 b.k).wf = true) :
    Calls Try.prog 16 #[.slice A n c] w fun e w' => (∃ b D, w.heap.size ≤ b ∧ e = .returned (.map (some b)) ∧ w'.ownsMap Try.prog 3 (plainElem Try.prog 3) b n D ∧ CountD D bs) ∧ Below w.heap.size w w' := by
  have HX := Lib.hid hx
  have HN := Lib.hid hn
  have HK := Lib.hid hk
  clear hx hn hk
  have hmm := @run_makeMap Try.prog
  go_enter Try.func16, Try.ntmps16
  go_wp2_with fail
  go_loopw [9] (fun i wr => ∃ k : Nat, ∃ D : DataW Unit, k ≤ n ∧ i = .int .i64 k ∧ Hid (wr.ownsMap Try.prog 3 (plainElem Try.prog 3) w.heap.size k D ∧ CountD D (bs.take k) ∧ Below w.heap.size w wr)) (fun i _ => n - (intOf i).toNat)
  case atStart => exact ⟨0, .map [], Nat.zero_le _, rfl, Lib.hid ⟨World.ownsMap_made w _ _ _, countD_nil, ba1 _ _⟩⟩
  case round =>
    obtain ⟨k, D, hk, rfl, H⟩ := hrel
    by_cases hlt : k < n
    · obtain ⟨ad, hA, _, hcx⟩ := (HX.out.below H.out.2.2) k (by rw [← HN.out]; exact hlt)
      subst hA
      have HT := Lib.hid (takeB_next bs k (by rw [← HN.out]; exact hlt))
      have hkk : (Lit.int .i64 (bs.getD k noB).k).wf = true := HK.out _ (by
        have hl : k < bs.length := by rw [← HN.out]; exact hlt
        simp only [List.getD, List.getElem?_eq_getElem hl, Option.getD_some]
        exact List.getElem_mem hl)
      generalize bs.getD k noB = y at hcx HT hkk
      have HKK := Lib.hid hkk
      clear hkk
      obtain ⟨c0, c1, c2, c3, c4, c5, c6, c7, c8, c9, c10, c11, c12, c13⟩ := hcx
      go_upto_region 5 with fail
      clear c0 c1 c2 c3 c4 c5 c6 c7 c8 c9 c10 c11 c12 c13
      generalize hW : World.alloc wr _ = W
      obtain ⟨at1, k1⟩ := box_in y hW
      have HM : Hid (W.ownsMap Try.prog 3 (plainElem Try.prog 3) w.heap.size k D) := Lib.hid (by rw [← hW]; exact H.out.1.alloc _)
      have HB := Lib.hid (thru H.out.2.2 k1)
      clear hW k1
      obtain ⟨-, d1, -⟩ := at1
      obtain ⟨q, hq⟩ : ∃ q : Int, (manyOf y.k (bs.take k) : Int) = q := ⟨_, rfl⟩
      have hq1 : 0 ≤ q ∧ q ≤ 100000 := by
        have := many_le y.k (bs.take k)
        rw [List.length_take] at this
        omega
      have HQ := Lib.hid hq
      clear hq
      obtain ⟨hq1, hq2⟩ := hq1
      go_wp2_with (first
        | (at_lookup; refine wpList_lookup_own_int _ rfl _ _ 42 rfl 3 3 .i64 keyed Try.underlying42 Try.underlying3 (Try.zeroValue3 _) w.heap.size k D rfl HM.out _ (.int .i64 y.k) rfl (Maps.keyOf_int_mk Try.underlying3 HKK.out) ?_; intro c' hat hwc; have hcq := (countD_put H.out.2.1 y HKK.out c' hat); have hce : c' = q := (by rw [hcq.1]; exact HQ.out); have HP := Lib.hid hcq.2; clear hat hwc hcq; subst hce)
        | (at_mapUpdate; refine wpList_mapUpdate_own _ rfl _ _ _ 42 rfl 3 3 keyed Try.underlying42 _ w.heap.size k D rfl HM.out (by unfold maxLen; omega) _ _ (.int .i64 y.k) rfl rfl (Maps.keyOf_int_mk Try.underlying3 HKK.out) _ [] (plainElem_int Try.underlying3 (by simp [Lit.wf, IntKind.min, IntKind.max, IntKind.signed, IntKind.bits]; omega)) ?_; intro W3 hown3 hg3))
      have hb3 := HB.out.grown hg3 HB.out.size (fun j e => by cases e; exact Nat.le_refl _)
      go_roundw
      case rel => exact ⟨k + 1, _, by omega, by go_num, Lib.hid ⟨hown3, by rw [HT.out]; exact HP.out, hb3⟩⟩
      case measure => simp [intOf]; omega
    · obtain rfl : k = n := by omega
      have ht : bs.take k = bs := List.take_of_length_le (by rw [← HN.out]; omega)
      have hm := H.out
      rw [ht] at hm
      have HM := Lib.hid hm
      clear hm ht hlt hk
      go_wp2_with fail
      go_ret
      exact ⟨⟨_, D, Nat.le_refl _, rfl, HM.out.1, HM.out.2.1⟩, HM.out.2.2⟩

end Go.Proofs.Ytleikbpikmineaa.Script
