/- The contracts of the document's Encode and Same. -/
import Derived.Test.YtleikbpikmineaaScriptOfs
import Derived.Deep.DeepCutAuto
namespace Go.Proofs.Ytleikbpikmineaa.Script
open Go.RowKit Go.Sort Go.Proofs.Ytleikbpikmineaa.Record

/-- The numbers of a box. -/
def numsOf (b : Bx) : List Int := [b.d, b.k, b.s, b.c, b.w, b.h, b.m0, b.m1, b.m2, b.m3, b.e0, b.e1, b.e2, b.e3]

theorem lit_src (w : World) (ys : List Int) (hm : ys.length ≤ 1000000) : Src (w.alloc (.cells (ys.map (Value.int .i64)).toArray 3)) (some ⟨w.heap.size, 0, none⟩) ys.length ys.length ys := by
  have h : Mine (w.alloc (.cells (ys.map (Value.int .i64)).toArray 3)) 0 (some ⟨w.heap.size, 0, none⟩) ys.length ys.length ys :=
    World.ownsRow_lit (e := 3) (size := 1) (base := 0) w (ys.map (Value.int .i64)).toArray ys.length (Nat.zero_le _) (by unfold maxLen; omega) (by simp)
  exact h.src

theorem At.grown {w w' : World} {g : Nat} {b : Bx} {row : Option Nat} (h : At w g b) (hg : w.grownBy w' row) (hne : row ≠ some g) : At w' g b := by
  have e : ∀ o v, w.cell? ⟨g, o, none⟩ = some v → w'.cell? ⟨g, o, none⟩ = some v := fun o v hv => hg.cell hv (fun e => hne e.symm)
  unfold At at *
  obtain ⟨h0, h1, h2, h3, h4, h5, h6, h7, h8, h9, h10, h11, h12, h13⟩ := h
  exact ⟨e _ _ h0, e _ _ h1, e _ _ h2, e _ _ h3, e _ _ h4, e _ _ h5, e _ _ h6, e _ _ h7, e _ _ h8, e _ _ h9, e _ _ h10, e _ _ h11, e _ _ h12, e _ _ h13⟩

theorem mine_off {w : World} {B g : Nat} {A : Option Addr} {n c : Nat} {xs : List Int} (h : Mine w B A n c xs) (hg : w.heap.size ≤ g) : blk A ≠ some g := fun e => by
  have := (h.lt g e).2
  omega

theorem nums_len (bs : List Bx) : (bs.flatMap numsOf).length = bs.length * 14 := by
  induction bs with
  | nil => rfl
  | cons b bs ih => simp only [List.flatMap_cons, List.length_append, ih, List.length_cons]; simp [numsOf]; omega

set_option maxRecDepth 100000 in
set_option maxHeartbeats 2000000 in
theorem refenc_any (A : Option Addr) (n c : Nat) (bs : List Bx) (w : World) (hn : n = bs.length) (hlen : n ≤ 1000) (hx : Boxes w w.heap.size A bs) :
    Calls Try.prog 12 #[.slice A n c] w fun e w' => (∃ A' c', e = .returned (.slice A' (n * 14) c') ∧ Mine w' w.heap.size A' (n * 14) c' (bs.flatMap numsOf)) ∧ Below w.heap.size w w' := by
  have HX := Lib.hid hx
  have HN := Lib.hid hn
  clear hx hn
  go_enter Try.func12, Try.ntmps12
  go_wp2_with fail
  go_loopw [3, 4] (fun s i wr => ∃ k : Nat, ∃ A' : Option Addr, ∃ c' : Nat, k ≤ n ∧ i = .int .i64 k ∧ s = .slice A' (k * 14) c' ∧ Hid (Mine wr w.heap.size A' (k * 14) c' ((bs.take k).flatMap numsOf) ∧ Below w.heap.size w wr)) (fun _ i _ => n - (intOf i).toNat)
  case atStart => exact ⟨0, _, _, Nat.zero_le _, rfl, rfl, Lib.hid ⟨none_mine _ _ (Nat.le_refl _), ba1 _ _⟩⟩
  case round wr =>
    obtain ⟨k, A', c', hk, rfl, rfl, H⟩ := hrel
    by_cases hlt : k < n
    · obtain ⟨ad, hA, _, hcx⟩ := (HX.out.below H.out.2) k (by rw [← HN.out]; exact hlt)
      subst hA
      have HT := Lib.hid (takeB_next bs k (by rw [← HN.out]; exact hlt))
      generalize bs.getD k noB = y at hcx HT
      obtain ⟨c0, c1, c2, c3, c4, c5, c6, c7, c8, c9, c10, c11, c12, c13⟩ := hcx
      have hsz := H.out.2.size
      go_upto_region 6 with fail
      clear c0 c1 c2 c3 c4 c5 c6 c7 c8 c9 c10 c11 c12 c13
      generalize hW : World.alloc wr _ = W
      obtain ⟨at1, k1⟩ := box_in y hW
      have HW := Lib.hid (show W.heap.size = wr.heap.size + 1 by rw [← hW]; simp)
      have HM := Lib.hid (H.out.1.below k1)
      have HB := Lib.hid (thru H.out.2 k1)
      have AT := Lib.hid at1
      have HO := Lib.hid (mine_off H.out.1 (Nat.le_refl _))
      clear hW k1
      obtain ⟨c0, c1, c2, c3, c4, c5, c6, c7, c8, c9, c10, c11, c12, c13⟩ := at1
      go_wp2_with (first
        | (at_builtin; refine wpList_append_mine _ rfl (.tmp 17) (.tmp 30) rfl w.heap.size A' (k * 14) c' ((bs.take k).flatMap numsOf) rfl (HM.out.alloc _) (some ⟨W.heap.size, 0, none⟩) 6 6 [y.d, y.k, y.s, y.c, y.w, y.h] rfl (lit_src W [y.d, y.k, y.s, y.c, y.w, y.h] (by simp)) (by omega) (by have := HB.out.size; simp; omega) ?_; intro A1 c1' W1 h1; have at1 := At.grown (AT.out.below AT.out.lt (ba1 W (.cells #[.int .i64 y.d, .int .i64 y.k, .int .i64 y.s, .int .i64 y.c, .int .i64 y.w, .int .i64 y.h] 3))) h1.2.1 HO.out; have hb1 := h1.below (HM.out.alloc _) (HB.out.alloc HB.out.size _) (Nat.le_refl _) (by have := HB.out.size; simp; omega); have hg1 : wr.heap.size < W1.heap.size := at1.lt; have ho1 : blk A1 ≠ some wr.heap.size := (by rcases h1.2.2 with e | e <;> rw [e] <;> first | exact HO.out | (have := AT.out.lt; simp; omega)); have HM1 := Lib.hid h1.1; have HB1 := Lib.hid hb1; have AT1 := Lib.hid at1; have HO1 := Lib.hid ho1; clear h1 hb1 ho1 hg1 c0 c1 c2 c3 c4 c5 c6 c7 c8 c9 c10 c11 c12 c13; obtain ⟨c0, c1, c2, c3, c4, c5, c6, c7, c8, c9, c10, c11, c12, c13⟩ := at1)
        | (at_builtin; refine wpList_append_mine _ rfl (.tmp 32) (.tmp 45) rfl w.heap.size A1 (k * 14 + 6) c1' ((bs.take k).flatMap numsOf ++ [y.d, y.k, y.s, y.c, y.w, y.h]) rfl (HM1.out.alloc _) (some ⟨W1.heap.size, 0, none⟩) 4 4 [y.m0, y.m1, y.m2, y.m3] rfl (lit_src W1 [y.m0, y.m1, y.m2, y.m3] (by simp)) (by omega) (by have := HB1.out.size; simp; omega) ?_; intro A2 c2' W2 h2; have at2 := At.grown (AT1.out.below AT1.out.lt (ba1 W1 (.cells #[.int .i64 y.m0, .int .i64 y.m1, .int .i64 y.m2, .int .i64 y.m3] 3))) h2.2.1 HO1.out; have hb2 := h2.below (HM1.out.alloc _) (HB1.out.alloc HB1.out.size _) (Nat.le_refl _) (by have := HB1.out.size; simp; omega); have hg2 : wr.heap.size < W2.heap.size := at2.lt; have ho2 : blk A2 ≠ some wr.heap.size := (by rcases h2.2.2 with e | e <;> rw [e] <;> first | exact HO1.out | (have := AT1.out.lt; simp; omega)); have HM2 := Lib.hid h2.1; have HB2 := Lib.hid hb2; have AT2 := Lib.hid at2; have HO2 := Lib.hid ho2; clear h2 hb2 ho2 hg2 c0 c1 c2 c3 c4 c5 c6 c7 c8 c9 c10 c11 c12 c13; obtain ⟨c0, c1, c2, c3, c4, c5, c6, c7, c8, c9, c10, c11, c12, c13⟩ := at2)
        | (at_builtin; refine wpList_append_mine _ rfl (.tmp 47) (.tmp 60) rfl w.heap.size A2 (k * 14 + 6 + 4) c2' ((bs.take k).flatMap numsOf ++ [y.d, y.k, y.s, y.c, y.w, y.h] ++ [y.m0, y.m1, y.m2, y.m3]) rfl (HM2.out.alloc _) (some ⟨W2.heap.size, 0, none⟩) 4 4 [y.e0, y.e1, y.e2, y.e3] rfl (lit_src W2 [y.e0, y.e1, y.e2, y.e3] (by simp)) (by omega) (by have := HB2.out.size; simp; omega) ?_; intro A3 c3' W3 h3; have at3 := At.grown (AT2.out.below AT2.out.lt (ba1 W2 (.cells #[.int .i64 y.e0, .int .i64 y.e1, .int .i64 y.e2, .int .i64 y.e3] 3))) h3.2.1 HO2.out; have hb3 := h3.below (HM2.out.alloc _) (HB2.out.alloc HB2.out.size _) (Nat.le_refl _) (by have := HB2.out.size; simp; omega); have hg3 : wr.heap.size < W3.heap.size := at3.lt; have ho3 : blk A3 ≠ some wr.heap.size := (by rcases h3.2.2 with e | e <;> rw [e] <;> first | exact HO2.out | (have := AT2.out.lt; simp; omega)); have HM3 := Lib.hid h3.1; have HB3 := Lib.hid hb3; have AT3 := Lib.hid at3; have HO3 := Lib.hid ho3; clear h3 hb3 ho3 hg3 c0 c1 c2 c3 c4 c5 c6 c7 c8 c9 c10 c11 c12 c13; obtain ⟨c0, c1, c2, c3, c4, c5, c6, c7, c8, c9, c10, c11, c12, c13⟩ := at3))
      go_roundw
      case rel => exact ⟨k + 1, A3, c3', by omega, by go_num, by rw [show k * 14 + 6 + 4 + 4 = (k + 1) * 14 by omega], Lib.hid ⟨by
        rw [HT.out, List.flatMap_append, show (k + 1) * 14 = k * 14 + 6 + 4 + 4 by omega]
        have := HM3.out
        simpa [numsOf] using this, HB3.out⟩⟩
      case measure => simp [intOf]; omega
    · obtain rfl : k = n := by omega
      have ht : bs.take k = bs := List.take_of_length_le (by rw [← HN.out]; omega)
      have hm := H.out.1
      rw [ht] at hm
      have HM := Lib.hid hm
      clear hm ht hlt hk
      go_wp2_with fail
      go_ret
      exact ⟨⟨_, _, rfl, HM.out⟩, H.out.2⟩

end Go.Proofs.Ytleikbpikmineaa.Script
