
import Derived.Test.YtdibdfalahjmbaaGreatPart21
namespace Go.Proofs.YtdibdfalahjmbaaGreat.Line

open Go.RowKit Go.Sort Go.Proofs.YtdibdfalahjmbaaGreat.Rect Go.Proofs.YtdibdfalahjmbaaGreat.More Go.Proofs.YtdibdfalahjmbaaGreat.Shelf Go.Proofs.YtdibdfalahjmbaaGreat.Space Go.Proofs.YtdibdfalahjmbaaGreat.Place

set_option linter.unusedVariables false

set_option linter.unusedSimpArgs false

theorem rowAt_drew {w : World} {b : Nat} {xs : List Value} (h : RowAt w b xs) : RowAt w.drew b xs := ⟨h.at', h.frz⟩

theorem but_drew {w w' : World} {G : Nat → Prop} (h : But G w w') : But G w w'.drew := ⟨h.os, h.tape, h.output, h.size, h.block⟩

theorem but_high {w w' : World} {G : Nat → Prop} (h : But G w w') {g : Nat} (hg : w.heap.size ≤ g) (o : Nat) (v : Value) : But G w (w'.setCell ⟨g, o, none⟩ v) :=
  h.trans (but_one w' g o v) (fun j hj e => by omega)

section

variable {S : World → (Nat → Prop) → Addr → List Fl → Prop}

set_option maxRecDepth 100000 in
set_option maxHeartbeats 1000000 in
theorem lend_no (w : World) (p : Addr) (b : Nat) (m : Mk) (hb : Bl w p b m) (hm : m.az = []) :
    Calls Tryz.prog 32 #[.pointer (some ⟨b, 0, none⟩)] w fun e w' => e = .returned (.tuple #[zeroLn.v, .bool false]) ∧ Below w.heap.size w w' := by
  have HNo := Lib.hid (fun w1 (k : Bl w1 p b m) => lnow_no w1 p b m k hm)
  have HB := Lib.hid hb
  clear hb hm
  go_enter Tryz.func32, Tryz.ntmps32
  go_upto_region 1 with fail
  generalize hW1 : World.alloc w _ = W
  obtain ⟨b0, hb0⟩ : ∃ b0, w.heap.size = b0 := ⟨_, rfl⟩
  have k1 : Below w.heap.size w W := by rw [← hW1]; exact ba1 _ _
  have z1 : RowAt W b0 (lnrow zeroLn) := by rw [← hW1, ← hb0]; exact RowAt.new w _ _
  have hb1 : w.heap.size ≤ b0 := by omega
  rw [hb0]
  have S1 := Lib.hid (⟨k1, HB.out.below k1, z1⟩ : Below w.heap.size w W ∧ Bl W p b m ∧ RowAt W b0 (lnrow zeroLn))
  clear hW1 hb0 k1 z1 HB
  go_upto_region 2 with (first
    | (go_at_call 46; refine (HNo.out _ S1.out.2.1).mono ?_; rintro e w1 ⟨rfl, k1⟩; have K1 := Lib.hid k1; clear k1))
  generalize hW2 : World.alloc w1 _ = V
  obtain ⟨b2, hb2⟩ : ∃ b2, w1.heap.size = b2 := ⟨_, rfl⟩
  have k2 : Below w1.heap.size w1 V := by rw [← hW2]; exact ba1 _ _
  have z2 : RowAt V b2 (lnrow zeroLn) := by rw [← hW2, ← hb2]; exact RowAt.new w1 _ _
  have z1 := S1.out.2.2.below (by simp) (thru K1.out k2)
  rw [hb2]
  have K2 := Lib.hid (thru S1.out.1 (thru K1.out k2))
  obtain ⟨r0, r1, r2, r3, r4, r5⟩ := lat_of z2
  obtain ⟨s0, s1, s2, s3, s4, s5⟩ := lat_of z1
  have f0 := z1.frz 0
  have f1 := z1.frz 1
  have f2 := z1.frz 2
  have f3 := z1.frz 3
  have f4 := z1.frz 4
  have f5 := z1.frz 5
  clear hW2 hb2 k2 z2 z1 K1 S1
  go_wp2_with fail
  exact bodyPost_ret (v := .tuple #[zeroLn.v, .bool false]) (by simp [results, Tryz.results32, go_sem, s0, s1, s2, s3, s4, s5]) rfl ⟨rfl, ((((((K2.out.setCell (p := ⟨b0, 0, none⟩) hb1 _).setCell (p := ⟨b0, 1, none⟩) hb1 _).setCell (p := ⟨b0, 2, none⟩) hb1 _).setCell (p := ⟨b0, 3, none⟩) hb1 _).setCell (p := ⟨b0, 4, none⟩) hb1 _).setCell (p := ⟨b0, 5, none⟩) hb1 _)⟩

set_option maxRecDepth 100000 in
set_option maxHeartbeats 1000000 in
theorem lend_some (hO : SpaceOk S) (w : World) (F : Nat → Prop) (p : Addr) (b : Nat) (m : Mk) (hs : S w F p m.fs) (hb : Bl w p b m) (hm : m.az ≠ []) (hf : Fine m) :
    Calls Tryz.prog 32 #[.pointer (some ⟨b, 0, none⟩)] w fun e w' => e = .returned (.tuple #[(lnOf m).v, .bool true]) ∧ Bl w' p b m.fin ∧ But (fun k => k = b) w w' := by
  have HNo := Lib.hid (fun w1 (k : S w1 F p m.fs) (kb : Bl w1 p b m) => lnow_some hO w1 F p b m k kb hm hf)
  have hex : ∃ x, RowAt w b (bldr p m.f m.t m.y x) := by
    obtain ⟨x, h, -⟩ := hb
    exact ⟨x, h⟩
  obtain ⟨x, hx⟩ := hex
  have HFin := Lib.hid (fin_some hm)
  have hlb : (lnOf m).b = m.b := rfl
  rw [fin_some hm]
  generalize lnOf m = X at *
  have HB := Lib.hid (⟨hb, hx⟩ : Bl w p b m ∧ RowAt w b (bldr p m.f m.t m.y x))
  have HS := Lib.hid hs
  have HL := Lib.hid hlb
  clear hb hm hf hx hs hlb
  go_enter Tryz.func32, Tryz.ntmps32
  go_upto_region 1 with fail
  generalize hW1 : World.alloc w _ = W
  obtain ⟨b0, hb0⟩ : ∃ b0, w.heap.size = b0 := ⟨_, rfl⟩
  have k1 : Below w.heap.size w W := by rw [← hW1]; exact ba1 _ _
  have z1 : RowAt W b0 (lnrow zeroLn) := by rw [← hW1, ← hb0]; exact RowAt.new w _ _
  have hb1 : w.heap.size ≤ b0 := by omega
  have hne : b0 ≠ b := by have := HB.out.1.lt; omega
  rw [hb0]
  have S1 := Lib.hid (⟨k1, HB.out.1.below k1, HB.out.2.below (by simp) k1, z1, thruS hO HS.out k1⟩ : Below w.heap.size w W ∧ Bl W p b m ∧ RowAt W b (bldr p m.f m.t m.y x) ∧ RowAt W b0 (lnrow zeroLn) ∧ S W F p m.fs)
  clear hW1 hb0 k1 z1 HB HS
  go_upto_region 2 with (first
    | (go_at_call 46; refine (HNo.out _ S1.out.2.2.2.2 S1.out.2.1).mono ?_; rintro e w1 ⟨rfl, k1⟩; have K1 := Lib.hid k1; clear k1))
  generalize hW2 : World.alloc w1 _ = V
  obtain ⟨b2, hb2⟩ : ∃ b2, w1.heap.size = b2 := ⟨_, rfl⟩
  have k2 : Below w1.heap.size w1 V := by rw [← hW2]; exact ba1 _ _
  have z2 : RowAt V b2 (lnrow X) := by rw [← hW2, ← hb2]; exact RowAt.new w1 _ _
  have z1 := S1.out.2.2.2.1.below (by simp) (thru K1.out k2)
  have zb := S1.out.2.2.1.below (by simp) (thru K1.out k2)
  have hne2 : b2 ≠ b := by have := (S1.out.2.2.1.below (by simp) K1.out).lt (by simp); omega
  have hne3 : b2 ≠ b0 := by have := (S1.out.2.2.2.1.below (by simp) K1.out).lt (by simp); omega
  rw [hb2]
  have S2 := Lib.hid (⟨thru S1.out.1 (thru K1.out k2), zb, z1, z2⟩ : Below w.heap.size w V ∧ RowAt V b (bldr p m.f m.t m.y x) ∧ RowAt V b0 (lnrow zeroLn) ∧ RowAt V b2 (lnrow X))
  obtain ⟨r0, r1, r2, r3, r4, r5⟩ := lat_of z2
  obtain ⟨c0, c1, c2, c3, c4, c5, c6, c7, c8, c9⟩ := bat_of zb
  have f3 := zb.frz 3
  have f4 := zb.frz 4
  have f5 := zb.frz 5
  have f6 := zb.frz 6
  have f7 := zb.frz 7
  have f8 := zb.frz 8
  have f9 := zb.frz 9
  clear hW2 hb2 k2 z2 z1 zb K1 S1
  go_upto_region 3 with fail
  clear c0 c1 c2 r0 r1 r2 r4 r5
  go_cut [17] (fun v wx => v = .int .i64 X.b ∧ wx = World.drew (World.setCell ((((((V.setCell ⟨b, 4, none⟩ (.int .i64 0)).setCell ⟨b, 5, none⟩ (.int .i64 0)).setCell ⟨b, 6, none⟩ (.int .i64 0)).setCell ⟨b, 7, none⟩ (.int .i64 0)).setCell ⟨b, 8, none⟩ (.int .i64 0)).setCell ⟨b, 9, none⟩ (.int .i64 0)) ⟨b, 3, none⟩ (.int .i64 X.b)))
  case first =>
    go_region_with (fail)
    all_goals (go_wp2_with fail; go_meet; exact ⟨rfl, rfl⟩)
  case rest =>
  obtain ⟨rfl, rfl⟩ := hcut
  clear c3 c4 c5 c6 c7 c8 c9 f3 f4 f5 f6 f7 f8 f9 r3
  have v5 : RowAt (World.drew (World.setCell ((((((V.setCell ⟨b, 4, none⟩ (.int .i64 0)).setCell ⟨b, 5, none⟩ (.int .i64 0)).setCell ⟨b, 6, none⟩ (.int .i64 0)).setCell ⟨b, 7, none⟩ (.int .i64 0)).setCell ⟨b, 8, none⟩ (.int .i64 0)).setCell ⟨b, 9, none⟩ (.int .i64 0)) ⟨b, 3, none⟩ (.int .i64 X.b))) b (bldr p m.f m.t X.b zeroLn) := rowAt_drew ((bldr_six S2.out.2.1 zeroLn).set 3 (.int .i64 X.b) (by simp))
  have k5 : But (fun k => k = b) V (World.drew (World.setCell ((((((V.setCell ⟨b, 4, none⟩ (.int .i64 0)).setCell ⟨b, 5, none⟩ (.int .i64 0)).setCell ⟨b, 6, none⟩ (.int .i64 0)).setCell ⟨b, 7, none⟩ (.int .i64 0)).setCell ⟨b, 8, none⟩ (.int .i64 0)).setCell ⟨b, 9, none⟩ (.int .i64 0)) ⟨b, 3, none⟩ (.int .i64 X.b))) := but_drew (but_onto (but_six (But.of_below (S := fun k => k = b) (Below.refl V.heap.size V)) 4 5 6 7 8 9 (.int .i64 0) (.int .i64 0) (.int .i64 0) (.int .i64 0) (.int .i64 0) (.int .i64 0)) 3 (.int .i64 X.b))
  generalize World.drew (World.setCell ((((((V.setCell ⟨b, 4, none⟩ (.int .i64 0)).setCell ⟨b, 5, none⟩ (.int .i64 0)).setCell ⟨b, 6, none⟩ (.int .i64 0)).setCell ⟨b, 7, none⟩ (.int .i64 0)).setCell ⟨b, 8, none⟩ (.int .i64 0)).setCell ⟨b, 9, none⟩ (.int .i64 0)) ⟨b, 3, none⟩ (.int .i64 X.b)) = Y at *
  have z0 := S2.out.2.2.1.but (by simp) k5 hne
  have z2 := S2.out.2.2.2.but (by simp) k5 hne2
  have S3 := Lib.hid (⟨v5, (But.of_below (S := fun k => k = b) S2.out.1).trans k5 (fun _ _ e => e)⟩ : RowAt Y b (bldr p m.f m.t X.b zeroLn) ∧ But (fun k => k = b) w Y)
  obtain ⟨r0, r1, r2, r3, r4, r5⟩ := lat_of z2
  obtain ⟨s0, s1, s2, s3, s4, s5⟩ := lat_of z0
  have f0 := z0.frz 0
  have f1 := z0.frz 1
  have f2 := z0.frz 2
  have f3 := z0.frz 3
  have f4 := z0.frz 4
  have f5 := z0.frz 5
  clear v5 k5 z0 z2 S2
  go_wp2_with fail
  have hK := but_high (but_high (but_high (but_high (but_high (but_high S3.out.2 hb1 0 (.int .i64 X.l)) hb1 1 (.int .i64 X.t)) hb1 2 (.int .i64 X.r)) hb1 3 (.int .i64 X.b)) hb1 4 (.int .i64 X.a)) hb1 5 (.int .i64 X.w)
  have h5 := S3.out.1
  rw [HL.out] at h5
  have hR := ((((((h5.kept (heap_setCell_other _ ⟨b0, 0, none⟩ b (.int .i64 X.l) hne.symm)).kept (heap_setCell_other _ ⟨b0, 1, none⟩ b (.int .i64 X.t) hne.symm)).kept (heap_setCell_other _ ⟨b0, 2, none⟩ b (.int .i64 X.r) hne.symm)).kept (heap_setCell_other _ ⟨b0, 3, none⟩ b (.int .i64 X.b) hne.symm)).kept (heap_setCell_other _ ⟨b0, 4, none⟩ b (.int .i64 X.a) hne.symm)).kept (heap_setCell_other _ ⟨b0, 5, none⟩ b (.int .i64 X.w) hne.symm))
  exact bodyPost_ret (v := .tuple #[X.v, .bool true]) (by simp [results, Tryz.results32, go_sem, s0, s1, s2, s3, s4, s5]) rfl ⟨rfl, ⟨zeroLn, hR, .inl ⟨rfl, rfl⟩⟩, hK⟩

def encL : Enc Ln := ⟨6, fun x => lnrow x, fun _ => rfl, fun x u h => by
  simp only [List.mem_cons, List.not_mem_nil, or_false] at h
  rcases h with h | h | h | h | h | h <;> (subst h; rfl), by omega⟩

theorem infoL : InfoE encL 47 28 48 :=
  ⟨Tryz.underlying28, .agg #[.int .i64 0, .int .i64 0, .int .i64 0, .int .i64 0, .int .i64 0, .int .i64 0], rfl, by kernel_rfl⟩

def Made (w : World) (g B : Nat) (xs : List Mk) : Prop := ∃ A c, RowAt w g [.slice A xs.length c] ∧ MineE encL 47 w B A xs.length c (xs.map lnOf)

theorem Made.but {w w' : World} {g B : Nat} {xs : List Mk} {G : Nat → Prop} (h : Made w g B xs) (k : But G w w') (h1 : ¬ G g) (h2 : ∀ j, G j → j < B ∨ w.heap.size ≤ j) : Made w' g B xs := by
  obtain ⟨A, c, r, o⟩ := h
  refine ⟨A, c, r.but (by simp) k h1, mineE_but o k (fun j e hj => ?_)⟩
  have := o.lt j e
  rcases h2 j hj with q | q <;> omega

end

end Go.Proofs.YtdibdfalahjmbaaGreat.Line
