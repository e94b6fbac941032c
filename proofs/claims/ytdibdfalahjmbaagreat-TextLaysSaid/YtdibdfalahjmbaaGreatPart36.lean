
import Derived.Test.YtdibdfalahjmbaaGreatPart34
namespace Go.Proofs.YtdibdfalahjmbaaGreat.Line

open Go.RowKit Go.Sort Go.Proofs.YtdibdfalahjmbaaGreat.Rect Go.Proofs.YtdibdfalahjmbaaGreat.More Go.Proofs.YtdibdfalahjmbaaGreat.Shelf Go.Proofs.YtdibdfalahjmbaaGreat.Space Go.Proofs.YtdibdfalahjmbaaGreat.Place

set_option linter.unusedVariables false

set_option linter.unusedSimpArgs false

set_option maxRecDepth 100000 in
set_option maxHeartbeats 2000000 in
theorem refadd_begin (A : Option Addr) (n c : Nat) (A2 : Option Addr) (n2 c2 : Nat) (m : Mk) (z : Sz) (w : World) (h : MkIn w A n c A2 n2 c2 m) (hnil : A2 = none → c2 = 0) (hz : RightS z) (hn2 : n2 ≤ 100000) (hti : Tidy m) (hm : m.az = []) :
    Calls Tryz.prog 20 #[Mv A n c A2 n2 c2 m, .agg #[.int .i64 z.wd, .int .i64 z.ht]] w fun e w' => (∃ A3 c3, e = .returned (.tuple #[Mv A n c A3 1 c3 (m.fresh z), .bool true]) ∧ ∃ B0, w.heap.size ≤ B0 ∧ MineZ w' B0 A3 1 c3 (m.fresh z).az) ∧ Below w.heap.size w w' := by
  have HI := Lib.hid h
  have HNil := Lib.hid hnil
  have HN2 := Lib.hid hn2
  have HTi := Lib.hid hti
  have HRz := Lib.hid hz
  have hn0 : n2 = 0 := by rw [h.hn2, hm]; rfl
  have HE := Lib.hid hm
  subst hn0
  clear h hnil hn2 hz hti hm
  go_enter Tryz.func20, Tryz.ntmps20
  go_upto_region 1 with fail
  generalize hW1 : World.alloc w _ = W1
  obtain ⟨b0, hb0⟩ : ∃ b0, w.heap.size = b0 := ⟨_, rfl⟩
  have k1 : Below w.heap.size w W1 := by rw [← hW1]; exact ba1 _ _
  have s1 : W1.heap.size = b0 + 1 := by rw [← hW1, ← hb0]; simp
  have a1 : Mb W1 b0 A n c A2 0 c2 m := by rw [← hW1, ← hb0]; exact heap_alloc_new w _
  clear hW1
  generalize hW2 : World.alloc W1 _ = W2
  have k2 : Below W1.heap.size W1 W2 := by rw [← hW2]; exact ba1 _ _
  have s2 : W2.heap.size = b0 + 1 + 1 := by rw [← hW2, ← s1]; simp
  have a2 : RowAt W2 (b0 + 1) (zcells z) := by rw [← hW2, ← s1]; exact RowAt.new W1 _ _
  clear hW2
  generalize hW3 : World.alloc W2 _ = W3
  have k3 : Below W2.heap.size W2 W3 := by rw [← hW3]; exact ba1 _ _
  have a3 : Mb W3 (b0 + 1 + 1) none 0 0 none 0 0 zeroM := by rw [← hW3, ← s2]; exact heap_alloc_new W2 _
  have s3 : W3.heap.size = b0 + 1 + 1 + 1 := by rw [← hW3, ← s2]; simp
  clear hW3
  rw [hb0]
  obtain ⟨b1, hb1⟩ : ∃ b1, b0 + 1 = b1 := ⟨_, rfl⟩
  obtain ⟨b2, hb2⟩ : ∃ b2, b1 + 1 = b2 := ⟨_, rfl⟩
  rw [hb1] at s1 a2 s2 a3 s3
  rw [hb1]
  rw [hb2] at s2 a3 s3
  rw [hb2]
  have HL := Lib.hid (⟨by omega, by omega, by omega, by omega, by omega, by omega⟩ : w.heap.size ≤ b0 ∧ w.heap.size ≤ b1 ∧ w.heap.size ≤ b2 ∧ b0 ≠ b2 ∧ b0 ≠ b1 ∧ b1 ≠ b2)
  have S1 := Lib.hid (⟨thru (thru k1 k2) k3, a1.below (thru k2 k3), a2.below (by simp) k3, a3⟩ : Below w.heap.size w W3 ∧ Mb W3 b0 A n c A2 0 c2 m ∧ RowAt W3 b1 (zcells z) ∧ Mb W3 b2 none 0 0 none 0 0 zeroM)
  clear k1 k2 k3 s1 s2 a1 a2 a3 hb0 hb1 hb2
  obtain ⟨c0, c1, c2', c3, c4, c5⟩ := S1.out.2.1.at'
  go_upto_region 2 with fail
  clear c0 c1 c2' c3 c4 c5
  generalize hW4 : World.alloc W3 _ = W
  obtain ⟨b3, hb3⟩ : ∃ b3, b2 + 1 = b3 := ⟨_, rfl⟩
  rw [hb3] at s3
  have k4 : Below W3.heap.size W3 W := by rw [← hW4]; exact ba1 _ _
  have a4 : Mb W b3 A n c A2 0 c2 m := by rw [← hW4, ← s3]; exact heap_alloc_new W3 _
  rw [hb3]
  have HL3 := Lib.hid (⟨by have := HL.out; omega, by have := S1.out.2.1.lt; omega, by have := S1.out.2.2.1.lt (by simp); omega, by have := S1.out.2.2.2.lt; omega⟩ : w.heap.size ≤ b3 ∧ b0 ≠ b3 ∧ b1 ≠ b3 ∧ b2 ≠ b3)
  have S2 := Lib.hid (⟨thru S1.out.1 k4, S1.out.2.1.below k4, S1.out.2.2.1.below (by simp) k4, S1.out.2.2.2.below k4, a4⟩ : Below w.heap.size w W ∧ Mb W b0 A n c A2 0 c2 m ∧ RowAt W b1 (zcells z) ∧ Mb W b2 none 0 0 none 0 0 zeroM ∧ Mb W b3 A n c A2 0 c2 m)
  clear hW4 hb3 k4 a4 S1 s3
  have HA := Lib.hid (fun w' (j : Below W.heap.size W w') => (S2.out.2.1.below j).at')
  have HZ := Lib.hid (fun w' (j : Below W.heap.size W w') => two_of (S2.out.2.2.1.below (by simp) j))
  have HSr := Lib.hid (fun w' (j : Below W.heap.size W w') => sizes_src (HI.out.hx2.thru (thru S2.out.1 j)) HI.out.hn2 HNil.out)
  refine Hold.wp_region_hold [.some (EmpZ W.heap.size), .val (.pointer (some ⟨b0, 5, none⟩)), .val (.slice A2 0 c2), .some (OwnZ m.az 0 W.heap.size), .val (.agg #[.int .i64 z.wd, .int .i64 z.ht]), .some (OwnZ [z] 1 W.heap.size)] (by kernel_rfl) (by kernel_rfl) (by kernel_rfl) ?_ ?_
  · simp only [Hold.fill, Hold.Leave.value]
    refine ⟨?_, ?_, ?_, ?_, ?_, ?_, trivial⟩
    · refine ⟨empZ_keeps _, fun gg w' hw hk => ?_⟩
      go_simp
      exact ⟨ba1 _ _, _, rfl, emptyE_mine encZ 82 w' W.heap.size hw.size, by have := hw.size; simp; omega⟩
    · intro gg w' hw hk
      go_simp
      exact ⟨rfl, rfl⟩
    · intro gg w' hw hk
      have q := (HA.out w' hw).2.2.2.2.2
      go_simp
      exact ⟨rfl, rfl⟩
    · refine ⟨ownZ_keeps _ _ _, fun gg w' hw hk => ?_⟩
      have h1 := hk ⟨0, .data⟩ (by simp) rfl _ rfl
      have hg : ∃ b, gg 0 = .slice (some ⟨b, 0, none⟩) 0 0 ∧ MineZ w' W.heap.size (some ⟨b, 0, none⟩) 0 0 [] := by
        obtain ⟨b, q1, q2, q3⟩ := h1
        exact ⟨b, q1, q2⟩
      clear h1 hk
      have hsrc := HSr.out w' hw
      have key : ∀ b, gg 0 = .slice (some ⟨b, 0, none⟩) 0 0 → MineZ w' W.heap.size (some ⟨b, 0, none⟩) 0 0 [] → ∃ A' c' w'', (Builtin.append_ #[77, 77] 77 #[gg 0, .slice A2 0 c2]).run Tryz.prog w' = .ok (.slice A' 0 c') w'' ∧ MineZ w'' W.heap.size A' 0 c' m.az ∧ Below w'.heap.size w' w'' := fun b q1 q2 => by
        rw [q1]
        exact run_append_fresh (E := encZ) infoZ _ w' W.heap.size b q2 A2 0 c2 m.az hsrc (by have := HI.out.hlen2; simp only [maxLen]; omega) (by have := HI.out.hlen2; omega) hw.size
      have hk2 := hg.elim fun b q => key b q.1 q.2
      clear key hg hsrc
      refine gives_append (.tmp 11) (.tmp 13) rfl (gg 0) (.slice A2 0 c2) ?_ ?_ ?_
      · go_simp
      · go_simp
      · have hsz := hw.size
        exact hk2.elim fun A' h => h.elim fun c' h => h.elim fun w'' h => ⟨_, w'', h.1, h.2.2, A', c', rfl, h.2.1, Nat.le_trans hsz h.2.2.size⟩
    · intro gg w' hw hk
      have q0 := (HZ.out w' hw).1
      have q1 := (HZ.out w' hw).2.1
      go_simp
      exact ⟨rfl, rfl⟩
    · refine ⟨ownZ_keeps _ _ _, fun gg w' hw hk => ?_⟩
      have hsz := hw.size
      go_simp
      exact ⟨ba1 _ _, _, _, rfl, oneZ w' W.heap.size hsz z, by simp; omega⟩
  intro gg w2 k2 hgg
  simp only [Hold.fill, Hold.Leave.value, List.length_cons, List.length_nil, List.drop_succ_cons, List.drop_zero]
  have h2 := hgg 3 _ rfl
  have h4 := hgg 5 _ rfl
  obtain ⟨A4, c4, q1, m1, -⟩ := h2
  obtain ⟨A5, c5, q2, m2, -⟩ := h4
  obtain ⟨g2, rfl, -, -, -, -⟩ := m2.form (by omega)
  rw [q1, q2]
  have M1 := Lib.hid m1
  have M2 := Lib.hid m2
  have K2 := Lib.hid k2
  clear hgg q1 q2 m1 m2 k2 HSr
  refine wpList_append_E (bytes := 16) (by omega) infoZ _ rfl (.tmp 14) (.tmp 16) rfl W.heap.size A4 0 c4 m.az (by go_simp) M1.out (some ⟨g2, 0, none⟩) 1 c5 [z] (by go_simp) (MineE.src M2.out) (by omega) K2.out.size ?_
  intro A3 c3 w3 h3
  have k3 := AppendedE.below h3 M1.out K2.out (Nat.le_refl _) K2.out.size
  have M3 := Lib.hid (⟨h3.1, k3, S2.out.2.2.2.2.below k3⟩ : MineZ w3 W.heap.size A3 (0 + 1) c3 (m.az ++ [z]) ∧ Below W.heap.size W w3 ∧ Mb w3 b3 A n c A2 0 c2 m)
  clear h3 M1 M2 K2 k3
  have hM3 := M3.out.2.2
  obtain ⟨c0, c1, c2', c3', c4', c5'⟩ := hM3.at'
  obtain ⟨f0, f1, f2, f3, f4, f5⟩ := hM3.free
  clear hM3
  go_simp
  go_upto_region 3 with fail
  clear c0 c1 c2' c3' c4' c5' f0 f1 f2 f3 f4 f5
  have v3 : Mb (w3.setCell ⟨b3, 5, none⟩ (.slice A3 (0 + 1) c3)) b3 A n c A3 (0 + 1) c3 (m.more z) := M3.out.2.2.set5 A3 (0 + 1) c3 (m.az ++ [z])
  have k3 : But (fun k => k = b3) w3 (w3.setCell ⟨b3, 5, none⟩ (.slice A3 (0 + 1) c3)) := ⟨rfl, rfl, rfl, by simp [World.setCell], fun k _ hk => Below.heap_setCell _ _ _ k hk⟩
  generalize w3.setCell ⟨b3, 5, none⟩ (.slice A3 (0 + 1) c3) = V at *
  have hb3W : b3 < W.heap.size := S2.out.2.2.2.2.lt
  have hb0W := S2.out.2.1.lt
  have hb1W := S2.out.2.2.1.lt (by simp)
  have hb2W := S2.out.2.2.2.1.lt
  have kV : But (fun k => k = b3) W V := (But.of_below (S := fun k => k = b3) M3.out.2.1).trans k3 (fun _ _ e => e)
  have m3 : MineZ V W.heap.size A3 (0 + 1) c3 (m.az ++ [z]) := mineE_but M3.out.1 k3 (fun j e e2 => by have := (M3.out.1.lt j e).1; omega)
  have S4 := Lib.hid (⟨S2.out.1.trans (kV.below S2.out.1.size (fun k e => by have := HL3.out.1; omega)), (kV.block b0 hb0W HL3.out.2.1).trans S2.out.2.1, S2.out.2.2.1.but (by simp) kV HL3.out.2.2.1, (kV.block b2 hb2W HL3.out.2.2.2).trans S2.out.2.2.2.1, v3, m3⟩ : Below w.heap.size w V ∧ Mb V b0 A n c A2 0 c2 m ∧ RowAt V b1 (zcells z) ∧ Mb V b2 none 0 0 none 0 0 zeroM ∧ Mb V b3 A n c A3 (0 + 1) c3 (m.more z) ∧ MineZ V W.heap.size A3 (0 + 1) c3 (m.az ++ [z]))
  clear v3 k3 kV m3 hb0W hb1W M3 HA HZ S2
  have HSz := Lib.hid (sizes_mine S4.out.2.2.2.2.2)
  have HNi : Hid (A3 = none → c3 = 0) := Lib.hid (fun e => by
    obtain ⟨g, e2, -⟩ := MineE.form S4.out.2.2.2.2.2 (by omega)
    rw [e] at e2
    cases e2)
  have HB2 := Lib.hid hb2W
  have HB3 := Lib.hid hb3W
  clear hb3W
  clear hb2W
  obtain ⟨c0, c1, c2', c3', c4', c5'⟩ := S4.out.2.1.at'
  rw [HE.out] at S4
  simp only [List.nil_append, Nat.zero_add] at S4 HSz HNi
  go_upto_region 4 with fail
  have a3 := S4.out.2.2.2.2.1
  obtain ⟨d0, d1, d2, d3, d4, d5⟩ := a3.at'
  obtain ⟨f0, f1, f2, f3, f4, f5⟩ := a3.free
  clear a3
  go_wp2_with fail
  clear d0 d1 d2 d3 d4 d5 f0 f1 f2 f3 f4 f5 c0 c1 c2' c3' c4' c5'
  have v4 : Mb (V.setCell ⟨b3, 4, none⟩ (.int .i64 m.y)) b3 A n c A3 1 c3 { (m.more z) with top := m.y, az := [z] } := by
    have h := (S4.out.2.2.2.2.1.set4 m.y)
    exact h
  have k4 := but_one V b3 4 (.int .i64 m.y)
  generalize V.setCell ⟨b3, 4, none⟩ (.int .i64 m.y) = V2 at *
  have S5 : Hid (Below w.heap.size w V2 ∧ Mb V2 b0 A n c A2 0 c2 m ∧ RowAt V2 b1 (zcells z) ∧ Mb V2 b2 none 0 0 none 0 0 zeroM ∧ Mb V2 b3 A n c A3 1 c3 { m with top := m.y, az := [z] } ∧ MineZ V2 W.heap.size A3 1 c3 [z]) := Lib.hid (by
    have := HL.out
    have := HL3.out
    have hb3 := S4.out.2.2.2.2.1.lt
    refine ⟨S4.out.1.trans (k4.below S4.out.1.size (fun k e => by omega)), (k4.block b0 S4.out.2.1.lt (by omega)).trans S4.out.2.1, S4.out.2.2.1.but (by simp) k4 (by omega), (k4.block b2 S4.out.2.2.2.1.lt (by omega)).trans S4.out.2.2.2.1, v4, mineE_but S4.out.2.2.2.2.2 k4 (fun j e e2 => by have := (S4.out.2.2.2.2.2.lt j e).1; have := HB3.out; omega)⟩)
  clear v4 k4 S4 HSz
  go_loopw [7] (fun u wr => ∃ q : Int, Hid (SeeksL m.fs m.f m.t z m.y q ∧ (Below w.heap.size w wr ∧ Mb wr b0 A n c A2 0 c2 m ∧ RowAt wr b1 (zcells z) ∧ Mb wr b2 none 0 0 none 0 0 zeroM ∧ Mb wr b3 A n c A3 1 c3 { m with top := q, az := [z] } ∧ MineZ wr W.heap.size A3 1 c3 [z]))) (fun _ wr => (max m.y 562949953421312 - intOf ((wr.cell? ⟨b3, 4, none⟩).getD undef)).toNat)
  case atStart => exact ⟨m.y, Lib.hid ⟨⟨Int.le_refl _, by omega, fun r h1 h2 => by omega⟩, S5.out⟩⟩
  case round =>
    obtain ⟨q, H⟩ := hrel
    clear S5
    have hyb := HTi.out.y2
    have hq1 : m.y ≤ q := H.out.1.1
    have hq2 : q ≤ max m.y 562949953421312 := H.out.1.2.1
    have hy1 := HTi.out.y1
    have HQ := Lib.hid (⟨by omega, by omega⟩ : -1125899906842624 ≤ q ∧ q ≤ 1125899906842624)
    have HBe := Lib.hid (refbegins_any A n c A2 0 c2 m z q wr HI.out.hn HI.out.hlen (HI.out.hx.thru H.out.2.1) HTi.out.h49 HRz.out ⟨HTi.out.f1, HTi.out.f2⟩ ⟨HTi.out.t1, HTi.out.t2⟩ HQ.out)
    obtain ⟨c0, c1, c2', c3', c4', c5'⟩ := H.out.2.2.1.at'
    obtain ⟨e0, e1, -, -⟩ := two_of H.out.2.2.2.1
    obtain ⟨d0, d1, d2, d3, d4, d5⟩ := H.out.2.2.2.2.2.1.at'
    have HD4 := Lib.hid d4
    obtain ⟨v, hv⟩ : ∃ v, okL m.fs m.f m.t z q = v := ⟨_, rfl⟩
    rw [hv] at HBe
    have HV := Lib.hid hv
    clear hyb hq1 hq2 hy1 hv
    cases v with
    | true =>
      have hqe : q = topL m.fs m.f m.t z m.y := seeksL_found H.out.1 HTi.out.h49 HTi.out.f1 HTi.out.t2 (by have := HTi.out.y1; omega) HV.out
      have HQE := Lib.hid hqe
      clear hqe
      go_upto_region 9 with (first
        | (go_at_call 35; refine HBe.out.mono ?_; rintro e w5 ⟨rfl, k5⟩; have K5 := Lib.hid k5; clear k5))
      clear c0 c1 c2' c3' c4' c5' e0 e1 d0 d1 d2 d3 d4 d5
      have a9 := H.out.2.2.2.2.2.1.below K5.out
      have z9 := H.out.2.2.2.2.1.below K5.out
      have M9 := Lib.hid (H.out.2.2.2.2.2.2.below K5.out)
      have K9 := Lib.hid (thru H.out.2.1 K5.out)
      obtain ⟨c0, c1, c2', c3', c4', c5'⟩ := a9.at'
      obtain ⟨z0, z1, z2, z3, z4, z5⟩ := z9.at'
      obtain ⟨f0, f1, f2, f3, f4, f5⟩ := z9.free
      clear a9 z9
      go_wp2_with fail
      have kF := ((((((K9.out.setCell (p := ⟨b2, 0, none⟩) HL.out.2.2.1 (.slice A n c)).setCell (p := ⟨b2, 1, none⟩) HL.out.2.2.1 (.int .i64 m.f)).setCell (p := ⟨b2, 2, none⟩) HL.out.2.2.1 (.int .i64 m.t)).setCell (p := ⟨b2, 3, none⟩) HL.out.2.2.1 (.int .i64 m.y)).setCell (p := ⟨b2, 4, none⟩) HL.out.2.2.1 (.int .i64 q)).setCell (p := ⟨b2, 5, none⟩) HL.out.2.2.1 (.slice A3 1 c3))
      have hF := (mineE_but M9.out (but_six (But.of_below (S := fun k => k = b2) (Below.refl w5.heap.size w5)) 0 1 2 3 4 5 (.slice A n c) (.int .i64 m.f) (.int .i64 m.t) (.int .i64 m.y) (.int .i64 q) (.slice A3 1 c3)) (fun j e e2 => by have := (M9.out.lt j e).1; have := HB2.out; omega))
      refine bodyPost_ret (v := .tuple #[Mv A n c A3 1 c3 { m with top := q, az := [z] }, .bool true]) (by simp [results, Tryz.results20, go_sem, z0, z1, z2, z3, z4, z5]) rfl ⟨⟨A3, c3, ?_, W.heap.size, (by have := HB2.out; have := HL.out; omega), hF⟩, kF⟩
      rw [HQE.out]
      rfl
    | false =>
      have hnx := seeksL_next H.out.1 HTi.out.h49 HTi.out.f1 HTi.out.t2 HV.out
      have HNx := Lib.hid (fun w1 (k : Below wr.heap.size wr w1) => refnext_any A n c m.fs q w1 HI.out.hn HI.out.hlen (HI.out.hx.thru (thru H.out.2.1 k)))
      have HX := Lib.hid hnx
      rw [hnx.1] at HNx
      generalize (nextF m.fs q).1 = q2 at *
      clear hnx
      go_upto_region 6 with (first
        | (go_at_call 35; refine HBe.out.mono ?_; rintro e w5 ⟨rfl, k5⟩; have K5 := Lib.hid k5; clear k5))
      clear c0 c1 c2' c3' c4' c5' e0 e1 d0 d1 d2 d3 d4 d5
      obtain ⟨c0, c1, c2', c3', c4', c5'⟩ := (H.out.2.2.1.below K5.out).at'
      obtain ⟨d0, d1, d2, d3, d4, d5⟩ := (H.out.2.2.2.2.2.1.below K5.out).at'
      go_upto_region 8 with (first
        | (go_at_call 36; refine (HNx.out _ K5.out).mono ?_; rintro e w6 ⟨rfl, k6⟩; have K6 := Lib.hid (thru K5.out k6); clear k6))
      clear c0 c1 c2' c3' c4' c5' d0 d1 d2 d3 d4 d5
      have a6 := H.out.2.2.2.2.2.1.below K6.out
      obtain ⟨d0, d1, d2, d3, d4, d5⟩ := a6.at'
      obtain ⟨f0, f1, f2, f3, f4, f5⟩ := a6.free
      have HS6 : Hid (Below w.heap.size w (w6.setCell ⟨b3, 4, none⟩ (.int .i64 q2)) ∧ Mb (w6.setCell ⟨b3, 4, none⟩ (.int .i64 q2)) b0 A n c A2 0 c2 m ∧ RowAt (w6.setCell ⟨b3, 4, none⟩ (.int .i64 q2)) b1 (zcells z) ∧ Mb (w6.setCell ⟨b3, 4, none⟩ (.int .i64 q2)) b2 none 0 0 none 0 0 zeroM ∧ Mb (w6.setCell ⟨b3, 4, none⟩ (.int .i64 q2)) b3 A n c A3 1 c3 { m with top := q2, az := [z] } ∧ MineZ (w6.setCell ⟨b3, 4, none⟩ (.int .i64 q2)) W.heap.size A3 1 c3 [z]) := Lib.hid (by
        have k7 := but_one w6 b3 4 (.int .i64 q2)
        have := HL.out
        have := HL3.out
        have k0 := thru H.out.2.1 K6.out
        refine ⟨k0.trans (k7.below k0.size (fun k e => by omega)), (k7.block b0 (H.out.2.2.1.below K6.out).lt (by omega)).trans (H.out.2.2.1.below K6.out), (H.out.2.2.2.1.below (by simp) K6.out).but (by simp) k7 (by omega), (k7.block b2 (H.out.2.2.2.2.1.below K6.out).lt (by omega)).trans (H.out.2.2.2.2.1.below K6.out), a6.set4 q2, mineE_but (H.out.2.2.2.2.2.2.below K6.out) k7 (fun j e e2 => by have := ((H.out.2.2.2.2.2.2.below K6.out).lt j e).1; have := HB3.out; omega)⟩)
      clear a6
      go_wp2_with fail
      go_roundw
      case rel => exact ⟨q2, Lib.hid ⟨HX.out.2.2, HS6.out⟩⟩
      case measure =>
        have h1 := HS6.out.2.2.2.2.1.at'.2.2.2.2.1
        have h2 := HX.out.2.1
        have h3 := HX.out.2.2.2.1
        rw [h1, HD4.out]
        simp only [Option.getD_some, intOf]
        omega

end Go.Proofs.YtdibdfalahjmbaaGreat.Line
