/- The law of floats alone. -/
import Derived.Test.YtdibdfalahjmbaaPart47
namespace Go.Proofs.Ytdibdfalahjmbaa.Text
open Go.RowKit Go.Sort Go.Proofs.Ytdibdfalahjmbaa.Rect Go.Proofs.Ytdibdfalahjmbaa.More Go.Proofs.Ytdibdfalahjmbaa.Shelf Go.Proofs.Ytdibdfalahjmbaa.Space Go.Proofs.Ytdibdfalahjmbaa.Place Go.Proofs.Ytdibdfalahjmbaa.Line
set_option linter.unusedVariables false
set_option linter.unusedSimpArgs false

section
variable {S : World → (Nat → Prop) → Addr → List Fl → Prop}

theorem floats_box {fs : List Fl} {f t y Z : Int} {its : List It} (hr : ∀ x ∈ its, RightI x) (hz : Z + 2147483648 * (its.length : Int) ≤ 140737488355328 + 140000000000000) (h : Lo Z ⟨fs, f, t, y, 0, []⟩) (h0 : ∀ x ∈ its, x.sd ≠ 0) {k : Nat} (d : Nat) (hd : k + 1 + d ≤ its.length) :
    bxAt (layK fs f t y its (k + 1 + d)).box k = bxOf (placed (layK fs f t y its k).m.fs ((itAt its k).want f t y)) := by
  induction d with
  | zero =>
    rw [Nat.add_zero, (layK_float h0 k (by omega)).2, bxAt_eq]
    rw [(layK_keep hr h hz k (by omega)).bl]
    omega
  | succ d ih =>
    rw [show k + 1 + (d + 1) = k + 1 + d + 1 by omega, (layK_float h0 (k + 1 + d) (by omega)).2, bxAt_ne (by omega)]
    exact ih (by omega)
/-- What is placed where. -/
structure AtFl (fs : List Fl) (f t y : Int) (its : List It) (k : Nat) : Prop where
  n49 : (layK fs f t y its k).m.fs.all near49 = true
  rw' : RightW ((itAt its k).want f t y)
  len : (layK fs f t y its k).m.fs.length < 1000
  nx : (layK fs f t y its (k + 1)).m.fs = (layK fs f t y its k).m.fs ++ [placed (layK fs f t y its k).m.fs ((itAt its k).want f t y)]
  bx : bxAt (layD fs f t y its).box k = bxOf (placed (layK fs f t y its k).m.fs ((itAt its k).want f t y))
theorem atFl {fs : List Fl} {f t y : Int} {its : List It} (hf : fs.length ≤ 12) (hi : its.length ≤ 30) (hr : ∀ x ∈ its, RightI x) (h : Lo 140737488355328 ⟨fs, f, t, y, 0, []⟩) (h0 : ∀ x ∈ its, x.sd ≠ 0) {k : Nat} (hk : k < its.length) : AtFl fs f t y its k := by
  have hz : (140737488355328 : Int) + 2147483648 * (its.length : Int) ≤ 140737488355328 + 140000000000000 := by omega
  have ha := able_layK hr hz h (by omega) (by omega) k (by omega)
  have hx : itAt its k = its[k] := itAt_is (List.getElem?_eq_getElem (by omega))
  have hwt := (layK_floats (fs := fs) (f := f) (t := t) (y := y) h0 k (by omega)).2.1
  have hlo := ha.kp.lo
  rw [hwt] at hlo
  refine ⟨nearZ_49 hlo.fl (by simp; omega), ?_, ?_, (layK_float h0 k hk).1, ?_⟩
  · rw [hx]
    exact (hr _ (List.getElem_mem _)).want (h0 _ (List.getElem_mem _)) h.f1 h.f2 h.t1 h.t2 h.ft h.y1 (by have : y ≤ 140737488355328 := h.y2; omega)
  · have := ha.fs; omega
  · rw [layD_floats h0]
    have := floats_box hr hz h h0 (k := k) (its.length - (k + 1)) (by omega)
    rw [show k + 1 + (its.length - (k + 1)) = its.length by omega] at this
    exact this

def fltB (x : It) : Bool := x.sd != 0
def two2 (a b : List Fl) : Nat → List Fl
  | 0 => a
  | _ + 1 => b
theorem spaceK_but {S : World → (Nat → Prop) → Addr → List Fl → Prop} {w0 W w : World} {p : Addr} {L G : Nat → Prop} {fss : Nat → List Fl} {s : Nat} (h : spaceK S w0 W p L fss s w G) (hB : Below w0.heap.size w0 W) : But (fun k => ¬ L k) W w :=
  ⟨h.1.os.trans hB.os.symm, h.1.tape.trans hB.tape.symm, h.1.output.trans hB.output.symm, h.2.1, fun k _ hk => h.2.2.1 k (Classical.not_not.1 hk)⟩

set_option maxRecDepth 100000 in
set_option maxHeartbeats 8000000 in
theorem floats_law (hO : SpaceOk S) (hP : PlaceOk S) (A : Option Addr) (n c : Nat) (fs : List Fl) (f t y : Int) (AI : Option Addr) (ni ci : Nat) (its : List It) (hby : ni * 32 ≤ 140737488351232) (w : World) (hn : n = fs.length) (hm : n ≤ 9223372036854775807) (hx : Floats w w.heap.size A fs) (hni : ni = its.length) (hmi : ni ≤ 9223372036854775807) (hci : ni ≤ ci) (hxi : Items w w.heap.size AI its) :
    Calls Try.prog 6 #[.slice A n c, .int .i64 f, .int .i64 t, .int .i64 y, .slice AI ni ci] w fun e w' => e = .returned (.bool true) ∧ Below w.heap.size w w' := by
  have HBn := Lib.hid (fun (hv : okT fs f t y its = false) w1 (k : Below w.heap.size w w1) => tbegin_no A n c fs f t y AI ni ci its w1 hn hm (hx.thru k) hni hmi (hxi.thru k) hv)
  have HBe := Lib.hid (fun (hv : okT fs f t y its = true) w1 (k : Below w.heap.size w w1) => tbegin_any hO A n c fs f t y AI ni ci its w1 hn (hx.thru k) hni (hxi.thru k) hv)
  have HI := Lib.hid (⟨hni, hxi, hmi, hby⟩ : ni = its.length ∧ Items w w.heap.size AI its ∧ ni ≤ 9223372036854775807 ∧ ni * 32 ≤ 140737488351232)
  clear hn hm hx hni hmi hci hxi hby
  go_enter Try.func6, Try.ntmps6
  go_wp2_with fail
  go_loopw [11, 22] (fun u i wr => ∃ k : Nat, k ≤ ni ∧ i = .int .i64 (k : Int) ∧ ∃ A9 m c9, u = .slice A9 m c9 ∧ Hid (MineE encI 46 wr w.heap.size A9 m c9 ((its.take k).filter fltB) ∧ m ≤ k ∧ Below w.heap.size w wr)) (fun _ i _ => ni - (intOf i).toNat)
  case atStart => exact ⟨0, Nat.zero_le _, rfl, none, 0, 0, rfl, Lib.hid ⟨noneE_mine _ _ _ _, Nat.le_refl _, Below.refl _ _⟩⟩
  case round =>
    obtain ⟨k, hk, rfl, A9, m, c9, rfl, H⟩ := hrel
    by_cases hlt : k < ni
    · have hki : (k : Int) < (ni : Int) := by omega
      have hk0 : ¬ (k : Int) < 0 := by omega
      have hwk : IntKind.i64.wrap ((k : Int) + 1) = (k : Int) + 1 := by have := HI.out.2.2.2; exact IntWalk.i64_in _ (by omega)
      obtain ⟨x, hz⟩ : ∃ x, its[k]? = some x := ⟨_, List.getElem?_eq_getElem (by rw [← HI.out.1]; exact hlt)⟩
      obtain ⟨ad, rfl, -, d0, d1, d2, d3⟩ := (HI.out.2.1.thru H.out.2.2) k x hz
      have HZ := Lib.hid hz
      clear hz
      go_upto_region 5 with fail
      generalize hW : World.alloc wr _ = W
      obtain ⟨b, hb⟩ : ∃ b, wr.heap.size = b := ⟨_, rfl⟩
      have k1 : Below wr.heap.size wr W := by rw [← hW]; exact ba1 _ _
      have z1 : W.heap[b]? = some (.cells #[.int .i64 x.sd, .int .i64 x.cl, .int .i64 x.wd, .int .i64 x.ht] 46) := by rw [← hW, ← hb]; exact heap_alloc_new wr _
      rw [hb]
      obtain ⟨q0, q1, q2, q3⟩ := R4.of_block z1
      have S1 := Lib.hid (⟨H.out.1.below k1, H.out.2.1, thru H.out.2.2 k1⟩ : MineE encI 46 W w.heap.size A9 m c9 ((its.take k).filter fltB) ∧ m ≤ k ∧ Below w.heap.size w W)
      clear hW hb k1 z1 d0 d1 d2 d3
      by_cases hs : x.sd = 0
      · have hb0 : (x.sd != 0) = false := by rw [hs]; rfl
        have HT := Lib.hid (filter_no (p := fltB) HZ.out (by unfold fltB; exact hb0))
        clear hs
        go_wp2_with fail
        go_roundw
        case rel => exact ⟨k + 1, by omega, by go_num, A9, m, c9, rfl, Lib.hid ⟨by rw [HT.out]; exact S1.out.1, by have := S1.out.2.1; omega, S1.out.2.2⟩⟩
        case measure => simp [intOf]; omega
      · have hb0 : (x.sd != 0) = true := by simp [hs]
        have HT := Lib.hid (filter_yes (p := fltB) HZ.out (by unfold fltB; exact hb0))
        clear hs
        go_wp2_with (first
          | (at_builtin; refine wpList_append_wideE infoIR _ rfl (.tmp 29) (.tmp 31) rfl w.heap.size A9 m c9 ((its.take k).filter fltB) rfl (S1.out.1.alloc _) ⟨W.heap.size, 0, none⟩ 1 1 [x] rfl (oneE_src (E := encI) W x 46) (by have := S1.out.2.1; have := HI.out.2.2.2; simp only [maxLen]; omega) (by have := S1.out.2.1; have := HI.out.2.2.2; omega) (by have := S1.out.2.2.size; simp; omega) ?_; intro A5 c5 w5 hA; have S5 := Lib.hid (⟨hA.1, AppendedE.below hA (S1.out.1.alloc _) (thru S1.out.2.2 (ba1 W _)) (Nat.le_refl _) (by have := S1.out.2.2.size; simp; omega)⟩ : MineE encI 46 w5 w.heap.size A5 (m + 1) c5 ((its.take k).filter fltB ++ [x]) ∧ Below w.heap.size w w5); clear hA))
        go_roundw
        case rel => exact ⟨k + 1, by omega, by go_num, A5, m + 1, c5, rfl, Lib.hid ⟨by rw [HT.out]; exact S5.out.1, by have := S1.out.2.1; omega, S5.out.2⟩⟩
        case measure => simp [intOf]; omega
    · obtain rfl : k = ni := by omega
      have he : its.take k = its := List.take_of_length_le (by rw [← HI.out.1]; exact Nat.le_refl _)
      have hM := H.out.1
      rw [he] at hM
      obtain ⟨V, hVV⟩ : ∃ V, V = wr := ⟨_, rfl⟩
      subst hVV
      cases hv : okT fs f t y its with
      | false =>
        have HB1 := Lib.hid (HBn.out hv)
        have K1 := Lib.hid H.out.2.2
        clear he hM HBe HBn H
        go_wp2_with (first
          | (go_at_call 8; refine (HB1.out V K1.out).mono ?_; rintro e w2 ⟨rfl, k2⟩; have K2 := Lib.hid (thru K1.out k2); clear k2)
          | (go_at_call 8; refine (HB1.out w2 K2.out).mono ?_; rintro e w2b ⟨rfl, k2⟩; have K2b := Lib.hid (thru K2.out k2); clear k2)
          | (go_at_call 9; refine (tspeaks hO hP w2b).mono ?_; rintro e w3 ⟨rfl, k3⟩; have K3 := Lib.hid (thru K2b.out k3); clear k3)
          | (go_at_call 9; refine (tspeaks hO hP w3).mono ?_; rintro e w9 ⟨rfl, k9⟩; have K9 := Lib.hid (thru K3.out k9); clear k9))
        go_ret
        exact ⟨rfl, K9.out⟩
      | true =>
        have ho := okT_so hv
        obtain ⟨js, hjs⟩ : ∃ js, its.filter fltB = js := ⟨_, rfl⟩
        rw [hjs] at hM
        have hjl : js.length = m := hM.len
        have hjn : js.length ≤ its.length := by rw [← hjs]; exact List.length_filter_le _ _
        have h30 := ho.n2
        have hjr : ∀ x ∈ js, RightI x := fun x hx => ho.ri x (by rw [← hjs] at hx; exact (List.mem_filter.1 hx).1)
        have hj0 : ∀ x ∈ js, x.sd ≠ 0 := fun x hx => by
          rw [← hjs] at hx
          have := (List.mem_filter.1 hx).2
          unfold fltB at this
          simpa using this
        have HB1 := Lib.hid (HBe.out hv)
        have HM := Lib.hid (⟨hM, H.out.2.2, fun j e => (hM.lt j e).2⟩ : MineE encI 46 V w.heap.size A9 m c9 js ∧ Below w.heap.size w V ∧ ∀ j, blk A9 = some j → j < V.heap.size)
        have HOf := Lib.hid (fun w1 (h : MineE encI 46 w1 w.heap.size A9 m c9 js) => tof_any A9 m c9 js w1 hjl.symm (by omega) (items_mine h))
        have HLy := Lib.hid (fun w1 F p A0 c0 (hs : S w1 F p fs) (hx : MineE encI 61 w1 0 A0 js.length c0 js) (hxF : ∀ j, blk A0 = some j → ¬ F j) => lay_law hO hP ho hjr (by omega) w1 F p A0 c0 hs hx hxF)
        have HFl := Lib.hid (fun k (hk : k < m) => atFl ho.n1 (by omega) hjr ho.lo hj0 (k := k) (by omega))
        have hfe := layK_floats (fs := fs) (f := f) (t := t) (y := y) hj0 js.length (Nat.le_refl _)
        rw [← layD_floats hj0] at hfe
        have hf0 : (layK fs f t y js 0).m.fs = fs := rfl
        obtain ⟨D, hD⟩ : ∃ D, layD fs f t y js = D := ⟨_, rfl⟩
        obtain ⟨K, hK⟩ : ∃ K, layK fs f t y js = K := ⟨_, rfl⟩
        rw [hD] at HLy hfe
        rw [hjl] at HLy
        replace HFl : Hid (∀ k, k < m → (K k).m.fs.all near49 = true ∧ RightW ((itAt js k).want f t y) ∧ (K k).m.fs.length < 1000 ∧ (K (k + 1)).m.fs = (K k).m.fs ++ [placed (K k).m.fs ((itAt js k).want f t y)] ∧ bxAt D.box k = bxOf (placed (K k).m.fs ((itAt js k).want f t y))) := Lib.hid (fun k hk => by
          obtain ⟨a1, a2, a3, a4, a5⟩ := HFl.out k hk
          rw [hK] at a1 a3 a4 a5
          rw [hD] at a5
          exact ⟨a1, a2, a3, a4, a5⟩)
        have HE := Lib.hid (⟨by rw [hfe.2.2.1]; rfl, by rw [hfe.1], by rw [← hK]; exact hf0, by omega⟩ : D.out.length = 0 ∧ D.m.y = y ∧ (K 0).m.fs = fs ∧ m ≤ 30)
        have HJ := Lib.hid hjl
        clear he hM HBe HBn H hv ho hjs hjl hjn hjr hj0 h30 hfe hf0 hD hK
        go_upto_region 12 with (first
          | (go_at_call 8; refine (HB1.out V HM.out.2.1).mono ?_; rintro e w2 ⟨⟨p, F, rfl, hL, hF⟩, k2⟩; have S2 := Lib.hid (⟨hL, thru HM.out.2.1 k2, hF, HM.out.1.below k2⟩ : S w2 F p fs ∧ Below w.heap.size w w2 ∧ (∀ k, F k → V.heap.size ≤ k) ∧ MineE encI 46 w2 w.heap.size A9 m c9 js); have Z2 := Lib.hid k2.size; clear hL hF k2)
          | (go_at_call 8; refine (HB1.out w2 S2.out.2.1).mono ?_; rintro e w2b ⟨⟨q, G, rfl, hL, hF⟩, k2⟩; have S2b := Lib.hid (⟨thruS hO S2.out.1 k2, hL, thru S2.out.2.1 k2, S2.out.2.2.1, fun k e => Nat.le_trans Z2.out (hF k e), fun k e g => by have := hF k e; have := hO.lt _ _ _ _ S2.out.1 k g; omega, S2.out.2.2.2.below k2⟩ : S w2b F p fs ∧ S w2b G q fs ∧ Below w.heap.size w w2b ∧ (∀ k, F k → V.heap.size ≤ k) ∧ (∀ k, G k → V.heap.size ≤ k) ∧ (∀ k, G k → ¬ F k) ∧ MineE encI 46 w2b w.heap.size A9 m c9 js); clear hL hF k2)
          | (go_at_call 9; refine (tspeaks hO hP w2b).mono ?_; rintro e w3 ⟨rfl, k3⟩; have S3 := Lib.hid (⟨thruS hO S2b.out.1 k3, thruS hO S2b.out.2.1 k3, thru S2b.out.2.2.1 k3, S2b.out.2.2.2.1, S2b.out.2.2.2.2.1, S2b.out.2.2.2.2.2.1, S2b.out.2.2.2.2.2.2.below k3⟩ : S w3 F p fs ∧ S w3 G q fs ∧ Below w.heap.size w w3 ∧ (∀ k, F k → V.heap.size ≤ k) ∧ (∀ k, G k → V.heap.size ≤ k) ∧ (∀ k, G k → ¬ F k) ∧ MineE encI 46 w3 w.heap.size A9 m c9 js); clear k3)
          | (go_at_call 11; refine (HOf.out w3 S3.out.2.2.2.2.2.2).mono ?_; rintro e w4 ⟨⟨A4, c4, rfl, hM⟩, k4⟩; have S4 := Lib.hid (⟨⟨thruS hO S3.out.1 k4, thruS hO S3.out.2.1 k4, thru S3.out.2.2.1 k4, S3.out.2.2.2.1, S3.out.2.2.2.2.1, S3.out.2.2.2.2.2.1, S3.out.2.2.2.2.2.2.below k4⟩, MineE.mono hM (Nat.zero_le _), fun j e x => by have := (hM.lt j e).1; have := hO.lt _ _ _ _ S3.out.1 j x; omega⟩ : (S w4 F p fs ∧ S w4 G q fs ∧ Below w.heap.size w w4 ∧ (∀ k, F k → V.heap.size ≤ k) ∧ (∀ k, G k → V.heap.size ≤ k) ∧ (∀ k, G k → ¬ F k) ∧ MineE encI 46 w4 w.heap.size A9 m c9 js) ∧ MineE encI 61 w4 0 A4 m c4 js ∧ ∀ j, blk A4 = some j → ¬ F j); clear hM k4)
          | (go_at_call 10; refine (HLy.out w4 F p A4 c4 S4.out.1.1 S4.out.2.1 S4.out.2.2).mono ?_; rintro e w5 ⟨⟨bx, A3, c3, F5, rfl, hQ⟩, k5⟩; have S5 := Lib.hid (⟨hQ, S4.out.1.2.2.1.trans (k5.below S4.out.1.2.2.1.size (fun k e => Nat.le_trans HM.out.2.1.size (S4.out.1.2.2.2.1 k e))), hO.keep _ _ _ _ _ _ S4.out.1.2.1 k5 S4.out.1.2.2.2.2.2.1, S4.out.1.2.2.2.2.1, fun k e => hO.lt _ _ _ _ S4.out.1.2.1 k e, mineE_but S4.out.1.2.2.2.2.2.2 k5 (fun j e x => by have := HM.out.2.2 j e; have := S4.out.1.2.2.2.1 j x; omega)⟩ : LaidOut S w4.heap.size w5 F F5 p bx A3 c3 m D ∧ Below w.heap.size w w5 ∧ S w5 G q fs ∧ (∀ k, G k → V.heap.size ≤ k) ∧ (∀ k, G k → k < w4.heap.size) ∧ MineE encI 46 w5 w.heap.size A9 m c9 js); clear hQ k5))
        generalize hW : World.alloc w5 _ = U
        obtain ⟨b, hb⟩ : ∃ b, w5.heap.size = b := ⟨_, rfl⟩
        have k6 : Below w5.heap.size w5 U := by rw [← hW]; exact ba1 _ _
        have z6 : RowAt U b [.slice (some ⟨bx, 0, none⟩) m m, .slice A3 D.out.length c3, .int .i64 D.m.y] := by rw [← hW, ← hb]; exact RowAt.new w5 _ _
        rw [hb]
        have S6 := Lib.hid (⟨⟨z6, (S5.out.1.bo.below k6).mono (Nat.zero_le _), (S5.out.1.li.below k6).mono (Nat.zero_le _)⟩, thru S5.out.2.1 k6, S5.out.2.2.2.2.2.below k6, ⟨G, by rw [HE.out.2.2.1]; exact thruS hO S5.out.2.2.1 k6, fun k e => Nat.le_trans HM.out.2.1.size (S5.out.2.2.2.1 k e), fun e => by have := hO.lt _ _ _ _ S5.out.2.2.1 _ e; omega, fun e => by have := (S5.out.1.bo.lt bx rfl).1; have := S5.out.2.2.2.2.1 _ e; omega, fun j h e => by have := HM.out.2.2 j h; have := S5.out.2.2.2.1 j e; omega, fun j h e => by have := (S5.out.1.li.lt j h).1; have := S5.out.2.2.2.2.1 j e; omega⟩⟩ : Has U b bx A3 c3 m D ∧ Below w.heap.size w U ∧ MineE encI 46 U w.heap.size A9 m c9 js ∧ ∃ G, S U G q (K 0).m.fs ∧ (∀ k, G k → w.heap.size ≤ k) ∧ ¬ G b ∧ ¬ G bx ∧ (∀ j, blk A9 = some j → ¬ G j) ∧ ∀ j, blk A3 = some j → ¬ G j)
        clear hW hb k6 z6 S5 S4 S3 S2b S2 HB1 HOf HLy Z2 HM
        obtain ⟨c0, c1, c2⟩ := S6.out.1.cells
        rw [HE.out.1] at c1
        rw [HE.out.2.1] at c2
        have hm2 : ((m : Int) != (m : Int)) = false := by simp
        have hy2 : (y != y) = false := by simp
        go_wp2_with fail
        go_loopw [85] (fun i wr => ∃ k : Nat, k ≤ m ∧ i = .int .i64 (k : Int) ∧ Hid (Has wr b bx A3 c3 m D ∧ Below w.heap.size w wr ∧ MineE encI 46 wr w.heap.size A9 m c9 js ∧ ∃ G, S wr G q (K k).m.fs ∧ (∀ k, G k → w.heap.size ≤ k) ∧ ¬ G b ∧ ¬ G bx ∧ (∀ j, blk A9 = some j → ¬ G j) ∧ ∀ j, blk A3 = some j → ¬ G j)) (fun i _ => m - (intOf i).toNat)
        case atStart => exact ⟨0, Nat.zero_le _, rfl, S6⟩
        case round =>
          obtain ⟨k, hk, rfl, H⟩ := hrel
          clear c0 c1 c2
          by_cases hlt : k < m
          · have hki : (k : Int) < (m : Int) := by omega
            have hk0 : ¬ (k : Int) < 0 := by omega
            have hwk : IntKind.i64.wrap ((k : Int) + 1) = (k : Int) + 1 := by have := HE.out.2.2.2; exact IntWalk.i64_in _ (by omega)
            obtain ⟨x, hz⟩ : ∃ x, js[k]? = some x := ⟨_, List.getElem?_eq_getElem (by rw [HJ.out]; exact hlt)⟩
            have hxk : itAt js k = x := itAt_is hz
            obtain ⟨g9, eA, d0, d1, d2, d3⟩ := own_item H.out.2.2.1 hz
            subst eA
            have HKF := HFl.out k hlt
            rw [hxk] at HKF
            obtain ⟨X, hX⟩ : ∃ X, x.want f t y = X := ⟨_, rfl⟩
            obtain ⟨r, hr⟩ : ∃ r, placed (K k).m.fs X = r := ⟨_, rfl⟩
            rw [hX, hr] at HKF
            have HR := Lib.hid (⟨HKF, hr⟩ : ((K k).m.fs.all near49 = true ∧ RightW X ∧ (K k).m.fs.length < 1000 ∧ (K (k + 1)).m.fs = (K k).m.fs ++ [r] ∧ bxAt D.box k = bxOf r) ∧ placed (K k).m.fs X = r)
            clear hz hxk HKF hr
            go_upto_region 17 with fail
            generalize hW1 : World.alloc wr _ = W1
            obtain ⟨b18, hb18⟩ : ∃ b18, wr.heap.size = b18 := ⟨_, rfl⟩
            have k1 : Below wr.heap.size wr W1 := by rw [← hW1]; exact ba1 _ _
            have z18 : RowAt W1 b18 (irow x) := by rw [← hW1, ← hb18]; exact RowAt.new wr _ _
            try rw [hb18]
            have i0 : W1.cell? ⟨b18, 0, none⟩ = some (.int .i64 x.sd) := z18.at' 0
            have i1 : W1.cell? ⟨b18, 1, none⟩ = some (.int .i64 x.cl) := z18.at' 1
            have i2 : W1.cell? ⟨b18, 2, none⟩ = some (.int .i64 x.wd) := z18.at' 2
            have i3 : W1.cell? ⟨b18, 3, none⟩ = some (.int .i64 x.ht) := z18.at' 3
            clear hW1 hb18 z18 d0 d1 d2 d3
            go_upto_region 18 with fail
            generalize hW2 : World.alloc W1 _ = W2
            obtain ⟨b19, hb19⟩ : ∃ b19, W1.heap.size = b19 := ⟨_, rfl⟩
            have k2 : Below W1.heap.size W1 W2 := by rw [← hW2]; exact ba1 _ _
            have z19 : RowAt W2 b19 (wrow X) := by rw [← hX, ← hW2, ← hb19]; exact RowAt.new W1 _ _
            try rw [hb19]
            clear i0 i1 i2 i3
            have k12 := thru k1 k2
            obtain ⟨hH, hB, hMi, G, hS, hG, hGb, hGx, hG9, hG3⟩ := H.out
            have hs := hO.lt _ _ _ _ hS
            have h19 : ¬ G b19 := fun e => by have := hs _ e; have := k1.size; omega
            have hLt : ∀ k, (fun k => k = b ∨ k = bx ∨ k = b19 ∨ k = g9 ∨ blk A3 = some k) k → k < W2.heap.size := by
              intro k e
              have := k12.size
              rcases e with e | e | e | e | e
              · rw [e]; have := hH.at'.lt (by simp); omega
              · rw [e]; have := (hH.bo.lt bx rfl).2; omega
              · rw [e]; exact z19.lt (by simp)
              · rw [e]; have := (hMi.lt g9 rfl).2; omega
              · have := (hH.li.lt k e).2; omega
            have hLG : ∀ k, (fun k => k = b ∨ k = bx ∨ k = b19 ∨ k = g9 ∨ blk A3 = some k) k → ¬ G k := by
              intro k e
              rcases e with e | e | e | e | e
              · rw [e]; exact hGb
              · rw [e]; exact hGx
              · rw [e]; exact h19
              · rw [e]; exact hG9 g9 rfl
              · exact hG3 k e
            have HB2 := Lib.hid (thru hB k12)
            have hH2 := hH.below k12
            have K0 := Lib.hid (spaceK_start (w0 := w) (W := W2) (p := q) (L := fun k => k = b ∨ k = bx ∨ k = b19 ∨ k = g9 ∨ blk A3 = some k) (fss := two2 (K k).m.fs (K (k + 1)).m.fs) hO (F := G) (thruS hO hS k12) HB2.out hG hLG)
            have HPu := Lib.hid (fun w' G' (h : spaceK S w W2 q (fun k => k = b ∨ k = bx ∨ k = b19 ∨ k = g9 ∨ blk A3 = some k) (two2 (K k).m.fs (K (k + 1)).m.fs) 0 w' G') => spaceK_put hO hP X hLt h (by show (K k).m.fs.length < 1000; exact HR.out.1.2.2.1) HR.out.1.1 HR.out.1.2.1 (by show (K (k + 1)).m.fs = (K k).m.fs ++ [placed (K k).m.fs X]; rw [HR.out.2]; exact HR.out.1.2.2.2.1))
            rw [show two2 (K k).m.fs (K (k + 1)).m.fs 0 = (K k).m.fs from rfl, HR.out.2] at HPu
            have HKe := Lib.hid (spaceK_kept (w0 := w) (W := W2) (p := q) (L := fun k => k = b ∨ k = bx ∨ k = b19 ∨ k = g9 ∨ blk A3 = some k) (fss := two2 (K k).m.fs (K (k + 1)).m.fs) hO hLt)
            have HAt := Lib.hid (fun st w' G' (h : spaceK S w W2 q (fun k => k = b ∨ k = bx ∨ k = b19 ∨ k = g9 ∨ blk A3 = some k) (two2 (K k).m.fs (K (k + 1)).m.fs) st w' G') => show Has w' b bx A3 c3 m D ∧ RowAt w' b19 (wrow X) ∧ MineE encI 46 w' w.heap.size (some ⟨g9, 0, none⟩) m c9 js ∧ (w'.cell? ⟨bx, k * 4, none⟩ = some (.int .i64 r.l) ∧ w'.cell? ⟨bx, k * 4 + 1, none⟩ = some (.int .i64 r.t) ∧ w'.cell? ⟨bx, k * 4 + 2, none⟩ = some (.int .i64 r.r) ∧ w'.cell? ⟨bx, k * 4 + 3, none⟩ = some (.int .i64 r.b)) by
              have hb := spaceK_but h HB2.out
              have hh := hH2.but hb (fun n => n (.inl rfl)) (fun n => n (.inr (.inl rfl))) (fun j e n => n (.inr (.inr (.inr (.inr e)))))
              have hc := hh.box hlt
              rw [HR.out.1.2.2.2.2] at hc
              exact ⟨hh, z19.but (by simp) hb (fun n => n (.inr (.inr (.inl rfl)))), mineE_but (hMi.below k12) hb (fun j e n => n (.inr (.inr (.inr (.inl (Option.some.inj e).symm))))), hc⟩)
            have HLt := Lib.hid hlt
            clear hX k1 k2 k12 hW2 hb19 hH hB hMi hS hG hGb hGx hG9 hG3 hs h19 hLt hLG hH2 z19 H
            refine Draw.wp_region_drawn (spaceK S w W2 q (fun k => k = b ∨ k = bx ∨ k = b19 ∨ k = g9 ∨ blk A3 = some k) (two2 (K k).m.fs (K (k + 1)).m.fs)) 1 [.val (.pointer (some q)), .val (.agg #[.int .i64 X.s, .int .i64 X.c, .int .i64 X.f, .int .i64 X.t, .int .i64 X.wd, .int .i64 X.ht, .int .i64 X.y]), .turn 0 (.agg #[.int .i64 r.l, .int .i64 r.t, .int .i64 r.r, .int .i64 r.b]), .val (.pointer (some ⟨b, 0, none⟩)), .val (.slice (some ⟨bx, 0, none⟩) m m), .val (.int .i64 (k : Int)), .val (.pointer (some ⟨bx, k * 4, none⟩)), .val (.agg #[.int .i64 r.l, .int .i64 r.t, .int .i64 r.r, .int .i64 r.b]), .val (.bool false)] (by kernel_rfl) (by kernel_rfl) (by kernel_rfl) HKe.out K0.out ?_ ?_
            · simp only [Draw.fill, Draw.Leave.value]
              refine ⟨?_, ?_, ?_, ?_, ?_, ?_, ?_, ?_, ?_, trivial⟩
              · intro st gg w' G hw hk
                go_simp
                exact ⟨rfl, rfl⟩
              · intro st gg w' G hw hk
                have q0 : w'.cell? ⟨b19, 0, none⟩ = some (.int .i64 X.s) := ((HAt.out st w' G hw).2.1).at' 0
                have q1 : w'.cell? ⟨b19, 1, none⟩ = some (.int .i64 X.c) := ((HAt.out st w' G hw).2.1).at' 1
                have q2 : w'.cell? ⟨b19, 2, none⟩ = some (.int .i64 X.f) := ((HAt.out st w' G hw).2.1).at' 2
                have q3 : w'.cell? ⟨b19, 3, none⟩ = some (.int .i64 X.t) := ((HAt.out st w' G hw).2.1).at' 3
                have q4 : w'.cell? ⟨b19, 4, none⟩ = some (.int .i64 X.wd) := ((HAt.out st w' G hw).2.1).at' 4
                have q5 : w'.cell? ⟨b19, 5, none⟩ = some (.int .i64 X.ht) := ((HAt.out st w' G hw).2.1).at' 5
                have q6 : w'.cell? ⟨b19, 6, none⟩ = some (.int .i64 X.y) := ((HAt.out st w' G hw).2.1).at' 6
                go_simp
                exact ⟨rfl, rfl⟩
              · intro gg w' G hw hk
                go_simp
                exact Draw.turns_call (HPu.out w' G hw)
              · intro st gg w' G hw hk
                go_simp
                exact ⟨rfl, rfl⟩
              · intro st gg w' G hw hk
                have q0 : w'.cell? ⟨b, 0, none⟩ = some (.slice (some ⟨bx, 0, none⟩) m m) := (HAt.out st w' G hw).1.at'.at' 0
                go_simp
                exact ⟨rfl, rfl⟩
              · intro st gg w' G hw hk
                go_simp
                exact ⟨rfl, rfl⟩
              · intro st gg w' G hw hk
                go_simp
                exact ⟨rfl, rfl⟩
              · intro st gg w' G hw hk
                have q0 : w'.cell? ⟨bx, k * 4, none⟩ = some (.int .i64 r.l) := (HAt.out st w' G hw).2.2.2.1
                have q1 : w'.cell? ⟨bx, k * 4 + 1, none⟩ = some (.int .i64 r.t) := (HAt.out st w' G hw).2.2.2.2.1
                have q2 : w'.cell? ⟨bx, k * 4 + 2, none⟩ = some (.int .i64 r.r) := (HAt.out st w' G hw).2.2.2.2.2.1
                have q3 : w'.cell? ⟨bx, k * 4 + 3, none⟩ = some (.int .i64 r.b) := (HAt.out st w' G hw).2.2.2.2.2.2
                go_simp
                exact ⟨rfl, rfl⟩
              · intro st gg w' G hw hk
                have q' := eqR4_same r.l r.t r.r r.b w'
                go_simp
                exact ⟨rfl, rfl⟩
            intro gg w5 G5 hkw hbox hput hap
            have hAt := HAt.out _ w5 G5 hkw
            obtain ⟨hb1, -, -, F', hS', hF', hLF, -⟩ := hkw
            have H5 := Lib.hid (⟨hAt.1, hb1, hAt.2.2.1, F', hS', hF', hLF b (.inl rfl), hLF bx (.inr (.inl rfl)), fun j e => hLF j (.inr (.inr (.inr (.inl (Option.some.inj e).symm)))), fun j e => hLF j (.inr (.inr (.inr (.inr e))))⟩ : Has w5 b bx A3 c3 m D ∧ Below w.heap.size w w5 ∧ MineE encI 46 w5 w.heap.size (some ⟨g9, 0, none⟩) m c9 js ∧ ∃ G, S w5 G q (K (k + 1)).m.fs ∧ (∀ k, G k → w.heap.size ≤ k) ∧ ¬ G b ∧ ¬ G bx ∧ (∀ j, blk (some (⟨g9, 0, none⟩ : Addr)) = some j → ¬ G j) ∧ ∀ j, blk A3 = some j → ¬ G j)
            clear hAt hb1 hS' hF' hLF hbox hput hap HAt HPu HKe K0
            simp only [Draw.fill, Draw.Leave.value]
            go_simp
            go_wp2_with fail
            go_roundw
            case rel => exact ⟨k + 1, by omega, by go_num, H5⟩
            case measure => simp [intOf]; omega
          · obtain rfl : k = m := by omega
            go_wp2_with fail
            go_ret
            exact ⟨rfl, H.out.2.1⟩

end

end Go.Proofs.Ytdibdfalahjmbaa.Text
