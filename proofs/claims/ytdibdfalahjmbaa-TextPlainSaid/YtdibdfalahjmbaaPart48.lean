/- All lines of atoms, as the program makes them. -/
import Derived.Test.YtdibdfalahjmbaaPart31
import Derived.Test.YtdibdfalahjmbaaPart44
namespace Go.Proofs.Ytdibdfalahjmbaa.Line
open Go.RowKit Go.Sort Go.Proofs.Ytdibdfalahjmbaa.Rect Go.Proofs.Ytdibdfalahjmbaa.More Go.Proofs.Ytdibdfalahjmbaa.Shelf Go.Proofs.Ytdibdfalahjmbaa.Space Go.Proofs.Ytdibdfalahjmbaa.Place
set_option linter.unusedVariables false
set_option linter.unusedSimpArgs false

/-- What holds of one who makes lines after so many steps. -/
structure Mid (k : Nat) (m : Mk) : Prop where
  h49 : m.fs.all near49 = true
  f1 : -4503599627370496 ≤ m.f
  f2 : m.f ≤ 4503599627370496
  t1 : -4503599627370496 ≤ m.t
  t2 : m.t ≤ 4503599627370496
  y1 : -281474976710656 ≤ m.y
  y2 : m.y ≤ 562949953421312 + k * 2147483648
  ha : ∀ z ∈ m.az, RightS z
  hl : m.az.length ≤ k
  p1 : m.az ≠ [] → -281474976710656 ≤ m.top
  p2 : m.az ≠ [] → m.top ≤ 562949953421312 + k * 2147483648

theorem Mid.fine {k : Nat} {m : Mk} (h : Mid k m) (hk : k ≤ 100000) : Fine m := by
  obtain ⟨h49, f1, f2, t1, t2, y1, y2, ha, hl, p1, p2⟩ := h
  exact ⟨h49, f1, f2, t1, t2, by omega, by omega, ha, by omega, fun e => by have := p1 e; omega, fun e => by have := p2 e; omega⟩

theorem Mid.add {k : Nat} {m : Mk} {z : Sz} (h : Mid k m) (hz : RightS z) : Mid (k + 1) (m.add z).1 := by
  obtain ⟨h49, f1, f2, t1, t2, y1, y2, ha, hl, p1, p2⟩ := h
  by_cases hm : m.az = []
  · rw [add_nil hm]
    have ht := topL_b z h49 f1 t2 (y := m.y) (by omega)
    exact ⟨h49, f1, f2, t1, t2, y1, show m.y ≤ 562949953421312 + ((k + 1 : Nat) : Int) * 2147483648 by omega, fun x hx => by rw [List.mem_singleton.1 (show x ∈ [z] from hx)]; exact hz, by show 1 ≤ k + 1; omega, fun _ => show -281474976710656 ≤ topL m.fs m.f m.t z m.y by omega, fun _ => show topL m.fs m.f m.t z m.y ≤ 562949953421312 + ((k + 1 : Nat) : Int) * 2147483648 by omega⟩
  · have q1 := p1 hm
    have q2 := p2 hm
    cases hf : m.fits z with
    | true =>
      rw [add_fits hm hf]
      exact ⟨h49, f1, f2, t1, t2, y1, show m.y ≤ 562949953421312 + ((k + 1 : Nat) : Int) * 2147483648 by omega, fun x hx => by
        rcases List.mem_append.1 (show x ∈ m.az ++ [z] from hx) with e | e
        · exact ha x e
        · rw [List.mem_singleton.1 e]; exact hz, by show (m.az ++ [z]).length ≤ k + 1; simp; omega, fun _ => q1, fun _ => show m.top ≤ 562949953421312 + ((k + 1 : Nat) : Int) * 2147483648 by omega⟩
    | false =>
      rw [add_not hm hf]
      exact ⟨h49, f1, f2, t1, t2, y1, show m.y ≤ 562949953421312 + ((k + 1 : Nat) : Int) * 2147483648 by omega, ha, by show m.az.length ≤ k + 1; omega, fun _ => q1, fun _ => show m.top ≤ 562949953421312 + ((k + 1 : Nat) : Int) * 2147483648 by omega⟩

theorem Mid.fin {k : Nat} {m : Mk} (h : Mid k m) : Mid (k + 1) m.fin := by
  obtain ⟨h49, f1, f2, t1, t2, y1, y2, ha, hl, p1, p2⟩ := h
  by_cases hm : m.az = []
  · have hfin : m.fin = m := by unfold Mk.fin; rw [hm]
    rw [hfin]
    exact ⟨h49, f1, f2, t1, t2, y1, by omega, ha, by omega, fun e => p1 e, fun e => by have := p2 e; omega⟩
  · rw [fin_some hm]
    have q1 := p1 hm
    have q2 := p2 hm
    have hh := highL_b ha
    exact ⟨h49, f1, f2, t1, t2, show -281474976710656 ≤ m.top + highL m.az by omega, show m.top + highL m.az ≤ 562949953421312 + ((k + 1 : Nat) : Int) * 2147483648 by omega, fun x hx => (by cases hx), Nat.zero_le _, fun e => absurd rfl e, fun e => absurd rfl e⟩

theorem Mid.mono {k j : Nat} {m : Mk} (h : Mid k m) (hk : k ≤ j) : Mid j m := by
  obtain ⟨h49, f1, f2, t1, t2, y1, y2, ha, hl, p1, p2⟩ := h
  exact ⟨h49, f1, f2, t1, t2, y1, by omega, ha, by omega, p1, fun e => by have := p2 e; omega⟩

theorem add_same (m : Mk) (z : Sz) : (m.add z).1.fs = m.fs := by
  unfold Mk.add
  split
  · rfl
  · split <;> rfl
theorem fin_same (m : Mk) : m.fin.fs = m.fs := by unfold Mk.fin; split <;> rfl
theorem segE_not {m : Mk} {z : Sz} (h : (m.add z).2 = false) : segE m = [m] := by
  unfold segE
  cases hm : m.az with
  | nil => rw [add_nil hm] at h; cases h
  | cons a l => rfl
theorem segsL_nil (m : Mk) : segsL m [] = segE m := by unfold segsL segE; rfl
theorem segsL_yes {m : Mk} {z : Sz} (h : (m.add z).2 = true) (l : List Sz) : segsL m (z :: l) = segsL (m.add z).1 l := by
  show (if (m.add z).2 then _ else _) = _
  rw [h]; rfl
theorem segsL_no {m : Mk} {z : Sz} (h : (m.add z).2 = false) (l : List Sz) : segsL m (z :: l) = m :: segsL (m.fin.add z).1 l := by
  show (if (m.add z).2 then _ else _) = _
  rw [h]; rfl
theorem segE_len (m : Mk) : (segE m).length ≤ 1 := by unfold segE; split <;> simp

section
variable {S : World → (Nat → Prop) → Addr → List Fl → Prop}

/-- What stands while the lines are made. -/
structure Making (S : World → (Nat → Prop) → Addr → List Fl → Prop) (w : World) (F : Nat → Prop) (p : Addr) (bb g1 g2 B : Nat) (fs : List Fl) (m : Mk) (xs : List Mk) (wr : World) : Prop where
  s : S wr F p fs
  g : wr.cell? ⟨g1, 0, none⟩ = some (.pointer (some ⟨bb, 0, none⟩))
  b : Bl wr p bb m
  d : Made wr g2 B xs
  k : Below w.heap.size w wr
  z : B ≤ wr.heap.size

theorem Making.more {w : World} {F : Nat → Prop} {p : Addr} {bb g1 g2 B : Nat} {fs : List Fl} {m m' : Mk} {xs ys : List Mk} {wr w' : World} (hO : SpaceOk S) (h : Making S w F p bb g1 g2 B fs m xs wr) (hF : ∀ j, F j → j < w.heap.size) (h1 : w.heap.size ≤ bb) (h2 : bb < g1) (h3 : g1 < g2) (h4 : g2 < B)
    (hb : Bl w' p bb m') (hd : Made w' g2 B ys) (k : But (fun j => j = bb ∨ j = g2 ∨ B ≤ j) wr w') : Making S w F p bb g1 g2 B fs m' ys w' :=
  ⟨hO.keep _ _ _ _ _ _ h.s k (fun j hj e => by have := hF j hj; rcases e with e | e | e <;> omega), (k.cell (b := g1) (by have := h.z; omega) (fun e => by rcases e with e | e | e <;> omega)).trans h.g, hb, hd, h.k.trans (k.below h.k.size (fun j e => by rcases e with e | e | e <;> omega)), by have := h.z; have := k.size; omega⟩
theorem Making.below {w : World} {F : Nat → Prop} {p : Addr} {bb g1 g2 B : Nat} {fs : List Fl} {m : Mk} {xs : List Mk} {wr w' : World} (hO : SpaceOk S) (h : Making S w F p bb g1 g2 B fs m xs wr) (k : Below wr.heap.size wr w') : Making S w F p bb g1 g2 B fs m xs w' :=
  ⟨thruS hO h.s k, (k.cell (p := ⟨g1, 0, none⟩) (block_lt_of_cell h.g)).trans h.g, h.b.below k, h.d.but (But.of_below (S := fun _ => False) k) (fun e => e) (fun _ e => e.elim), thru h.k k, Nat.le_trans h.z k.size⟩

set_option maxRecDepth 100000 in
set_option maxHeartbeats 1000000 in
theorem lall_any (hO : SpaceOk S) (w : World) (F : Nat → Prop) (p : Addr) (fs : List Fl) (f t y : Int) (A : Option Addr) (n c : Nat) (zs : List Sz) (hs : S w F p fs) (h49 : fs.all near49 = true) (hf : -4503599627370496 ≤ f ∧ f ≤ 4503599627370496) (ht : -4503599627370496 ≤ t ∧ t ≤ 4503599627370496) (hy : -281474976710656 ≤ y ∧ y ≤ 281474976710656) (hn : n = zs.length) (hlen : n ≤ 40000) (hx : Sizes w w.heap.size A zs) (hr : ∀ z ∈ zs, RightS z) :
    Calls Try.prog 14 #[.pointer (some p), .agg #[.int .i64 f, .int .i64 t], .int .i64 y, .slice A n c] w fun e w' => (∃ A' c', e = .returned (.slice A' (segsL ⟨fs, f, t, y, 0, []⟩ zs).length c') ∧ MineE encL 41 w' w.heap.size A' (segsL ⟨fs, f, t, y, 0, []⟩ zs).length c' ((segsL ⟨fs, f, t, y, 0, []⟩ zs).map lnOf)) ∧ Below w.heap.size w w' := by
  have hmid : Mid 0 ⟨fs, f, t, y, 0, []⟩ := ⟨h49, hf.1, hf.2, ht.1, ht.2, hy.1, by show y ≤ _; omega, fun x hx => (by cases hx), Nat.zero_le _, fun e => absurd rfl e, fun e => absurd rfl e⟩
  have HM := Lib.hid hmid
  have HX := Lib.hid hx
  have HR := Lib.hid hr
  have HN := Lib.hid (⟨hn, hlen⟩ : n = zs.length ∧ n ≤ 40000)
  have HS := Lib.hid hs
  have HF := Lib.hid (hO.lt w F p fs hs)
  obtain ⟨m0, hm0⟩ : ∃ m0 : Mk, (⟨fs, f, t, y, 0, []⟩ : Mk) = m0 := ⟨_, rfl⟩
  have HM0 := Lib.hid hm0
  rw [hm0]
  generalize hsg : segsL m0 zs = sg
  have HSG := Lib.hid hsg
  clear hmid hx hr hn hlen hs h49 hf ht hy hm0 hsg
  go_enter Try.func14, Try.ntmps14
  go_upto_region 1 with fail
  generalize hW1 : World.alloc w _ = W
  obtain ⟨b0, hb0⟩ : ∃ b0, w.heap.size = b0 := ⟨_, rfl⟩
  have k1 : Below w.heap.size w W := by rw [← hW1]; exact ba1 _ _
  have z1 : RowAt W b0 (two f t) := by rw [← hW1, ← hb0]; exact RowAt.new w _ _
  rw [hb0]
  obtain ⟨q0, q1, -, -⟩ := two_of z1
  have K1 := Lib.hid k1
  clear hW1 hb0 k1 z1
  go_upto_region 2 with (first
    | (go_at_call 20; refine (lnew_any _ p f t y).mono ?_; rintro e w1 ⟨⟨bb, rfl, hbb, hbl⟩, k2⟩; have S1 := Lib.hid (⟨thru K1.out k2, hbb, hbl⟩ : Below w.heap.size w w1 ∧ W.heap.size ≤ bb ∧ ∀ fs top, Bl w1 p bb ⟨fs, f, t, y, top, []⟩); clear hbb hbl k2))
  clear q0 q1
  generalize hW2 : World.alloc w1 _ = W2
  obtain ⟨g1, hg1⟩ : ∃ g1, w1.heap.size = g1 := ⟨_, rfl⟩
  have k2 : Below w1.heap.size w1 W2 := by rw [← hW2]; exact ba1 _ _
  have s2 : W2.heap.size = g1 + 1 := by rw [← hW2, ← hg1]; simp
  have z2 : W2.cell? ⟨g1, 0, none⟩ = some (.pointer (some ⟨bb, 0, none⟩)) := by rw [← hW2, ← hg1]; simp [go_sem]
  rw [hg1]
  clear hW2
  go_upto_region 3 with fail
  generalize hW3 : World.alloc W2 _ = W3
  obtain ⟨g2, hg2⟩ : ∃ g2, g1 + 1 = g2 := ⟨_, rfl⟩
  rw [hg2] at s2
  have k3 : Below W2.heap.size W2 W3 := by rw [← hW3]; exact ba1 _ _
  have s3 : W3.heap.size = g2 + 1 := by rw [← hW3, ← s2]; simp
  have z3 : RowAt W3 g2 [.slice none 0 0] := by rw [← hW3, ← s2]; exact RowAt.new W2 _ _
  rw [hg2]
  clear hW3
  have hbb1 : bb < g1 := by have := (S1.out.2.2 fs 0).lt; omega
  have hbb0 : w.heap.size ≤ bb := by have := S1.out.2.1; have := K1.out.size; omega
  obtain ⟨B, hBe⟩ : ∃ B, g2 + 1 = B := ⟨_, rfl⟩
  have hg12 : g1 < g2 := by omega
  have hgB : g2 < B := by omega
  have HMk : Making S w F p bb g1 g2 B fs m0 [] W3 := ⟨thruS hO (thruS hO HS.out S1.out.1) (thru k2 k3), (k3.cell (p := ⟨g1, 0, none⟩) (block_lt_of_cell z2)).trans z2, by rw [← HM0.out]; exact (S1.out.2.2 fs 0).below (thru k2 k3), ⟨none, 0, z3, noneE_mine _ _ _ _⟩, thru S1.out.1 (thru k2 k3), by omega⟩
  have HMK := Lib.hid HMk
  have HG := Lib.hid (⟨hbb0, hbb1, hg12, hgB⟩ : w.heap.size ≤ bb ∧ bb < g1 ∧ g1 < g2 ∧ g2 < B)
  clear HMk hbb0 hbb1 hg12 hgB hBe k2 k3 z2 z3 s2 s3 hg1 hg2 S1 K1 HS
  go_wp2_with fail
  go_loopw [21] (fun i wr => ∃ k : Nat, k ≤ n ∧ i = .int .i64 (k : Int) ∧ Hid (∃ m xs, Making S w F p bb g1 g2 B fs m xs wr ∧ Mid (2 * k) m ∧ m.fs = fs ∧ xs.length ≤ k ∧ xs ++ segsL m (zs.drop k) = sg)) (fun i _ => n - (intOf i).toNat)
  case atStart => exact ⟨0, Nat.zero_le _, rfl, Lib.hid ⟨m0, [], HMK.out, HM0.out ▸ HM.out, by rw [← HM0.out], Nat.zero_le _, HSG.out⟩⟩
  case round =>
    obtain ⟨k, hk, rfl, H0⟩ := hrel
    obtain ⟨m, xs, hmk, hmid, hfs, hxl, hseg⟩ := H0.out
    have H := Lib.hid (⟨hmk, hmid, hfs, hxl, hseg⟩ : Making S w F p bb g1 g2 B fs m xs wr ∧ Mid (2 * k) m ∧ m.fs = fs ∧ xs.length ≤ k ∧ xs ++ segsL m (zs.drop k) = sg)
    clear H0 hmk hmid hfs hxl hseg HMK HM HM0 HSG
    have HGK := HG.out
    by_cases hlt : k < n
    · have hki : (k : Int) < (n : Int) := by omega
      have hk0 : ¬ (k : Int) < 0 := by omega
      have hwk : IntKind.i64.wrap ((k : Int) + 1) = (k : Int) + 1 := by have := HN.out.2; exact IntWalk.i64_in _ (by omega)
      obtain ⟨z, hz⟩ : ∃ z, zs[k]? = some z := ⟨_, List.getElem?_eq_getElem (by rw [← HN.out.1]; exact hlt)⟩
      obtain ⟨ad, rfl, -, d0, d1⟩ := (HX.out.thru H.out.1.k) k z hz
      have HZ := Lib.hid (⟨HR.out z (List.mem_of_getElem? hz), by rw [List.drop_eq_getElem_cons (by rw [← HN.out.1]; exact hlt)]; congr 1; exact Option.some.inj ((List.getElem?_eq_getElem _).symm.trans hz)⟩ : RightS z ∧ zs.drop k = z :: zs.drop (k + 1))
      clear hz
      obtain ⟨A1, c1, hr1, ho1⟩ := H.out.1.d
      go_upto_region 7 with fail
      generalize hW : World.alloc wr _ = V
      obtain ⟨b3, hb3⟩ : ∃ b3, wr.heap.size = b3 := ⟨_, rfl⟩
      have k2 : Below wr.heap.size wr V := by rw [← hW]; exact ba1 _ _
      have z2 : RowAt V b3 (zcells z) := by rw [← hW, ← hb3]; exact RowAt.new wr _ _
      have hBb3 : B ≤ b3 := by have := H.out.1.z; omega
      have hne3 : ∀ j, blk A1 = some j → B ≤ j ∧ j < b3 := fun j e => by have := ho1.lt j e; omega
      rw [hb3]
      have HV := Lib.hid (⟨H.out.1.below hO k2, hr1.below (by simp) k2, ho1.below k2, z2, hBb3, hne3⟩ : Making S w F p bb g1 g2 B fs m xs V ∧ RowAt V g2 [.slice A1 xs.length c1] ∧ MineE encL 41 V B A1 xs.length c1 (xs.map lnOf) ∧ RowAt V b3 (zcells z) ∧ B ≤ b3 ∧ ∀ j, blk A1 = some j → B ≤ j ∧ j < b3)
      have HAd := Lib.hid (ladd_any hO V F p bb m z (by rw [H.out.2.2.1]; exact HV.out.1.s) HV.out.1.b (fun e => by have := HF.out bb e; omega) (H.out.2.1.fine (by have := HN.out.2; omega)) HZ.out.1)
      obtain ⟨v, hv⟩ : ∃ v, (m.add z).2 = v := ⟨_, rfl⟩
      rw [hv] at HAd
      have HVV := Lib.hid hv
      have c0 := HV.out.1.g
      obtain ⟨q0, q1, -, -⟩ := two_of z2
      clear hW hb3 k2 z2 hBb3 hne3 hr1 ho1 hv d0 d1
      cases v with
      | true =>
        go_wp2_with (first
          | (go_at_call 29; refine HAd.out.mono ?_; rintro e w5 ⟨rfl, hb5, k5⟩; have S5 := Lib.hid (HV.out.1.more hO HF.out HG.out.1 HG.out.2.1 HG.out.2.2.1 HG.out.2.2.2 hb5 (HV.out.1.d.but k5 (fun e => by have := HG.out; omega) (fun j e => by have := HG.out; omega)) (but_wide k5 (fun j e => .inl e))); clear hb5 k5))
        go_roundw
        case rel => exact ⟨k + 1, by omega, by go_num, Lib.hid ⟨_, xs, S5.out, (H.out.2.1.add HZ.out.1).mono (by omega), by rw [add_same]; exact H.out.2.2.1, by have := H.out.2.2.2.1; omega, by have := H.out.2.2.2.2; rwa [HZ.out.2, segsL_yes HVV.out] at this⟩⟩
        case measure => simp [intOf]; omega
      | false =>
        have hne : m.az ≠ [] := fun e => by have h := HVV.out; rw [add_nil e] at h; cases h
        have hfit : m.fits z = false := by
          cases hf : m.fits z with
          | false => rfl
          | true => have h := HVV.out; rw [add_fits hne hf] at h; cases h
        have hadd : (m.add z).1 = m := by rw [add_not hne hfit]
        rw [hadd] at HAd
        have hmid1 : Mid (2 * k + 1) m.fin := H.out.2.1.fin
        have hnil : m.fin.az = [] := by rw [fin_some hne]
        have HMI := Lib.hid (⟨hmid1, hnil⟩ : Mid (2 * k + 1) m.fin ∧ m.fin.az = [])
        clear hne hfit hadd hmid1 hnil
        go_upto_region 8 with (first
          | (go_at_call 29; refine HAd.out.mono ?_; rintro e w5 ⟨rfl, hb5, k5⟩; have S5 := Lib.hid (⟨HV.out.1.more hO HF.out HG.out.1 HG.out.2.1 HG.out.2.2.1 HG.out.2.2.2 hb5 (HV.out.1.d.but k5 (fun e => by have := HG.out; omega) (fun j e => by have := HG.out; omega)) (but_wide k5 (fun j e => .inl e)), HV.out.2.1.but (by simp) k5 (fun e => by have := HG.out; omega), mineE_but HV.out.2.2.1 k5 (fun j e e2 => by have := (HV.out.2.2.2.2.2 j e).1; have := HG.out; omega), HV.out.2.2.2.1.but (by simp) k5 (fun e => by have := HV.out.2.2.2.2.1; have := HG.out; omega)⟩ : Making S w F p bb g1 g2 B fs m xs w5 ∧ RowAt w5 g2 [.slice A1 xs.length c1] ∧ MineE encL 41 w5 B A1 xs.length c1 (xs.map lnOf) ∧ RowAt w5 b3 (zcells z)); clear hb5 k5))
        have HEn := Lib.hid (lall1_any hO w5 F p bb g1 g2 B A1 c1 m xs (by rw [H.out.2.2.1]; exact S5.out.1.s) S5.out.1.b (H.out.2.1.fine (by have := HN.out.2; omega)) S5.out.1.g S5.out.2.1 S5.out.2.2.1 (by have := HG.out; omega) (by have := HG.out; omega) (by have := HG.out; omega) HG.out.2.2.2 S5.out.1.z (by have := H.out.2.2.2.1; have := HN.out; omega))
        rw [segE_not HVV.out] at HEn
        clear c0 q0 q1
        go_upto_region 9 with (first
          | (go_at_call 27; refine HEn.out.mono ?_; rintro e w6 ⟨⟨v6, rfl⟩, hb6, hd6, k6⟩; have S6 := Lib.hid (⟨S5.out.1.more hO HF.out HG.out.1 HG.out.2.1 HG.out.2.2.1 HG.out.2.2.2 hb6 hd6 (but_wide k6 (fun j e => by rcases e with e | e | e; exact .inl e; exact .inr (.inl e); exact .inr (.inr (HV.out.2.2.2.2.2 j e).1))), S5.out.2.2.2.but (by simp) k6 (fun e => by rcases e with e | e | e; (have := HV.out.2.2.2.2.1; have := HG.out; omega); (have := HV.out.2.2.2.2.1; have := HG.out; omega); (have := (HV.out.2.2.2.2.2 _ e).2; omega))⟩ : Making S w F p bb g1 g2 B fs m.fin (xs ++ [m]) w6 ∧ RowAt w6 b3 (zcells z)); clear hb6 hd6 k6))
        have HAe := Lib.hid (ladd_any hO w6 F p bb m.fin z (by rw [fin_same, H.out.2.2.1]; exact S6.out.1.s) S6.out.1.b (fun e => by have := HF.out bb e; have := HG.out; omega) (HMI.out.1.fine (by have := HN.out.2; omega)) HZ.out.1)
        have c0 := S6.out.1.g
        obtain ⟨q0, q1, -, -⟩ := two_of S6.out.2
        go_wp2_with (first
          | (go_at_call 29; refine HAe.out.mono ?_; rintro e w7 ⟨rfl, hb7, k7⟩; have S7 := Lib.hid (S6.out.1.more hO HF.out HG.out.1 HG.out.2.1 HG.out.2.2.1 HG.out.2.2.2 hb7 (S6.out.1.d.but k7 (fun e => by have := HG.out; omega) (fun j e => by have := HG.out; omega)) (but_wide k7 (fun j e => .inl e))); clear hb7 k7))
        go_roundw
        case rel => exact ⟨k + 1, by omega, by go_num, Lib.hid ⟨_, xs ++ [m], S7.out, (HMI.out.1.add HZ.out.1).mono (by omega), by rw [add_same, fin_same]; exact H.out.2.2.1, by have := H.out.2.2.2.1; simp; omega, by have := H.out.2.2.2.2; rw [HZ.out.2, segsL_no HVV.out] at this; rw [← this]; simp⟩⟩
        case measure => simp [intOf]; omega
    · obtain rfl : k = n := by omega
      have he : zs.drop k = [] := List.drop_eq_nil_of_le (by rw [← HN.out.1]; exact Nat.le_refl _)
      have hseg : xs ++ segE m = sg := by have := H.out.2.2.2.2; rwa [he, segsL_nil] at this
      obtain ⟨A1, c1, hr1, ho1⟩ := H.out.1.d
      have HEn := Lib.hid (lall1_any hO wr F p bb g1 g2 B A1 c1 m xs (by rw [H.out.2.2.1]; exact H.out.1.s) H.out.1.b (H.out.2.1.fine (by have := HN.out.2; omega)) H.out.1.g hr1 ho1 (by omega) (by omega) (by omega) (by omega) H.out.1.z (by have := H.out.2.2.2.1; have := HN.out; omega))
      have HBl := Lib.hid (fun j e => (ho1.lt j e).1)
      rw [hseg] at HEn
      clear he hseg hr1 ho1
      go_upto_region 12 with (first
        | (go_at_call 27; refine HEn.out.mono ?_; rintro e w6 ⟨⟨v6, rfl⟩, hb6, hd6, k6⟩; have S6 := Lib.hid (H.out.1.more hO HF.out HG.out.1 HG.out.2.1 HG.out.2.2.1 HG.out.2.2.2 hb6 hd6 (but_wide k6 (fun j e => by rcases e with e | e | e; exact .inl e; exact .inr (.inl e); exact .inr (.inr (HBl.out j e))))); clear hb6 hd6 k6))
      obtain ⟨A2, c2, hr2, ho2⟩ := S6.out.d
      have q0 : w6.cell? ⟨g2, 0, none⟩ = some (.slice A2 sg.length c2) := hr2.at' 0
      have S7 := Lib.hid (⟨ho2.mono (by omega), S6.out.k⟩ : MineE encL 41 w6 w.heap.size A2 sg.length c2 (sg.map lnOf) ∧ Below w.heap.size w w6)
      clear hr2 ho2
      go_wp2_with fail
      go_ret
      exact ⟨⟨A2, c2, rfl, S7.out.1⟩, S7.out.2⟩

end

end Go.Proofs.Ytdibdfalahjmbaa.Line
