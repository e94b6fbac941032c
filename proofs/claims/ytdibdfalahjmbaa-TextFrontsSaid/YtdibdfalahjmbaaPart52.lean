/- The law of the first ones of many items: they are laid as all of them are, as far as lines are ended. -/
import Derived.Test.YtdibdfalahjmbaaPart45
import Derived.Test.YtdibdfalahjmbaaPart27
namespace Go.Proofs.Ytdibdfalahjmbaa.Text
open Go.RowKit Go.Sort Go.Proofs.Ytdibdfalahjmbaa.Rect Go.Proofs.Ytdibdfalahjmbaa.More Go.Proofs.Ytdibdfalahjmbaa.Shelf Go.Proofs.Ytdibdfalahjmbaa.Space Go.Proofs.Ytdibdfalahjmbaa.Place Go.Proofs.Ytdibdfalahjmbaa.Line
set_option linter.unusedVariables false
set_option linter.unusedSimpArgs false

section
variable {S : World → (Nat → Prop) → Addr → List Fl → Prop}

theorem offs_take {its : List It} {n : Nat} {l : List Nat} (h : ∀ i ∈ l, i < n) : offs (its.take n) l = offs its l := by
  unfold offs
  congr 1
  exact List.map_congr_left fun i hi => by rw [itAt_take (h i hi)]
/-- Atoms of a line that both have stand alike. -/
theorem fronts_box {fs : List Fl} {f t y : Int} {its : List It} {n : Nat} {D1 D2 : Ly} (T1 : Told fs f t y its its.length D1) (T2 : Told fs f t y (its.take n) n D2) {e : Mk × List Nat} (h1 : e ∈ D1.out) (h2 : e ∈ D2.out) {i : Nat} (hi : i ∈ e.2) : bxAt D2.box i = bxAt D1.box i := by
  obtain ⟨q, hq⟩ := List.getElem?_of_mem hi
  have hl : ∀ j ∈ e.2, j < n := fun j hj => (T2.atom h2 hj).1
  rw [T1.bx e h1 q i hq, T2.bx e h2 q i hq, itAt_take (hl i hi), offs_take (fun j hj => hl j (List.mem_of_mem_take hj))]
/-- An atom with few atoms ahead of it is in one of the first lines. -/
theorem fronts_atom {fs : List Fl} {f t y : Int} {its : List It} {n : Nat} {D2 : Ly} (hn : n ≤ its.length) (T2 : Told fs f t y (its.take n) n D2) (hr : D2.row = []) {j i : Nat} (hi : i < n) (h0 : (itAt its i).sd = 0) (hp : (atomsK its i).length < ((D2.out.take j).flatMap fun e => e.2).length) : ∃ (m : Nat) (e : Mk × List Nat), m < j ∧ D2.out[m]? = some e ∧ i ∈ e.2 := by
  have e1 : atomsK (its.take n) i = atomsK its i := by
    unfold atomsK
    refine List.filter_congr fun k hk => ?_
    unfold isA
    rw [itAt_take (by have := List.mem_range.1 hk; omega)]
  have h1 := atoms_place (its := its.take n) hi (by rw [itAt_take hi]; exact h0)
  have e2 := T2.at'
  rw [hr, List.append_nil] at e2
  rw [e1, e2] at h1
  have e3 : D2.out.flatMap (fun e => e.2) = (D2.out.take j).flatMap (fun e => e.2) ++ (D2.out.drop j).flatMap (fun e => e.2) := by rw [← List.flatMap_append, List.take_append_drop]
  rw [e3, List.getElem?_append_left hp] at h1
  obtain ⟨e, he, hie⟩ := List.mem_flatMap.1 (List.mem_of_getElem? h1)
  obtain ⟨m, hm⟩ := List.getElem?_of_mem he
  have hm1 : m < j := by
    have := (List.getElem?_eq_some_iff.1 hm).1
    rw [List.length_take] at this
    omega
  rw [List.getElem?_take_of_lt hm1] at hm
  exact ⟨m, e, hm1, hm, hie⟩

set_option maxRecDepth 100000 in
set_option maxHeartbeats 1000000 in
theorem front_few (hO : SpaceOk S) (hP : PlaceOk S) (A : Option Addr) (n c : Nat) (fs : List Fl) (f t y : Int) (AI : Option Addr) (ni ci : Nat) (its : List It) (cu : Int) (hcu : 0 ≤ cu ∧ cu ≤ 255) (w : World) (hn : n = fs.length) (hm : n ≤ 9223372036854775807) (hx : Floats w w.heap.size A fs) (hni : ni = its.length) (hmi : ni ≤ 9223372036854775807) (hci : ni ≤ ci) (hxi : Items w w.heap.size AI its) (hv : okT fs f t y its = false) :
    Calls Try.prog 7 #[.slice A n c, .int .i64 f, .int .i64 t, .int .i64 y, .slice AI ni ci, .int .u8 cu] w fun e w' => e = .returned (.bool true) ∧ Below w.heap.size w w' := by
  have HBe := Lib.hid (fun w1 (k : Below w.heap.size w w1) => tbegin_no A n c fs f t y AI ni ci its w1 hn hm (hx.thru k) hni hmi (hxi.thru k) hv)
  clear hn hm hx hni hmi hci hxi hv
  go_enter Try.func7, Try.ntmps7
  go_wp2_with (first
    | (go_at_call 8; refine (HBe.out w (Below.refl _ _)).mono ?_; rintro e w2 ⟨rfl, k2⟩; have K2 := Lib.hid k2; clear k2)
    | (go_at_call 8; refine (HBe.out w2 K2.out).mono ?_; rintro e w2b ⟨rfl, k2⟩; have K2b := Lib.hid (thru K2.out k2); clear k2)
    | (go_at_call 9; refine (tspeaks hO hP w2b).mono ?_; rintro e w3 ⟨rfl, k3⟩; have K3 := Lib.hid (thru K2b.out k3); clear k3)
    | (go_at_call 9; refine (tspeaks hO hP w3).mono ?_; rintro e w9 ⟨rfl, k9⟩; have K9 := Lib.hid (thru K3.out k9); clear k9))
  go_ret
  exact ⟨rfl, K9.out⟩

set_option maxRecDepth 100000 in
set_option maxHeartbeats 8000000 in
theorem front_yes (hO : SpaceOk S) (hP : PlaceOk S) (A : Option Addr) (n c : Nat) (fs : List Fl) (f t y : Int) (AI : Option Addr) (ni ci : Nat) (its : List It) (cu : Int) (hcu : 0 ≤ cu ∧ cu ≤ 255) (w : World) (hn : n = fs.length) (hm : n ≤ 9223372036854775807) (hx : Floats w w.heap.size A fs) (hni : ni = its.length) (hmi : ni ≤ 9223372036854775807) (hci : ni ≤ ci) (hxi : Items w w.heap.size AI its) (hv : okT fs f t y its = true) :
    Calls Try.prog 7 #[.slice A n c, .int .i64 f, .int .i64 t, .int .i64 y, .slice AI ni ci, .int .u8 cu] w fun e w' => e = .returned (.bool true) ∧ Below w.heap.size w w' := by
  have ho := okT_so hv
  obtain ⟨kk, hkk, hkn⟩ : ∃ kk : Nat, cu.tmod ((ni : Int) + 1) = (kk : Int) ∧ kk ≤ ni := by
    have g0 := Int.tmod_nonneg ((ni : Int) + 1) hcu.1
    have g1 := Int.tmod_lt_of_pos cu (show (0 : Int) < (ni : Int) + 1 by omega)
    exact ⟨(cu.tmod ((ni : Int) + 1)).toNat, by omega, by omega⟩
  have hcw : IntKind.i64.wrap cu = cu := IntWalk.i64_in _ (by omega)
  have hnw : IntKind.i64.wrap ((ni : Int) + 1) = (ni : Int) + 1 := by have := ho.n2; exact IntWalk.i64_in _ (by omega)
  have hn0 : ¬ (ni : Int) + 1 = 0 := by omega
  have hkc : (kk : Int) ≤ (ci : Int) := by omega
  have hkni : (kk : Int) ≤ (ni : Int) := by omega
  have hkc2 : kk ≤ ci := by omega
  have hlk : (its.take kk).length = kk := by rw [List.length_take]; omega
  have hrp : ∀ x ∈ its.take kk, RightI x := fun x hx => ho.ri x (List.mem_of_mem_take hx)
  have hlp : (its.take kk).length ≤ 30 := by have := ho.n2; omega
  have HBe := Lib.hid (fun w1 (k : Below w.heap.size w w1) => tbegin_any hO A n c fs f t y AI ni ci its w1 hn (hx.thru k) hni (hxi.thru k) hv)
  have HOf := Lib.hid (fun w1 (k : Below w.heap.size w w1) => tof_any AI ni ci its w1 hni (by have := ho.n2; omega) (hxi.thru k))
  have HOp := Lib.hid (fun w1 (k : Below w.heap.size w w1) => tof_any AI kk ci (its.take kk) w1 hlk.symm (by have := ho.n2; omega) ((hxi.part kk).thru k))
  have HLy := Lib.hid (fun w1 F p A0 c0 (hs : S w1 F p fs) (hx : MineE encI 61 w1 0 A0 its.length c0 its) (hxF : ∀ j, blk A0 = some j → ¬ F j) => lay_law hO hP ho ho.ri ho.n2 w1 F p A0 c0 hs hx hxF)
  have HLp := Lib.hid (fun w1 F p A0 c0 (hs : S w1 F p fs) (hx : MineE encI 61 w1 0 A0 (its.take kk).length c0 (its.take kk)) (hxF : ∀ j, blk A0 = some j → ¬ F j) => lay_law hO hP ho hrp hlp w1 F p A0 c0 hs hx hxF)
  have HFc := Lib.hid (facts_of ho.lo ho.ri ho.n2)
  have HFp := Lib.hid (facts_of ho.lo hrp hlp)
  have HI := Lib.hid (⟨hni, hxi, ho.n2, ho.ri⟩ : ni = its.length ∧ Items w w.heap.size AI its ∧ its.length ≤ 30 ∧ ∀ x ∈ its, RightI x)
  have HFr := Lib.hid (⟨fronts_few ho.ri (by have := ho.n2; omega) ho.lo (by omega), fun i hi => fronts_lines ho.ri (by have := ho.n2; omega) ho.lo (by omega) hi⟩ : (layD fs f t y (its.take kk)).out.length ≤ (layD fs f t y its).out.length ∧ ∀ i, i + 1 < (layD fs f t y (its.take kk)).out.length → i < (layD fs f t y its).out.length ∧ (layD fs f t y (its.take kk)).out[i]? = (layD fs f t y its).out[i]?)
  rw [← hni] at HLy
  rw [hlk] at HLp
  obtain ⟨D, hD⟩ : ∃ D, layD fs f t y its = D := ⟨_, rfl⟩
  obtain ⟨E, hE⟩ : ∃ E, layD fs f t y (its.take kk) = E := ⟨_, rfl⟩
  rw [hD] at HLy HFc
  rw [hE] at HLp HFp
  rw [hD, hE] at HFr
  have HTt := HFp.out.T
  rw [hlk] at HTt
  have HTp := Lib.hid (⟨HTt, HFp.out.row, by rw [hni] at hkn; exact hkn⟩ : Told fs f t y (its.take kk) kk E ∧ E.row = [] ∧ kk ≤ its.length)
  clear hn hm hx hni hmi hci hxi hv ho hD hE hcu hlk hrp hlp HTt
  go_enter Try.func7, Try.ntmps7
  go_upto_region 6 with (first
    | (go_at_call 8; refine (HBe.out w (Below.refl _ _)).mono ?_; rintro e w2 ⟨⟨p, F, rfl, hL, hF⟩, k2⟩; have S2 := Lib.hid (⟨hL, k2, hF⟩ : S w2 F p fs ∧ Below w.heap.size w w2 ∧ ∀ k, F k → w.heap.size ≤ k); clear hL hF k2)
    | (go_at_call 8; refine (HBe.out w2 S2.out.2.1).mono ?_; rintro e w2b ⟨⟨q, G, rfl, hL, hF⟩, k2⟩; have S2b := Lib.hid (⟨thruS hO S2.out.1 k2, hL, thru S2.out.2.1 k2, S2.out.2.2, fun k e => Nat.le_trans S2.out.2.1.size (hF k e), fun k e g => by have := hF k e; have := hO.lt _ _ _ _ S2.out.1 k g; omega⟩ : S w2b F p fs ∧ S w2b G q fs ∧ Below w.heap.size w w2b ∧ (∀ k, F k → w.heap.size ≤ k) ∧ (∀ k, G k → w.heap.size ≤ k) ∧ (∀ k, G k → ¬ F k)); clear hL hF k2)
    | (go_at_call 9; refine (tspeaks hO hP w2b).mono ?_; rintro e w3 ⟨rfl, k3⟩; have S3 := Lib.hid (⟨thruS hO S2b.out.1 k3, thruS hO S2b.out.2.1 k3, thru S2b.out.2.2.1 k3, S2b.out.2.2.2⟩ : S w3 F p fs ∧ S w3 G q fs ∧ Below w.heap.size w w3 ∧ (∀ k, F k → w.heap.size ≤ k) ∧ (∀ k, G k → w.heap.size ≤ k) ∧ (∀ k, G k → ¬ F k)); clear k3)
    | (go_at_call 11; refine (HOf.out w3 S3.out.2.2.1).mono ?_; rintro e w4 ⟨⟨A4, c4, rfl, hM⟩, k4⟩; have S4 := Lib.hid (⟨⟨thruS hO S3.out.1 k4, thruS hO S3.out.2.1 k4, thru S3.out.2.2.1 k4, S3.out.2.2.2⟩, MineE.mono hM (Nat.zero_le _), fun j e x => by have := (hM.lt j e).1; have := hO.lt _ _ _ _ S3.out.1 j x; omega⟩ : (S w4 F p fs ∧ S w4 G q fs ∧ Below w.heap.size w w4 ∧ (∀ k, F k → w.heap.size ≤ k) ∧ (∀ k, G k → w.heap.size ≤ k) ∧ (∀ k, G k → ¬ F k)) ∧ MineE encI 61 w4 0 A4 ni c4 its ∧ ∀ j, blk A4 = some j → ¬ F j); clear hM k4)
    | (go_at_call 10; refine (HLy.out w4 F p A4 c4 S4.out.1.1 S4.out.2.1 S4.out.2.2).mono ?_; rintro e w5 ⟨⟨bx, A3, c3, F5, rfl, hQ⟩, k5⟩; have S5 := Lib.hid (⟨hQ, S4.out.1.2.2.1.trans (k5.below S4.out.1.2.2.1.size S4.out.1.2.2.2.1), hO.keep _ _ _ _ _ _ S4.out.1.2.1 k5 S4.out.1.2.2.2.2.2, S4.out.1.2.2.2.2.1, fun k e => hO.lt _ _ _ _ S4.out.1.2.1 k e⟩ : LaidOut S w4.heap.size w5 F F5 p bx A3 c3 ni D ∧ Below w.heap.size w w5 ∧ S w5 G q fs ∧ (∀ k, G k → w.heap.size ≤ k) ∧ ∀ k, G k → k < w4.heap.size); clear hQ k5))
  generalize hW : World.alloc w5 _ = V
  obtain ⟨b, hb⟩ : ∃ b, w5.heap.size = b := ⟨_, rfl⟩
  have k6 : Below w5.heap.size w5 V := by rw [← hW]; exact ba1 _ _
  have z6 : RowAt V b [.slice (some ⟨bx, 0, none⟩) ni ni, .slice A3 D.out.length c3, .int .i64 D.m.y] := by rw [← hW, ← hb]; exact RowAt.new w5 _ _
  rw [hb]
  have S6 := Lib.hid (⟨⟨z6, (S5.out.1.bo.below k6).mono (Nat.zero_le _), (S5.out.1.li.below k6).mono (Nat.zero_le _)⟩, thru S5.out.2.1 k6, thruS hO S5.out.2.2.1 k6, S5.out.2.2.2.1, fun e => by have := hO.lt _ _ _ _ S5.out.2.2.1 _ e; omega, fun e => by have := (S5.out.1.bo.lt bx rfl).1; have := S5.out.2.2.2.2 _ e; omega, fun j h e => by have := (S5.out.1.li.lt j h).1; have := S5.out.2.2.2.2 _ e; omega⟩ : Has V b bx A3 c3 ni D ∧ Below w.heap.size w V ∧ S V G q fs ∧ (∀ k, G k → w.heap.size ≤ k) ∧ ¬ G b ∧ ¬ G bx ∧ ∀ j, blk A3 = some j → ¬ G j)
  clear hW hb k6 z6 S5 S4 S3 S2b S2 HBe HOf HLy
  go_upto_region 7 with (first
    | (go_at_call 11; refine (HOp.out V S6.out.2.1).mono ?_; rintro e w7 ⟨⟨A7, c7, rfl, hM⟩, k7⟩; have S7 := Lib.hid (⟨S6.out.1.below k7, thru S6.out.2.1 k7, thruS hO S6.out.2.2.1 k7, MineE.mono hM (Nat.zero_le _), fun j e x => by have := (hM.lt j e).1; have := hO.lt _ _ _ _ S6.out.2.2.1 j x; omega⟩ : Has w7 b bx A3 c3 ni D ∧ Below w.heap.size w w7 ∧ S w7 G q fs ∧ MineE encI 61 w7 0 A7 kk c7 (its.take kk) ∧ ∀ j, blk A7 = some j → ¬ G j); clear hM k7)
    | (go_at_call 10; refine (HLp.out w7 G q A7 c7 S7.out.2.2.1 S7.out.2.2.2.1 S7.out.2.2.2.2).mono ?_; rintro e w8 ⟨⟨bx2, A32, c32, G5, rfl, hQ⟩, k8⟩; have S8 := Lib.hid (⟨S7.out.1.but k8 S6.out.2.2.2.2.1 S6.out.2.2.2.2.2.1 S6.out.2.2.2.2.2.2, S7.out.2.1.trans (k8.below S7.out.2.1.size S6.out.2.2.2.1), hQ⟩ : Has w8 b bx A3 c3 ni D ∧ Below w.heap.size w w8 ∧ LaidOut S w7.heap.size w8 G G5 q bx2 A32 c32 kk E); clear hQ k8))
  generalize hW : World.alloc w8 _ = U
  obtain ⟨b2, hb2⟩ : ∃ b2, w8.heap.size = b2 := ⟨_, rfl⟩
  have k9 : Below w8.heap.size w8 U := by rw [← hW]; exact ba1 _ _
  have z9 : RowAt U b2 [.slice (some ⟨bx2, 0, none⟩) kk kk, .slice A32 E.out.length c32, .int .i64 E.m.y] := by rw [← hW, ← hb2]; exact RowAt.new w8 _ _
  rw [hb2]
  have S9 := Lib.hid (⟨S8.out.1.below k9, ⟨z9, (S8.out.2.2.bo.below k9).mono (Nat.zero_le _), (S8.out.2.2.li.below k9).mono (Nat.zero_le _)⟩, thru S8.out.2.1 k9⟩ : Has U b bx A3 c3 ni D ∧ Has U b2 bx2 A32 c32 kk E ∧ Below w.heap.size w U)
  clear hW hb2 k9 z9 S8 S7 S6 HOp HLp
  obtain ⟨c0, c1, c2⟩ := S9.out.1.cells
  obtain ⟨d0, d1, d2⟩ := S9.out.2.1.cells
  have hfew : ¬ (D.out.length : Int) < (E.out.length : Int) := by have := HFr.out.1; omega
  have hkk2 : ((kk : Int) != (kk : Int)) = false := by simp
  have hni2 : ((ni : Int) != (ni : Int)) = false := by simp
  have hol : E.out.length ≤ 30 ∧ (E.out.flatMap fun e => e.2).length ≤ 30 := by
    have h1 := flat_len fun e he => (HFp.out.T.ln e he).2
    rw [← HFp.out.atoms] at h1 ⊢
    have := atomsK_len (its.take kk) (its.take kk).length
    have := HI.out.2.2.1
    have : (its.take kk).length ≤ its.length := by rw [List.length_take]; omega
    omega
  have HOl := Lib.hid hol
  clear hol
  go_wp2_with fail
  -- the lines of both
  go_loopw [18, 19] (fun t1 i wr => ∃ j : Nat, (j + 1 ≤ E.out.length ∨ j = 0) ∧ i = .int .i64 (j : Int) ∧ t1 = .int .i64 (((E.out.take j).flatMap fun e => e.2).length : Int) ∧ Hid (Below U.heap.size U wr)) (fun _ i _ => E.out.length - (intOf i).toNat)
  case atStart => exact ⟨0, .inr rfl, rfl, rfl, Lib.hid (Below.refl _ _)⟩
  case round =>
    obtain ⟨j, hj, rfl, rfl, H⟩ := hrel
    clear c0 c1 c2 d0 d1 d2
    have hasD := S9.out.1.below H.out
    have hasE := S9.out.2.1.below H.out
    obtain ⟨c0, c1, c2⟩ := hasD.cells
    obtain ⟨d0, d1, d2⟩ := hasE.cells
    have hol := HOl.out
    have hwj : IntKind.i64.wrap ((j : Int) + 1) = (j : Int) + 1 := IntWalk.i64_in _ (by omega)
    by_cases hlj : j + 1 < E.out.length
    · have hji : (j : Int) + 1 < (E.out.length : Int) := by omega
      have hj0 : ¬ (j : Int) < 0 := by omega
      have hje : (j : Int) < (E.out.length : Int) := by omega
      obtain ⟨hjd, hsame⟩ := HFr.out.2 j hlj
      have hjdi : (j : Int) < (D.out.length : Int) := by omega
      obtain ⟨e, he⟩ : ∃ e, E.out[j]? = some e := ⟨_, List.getElem?_eq_getElem (by omega)⟩
      have he1 : D.out[j]? = some e := by rw [← hsame]; exact he
      obtain ⟨g1, eA, -⟩ := hasD.line he1
      subst eA
      obtain ⟨g2, eA, -⟩ := hasE.line he
      subst eA
      obtain ⟨X, hX⟩ : ∃ X, lnOf e.1 = X := ⟨_, rfl⟩
      have ha : X.a = (e.2.length : Int) := by rw [← hX]; show ((e.1.az.length : Nat) : Int) = _; rw [(HFp.out.T.ln e (List.mem_of_getElem? he)).1, List.length_map]
      have HLi := Lib.hid (fun w' (i : Below wr.heap.size wr w') => show (w'.cell? ⟨b, 1, none⟩ = some (.slice (some ⟨g1, 0, none⟩) D.out.length c3) ∧ w'.cell? ⟨b2, 1, none⟩ = some (.slice (some ⟨g2, 0, none⟩) E.out.length c32)) ∧
          (w'.cell? ⟨g1, j * 6, none⟩ = some (.int .i64 X.l) ∧ w'.cell? ⟨g1, j * 6 + 1, none⟩ = some (.int .i64 X.t) ∧ w'.cell? ⟨g1, j * 6 + 2, none⟩ = some (.int .i64 X.r) ∧ w'.cell? ⟨g1, j * 6 + 3, none⟩ = some (.int .i64 X.b) ∧ w'.cell? ⟨g1, j * 6 + 4, none⟩ = some (.int .i64 X.a) ∧ w'.cell? ⟨g1, j * 6 + 5, none⟩ = some (.int .i64 X.w)) ∧
          (w'.cell? ⟨g2, j * 6, none⟩ = some (.int .i64 X.l) ∧ w'.cell? ⟨g2, j * 6 + 1, none⟩ = some (.int .i64 X.t) ∧ w'.cell? ⟨g2, j * 6 + 2, none⟩ = some (.int .i64 X.r) ∧ w'.cell? ⟨g2, j * 6 + 3, none⟩ = some (.int .i64 X.b) ∧ w'.cell? ⟨g2, j * 6 + 4, none⟩ = some (.int .i64 X.a) ∧ w'.cell? ⟨g2, j * 6 + 5, none⟩ = some (.int .i64 X.w)) by
        have h8 := hasD.below i
        have h9 := hasE.below i
        obtain ⟨g3, q1, r1⟩ := h8.line he1
        obtain rfl : g1 = g3 := by injection q1 with q1; injection q1
        obtain ⟨g4, q2, r2⟩ := h9.line he
        obtain rfl : g2 = g4 := by injection q2 with q2; injection q2
        rw [hX] at r1 r2
        exact ⟨⟨h8.at'.at' 1, h9.at'.at' 1⟩, r1, r2⟩)
      have hft := flat_take he
      have hmono : ((E.out.take (j + 1)).flatMap fun e => e.2).length ≤ (E.out.flatMap fun e => e.2).length := by
        have : E.out.flatMap (fun e => e.2) = (E.out.take (j + 1)).flatMap (fun e => e.2) ++ (E.out.drop (j + 1)).flatMap (fun e => e.2) := by rw [← List.flatMap_append, List.take_append_drop]
        rw [this, List.length_append]; omega
      obtain ⟨dn, hdn⟩ : ∃ dn : Nat, ((E.out.take j).flatMap fun e => e.2).length = dn := ⟨_, rfl⟩
      rw [hdn] at hft ⊢
      obtain ⟨ll, hll⟩ : ∃ ll : Nat, e.2.length = ll := ⟨_, rfl⟩
      rw [hll] at ha hft
      have hwd : IntKind.i64.wrap ((dn : Int) + (ll : Int)) = (dn : Int) + (ll : Int) := IntWalk.i64_in _ (by omega)
      have HT := Lib.hid (show ((((E.out.take (j + 1)).flatMap fun e => e.2).length : Nat) : Int) = (dn : Int) + (ll : Int) by rw [hft]; push_cast; omega)
      have HA := Lib.hid ha
      clear he he1 hX ha hft hmono hdn hll hasD hasE hsame hol
      go_upto_region 13 with fail
      clear c0 c1 c2 d0 d1 d2
      refine HoldAll.wp_region_hold_all [.val (.pointer (some ⟨b2, 1, none⟩)), .val (.slice (some ⟨g2, 0, none⟩) E.out.length c32), .val (.int .i64 (j : Int)), .val (.pointer (some ⟨g2, j * 6, none⟩)), .val (.agg #[.int .i64 X.l, .int .i64 X.t, .int .i64 X.r, .int .i64 X.b, .int .i64 X.a, .int .i64 X.w]), .val (.pointer (some ⟨b, 1, none⟩)), .val (.slice (some ⟨g1, 0, none⟩) D.out.length c3), .val (.int .i64 (j : Int)), .val (.pointer (some ⟨g1, j * 6, none⟩)), .val (.agg #[.int .i64 X.l, .int .i64 X.t, .int .i64 X.r, .int .i64 X.b, .int .i64 X.a, .int .i64 X.w]), .val (.bool false)] (by kernel_rfl) (by kernel_rfl) (by kernel_rfl) ?_ ?_
      · simp only [Hold.fill, Hold.Leave.value]
        refine ⟨?_, ?_, ?_, ?_, ?_, ?_, ?_, ?_, ?_, ?_, ?_, trivial⟩
        · intro gg w' hw hk
          go_simp
          exact ⟨rfl, rfl⟩
        · intro gg w' hw hk
          have q0 : w'.cell? ⟨b2, 1, none⟩ = some (.slice (some ⟨g2, 0, none⟩) E.out.length c32) := (HLi.out w' hw).1.2
          go_simp
          exact ⟨rfl, rfl⟩
        · intro gg w' hw hk
          go_simp
          exact ⟨rfl, rfl⟩
        · intro gg w' hw hk
          go_simp
          exact ⟨rfl, rfl⟩
        · intro gg w' hw hk
          have q0 : w'.cell? ⟨g2, j * 6, none⟩ = some (.int .i64 X.l) := (HLi.out w' hw).2.2.1
          have q1 : w'.cell? ⟨g2, j * 6 + 1, none⟩ = some (.int .i64 X.t) := (HLi.out w' hw).2.2.2.1
          have q2 : w'.cell? ⟨g2, j * 6 + 2, none⟩ = some (.int .i64 X.r) := (HLi.out w' hw).2.2.2.2.1
          have q3 : w'.cell? ⟨g2, j * 6 + 3, none⟩ = some (.int .i64 X.b) := (HLi.out w' hw).2.2.2.2.2.1
          have q4 : w'.cell? ⟨g2, j * 6 + 4, none⟩ = some (.int .i64 X.a) := (HLi.out w' hw).2.2.2.2.2.2.1
          have q5 : w'.cell? ⟨g2, j * 6 + 5, none⟩ = some (.int .i64 X.w) := (HLi.out w' hw).2.2.2.2.2.2.2
          go_simp
          exact ⟨rfl, rfl⟩
        · intro gg w' hw hk
          go_simp
          exact ⟨rfl, rfl⟩
        · intro gg w' hw hk
          have q0 : w'.cell? ⟨b, 1, none⟩ = some (.slice (some ⟨g1, 0, none⟩) D.out.length c3) := (HLi.out w' hw).1.1
          go_simp
          exact ⟨rfl, rfl⟩
        · intro gg w' hw hk
          go_simp
          exact ⟨rfl, rfl⟩
        · intro gg w' hw hk
          go_simp
          exact ⟨rfl, rfl⟩
        · intro gg w' hw hk
          have q0 : w'.cell? ⟨g1, j * 6, none⟩ = some (.int .i64 X.l) := (HLi.out w' hw).2.1.1
          have q1 : w'.cell? ⟨g1, j * 6 + 1, none⟩ = some (.int .i64 X.t) := (HLi.out w' hw).2.1.2.1
          have q2 : w'.cell? ⟨g1, j * 6 + 2, none⟩ = some (.int .i64 X.r) := (HLi.out w' hw).2.1.2.2.1
          have q3 : w'.cell? ⟨g1, j * 6 + 3, none⟩ = some (.int .i64 X.b) := (HLi.out w' hw).2.1.2.2.2.1
          have q4 : w'.cell? ⟨g1, j * 6 + 4, none⟩ = some (.int .i64 X.a) := (HLi.out w' hw).2.1.2.2.2.2.1
          have q5 : w'.cell? ⟨g1, j * 6 + 5, none⟩ = some (.int .i64 X.w) := (HLi.out w' hw).2.1.2.2.2.2.2
          go_simp
          exact ⟨rfl, rfl⟩
        · intro gg w' hw hk
          have q := eqLn_same X.l X.t X.r X.b X.a X.w w'
          go_simp
          exact ⟨rfl, rfl⟩
      intro gg w4 k4 hgg
      clear hgg
      simp only [Hold.fill, Hold.Leave.value]
      have G4 := Lib.hid (thru H.out k4)
      have d1 := (HLi.out w4 k4).1.2
      have l4 := (HLi.out w4 k4).2.2.2.2.2.2.1
      rw [HA.out] at l4
      clear k4 HLi HA
      go_simp
      go_wp2_with fail
      go_roundw
      case rel => exact ⟨j + 1, .inl (by omega), by go_num, by rw [HT.out], G4⟩
      case measure => simp [intOf]; omega
    · obtain ⟨dn, hdn⟩ : ∃ dn : Nat, ((E.out.take j).flatMap fun e => e.2).length = dn := ⟨_, rfl⟩
      have hji : ¬ (j : Int) + 1 < (E.out.length : Int) := by omega
      have hmono : ((E.out.take j).flatMap fun e => e.2).length ≤ (E.out.flatMap fun e => e.2).length := by
        have : E.out.flatMap (fun e => e.2) = (E.out.take j).flatMap (fun e => e.2) ++ (E.out.drop j).flatMap (fun e => e.2) := by rw [← List.flatMap_append, List.take_append_drop]
        rw [this, List.length_append]; omega
      have HDn := Lib.hid (⟨hdn, by omega⟩ : ((E.out.take j).flatMap fun e => e.2).length = dn ∧ dn ≤ 30)
      rw [hdn]
      clear hdn hmono hol
      have HV := Lib.hid (⟨hasD, hasE, thru S9.out.2.2 H.out⟩ : Has wr b bx A3 c3 ni D ∧ Has wr b2 bx2 A32 c32 kk E ∧ Below w.heap.size w wr)
      obtain ⟨V, hVV⟩ : ∃ x, x = wr := ⟨_, rfl⟩
      subst hVV
      clear hasD hasE H S9
      have hHJ := Lib.hid hj
      clear hj
      go_wp2_with fail
      -- the boxes of both
      go_loopw [18, 20] (fun t1 i wr => ∃ k dl : Nat, k ≤ kk ∧ i = .int .i64 (k : Int) ∧ t1 = .int .i64 (dl : Int) ∧ Hid (dl + (atomsK its k).length = dn ∧ Below V.heap.size V wr)) (fun _ i _ => kk - (intOf i).toNat)
      case atStart => exact ⟨0, dn, Nat.zero_le _, rfl, rfl, Lib.hid ⟨by show dn + 0 = dn; omega, Below.refl _ _⟩⟩
      case round =>
        obtain ⟨k, dl, hk, rfl, rfl, G⟩ := hrel
        clear c0 c1 c2 d0 d1 d2
        have hasD := HV.out.1.below G.out.2
        have hasE := HV.out.2.1.below G.out.2
        obtain ⟨c0, c1, c2⟩ := hasD.cells
        obtain ⟨d0, d1, d2⟩ := hasE.cells
        have hdl30 : dl ≤ 30 := by have := G.out.1; have := HDn.out.2; omega
        by_cases hlt : k < kk
        · have hki : (k : Int) < (kk : Int) := by omega
          by_cases hdl : 0 < dl
          · have hdi : (0 : Int) < (dl : Int) := by omega
            have hk0 : ¬ (k : Int) < 0 := by omega
            have hkni : (k : Int) < (ni : Int) := by omega
            have hwk : IntKind.i64.wrap ((k : Int) + 1) = (k : Int) + 1 := by have := HI.out; exact IntWalk.i64_in _ (by omega)
            have hkl : k < its.length := by have := HTp.out.2.2; omega
            obtain ⟨x, hz⟩ : ∃ x, its[k]? = some x := ⟨_, List.getElem?_eq_getElem hkl⟩
            have hxk : itAt its k = x := itAt_is hz
            obtain ⟨ad, rfl, -, i0, i1, i2, i3⟩ := (HI.out.2.1.thru (thru HV.out.2.2 G.out.2)) k x hz
            by_cases hs : x.sd = 0
            · have hb0 : (x.sd != 0) = false := by rw [hs]; rfl
              have hxs : (itAt its k).sd = 0 := by rw [hxk]; exact hs
              have hA1 : (atomsK its (k + 1)).length = (atomsK its k).length + 1 := by rw [atomsK_yes hxs, List.length_append]; rfl
              obtain ⟨m, e, hmj, hme, hie⟩ := fronts_atom HTp.out.2.2 HTp.out.1 HTp.out.2.1 hlt hxs (j := j) (by rw [HDn.out.1]; have := G.out.1; omega)
              have hmE : m + 1 < E.out.length := by have := hHJ.out; omega
              have hmd := (HFr.out.2 m hmE).2
              rw [hme] at hmd
              have hbox := fronts_box HFc.out.T HTp.out.1 (List.mem_of_getElem? hmd.symm) (List.mem_of_getElem? hme) hie
              obtain ⟨dp, hdp⟩ : ∃ dp, dl = dp + 1 := ⟨dl - 1, by omega⟩
              have hwd : IntKind.i64.wrap ((dl : Int) - 1) = (dp : Int) := by rw [hdp, show (((dp + 1 : Nat) : Int) - 1) = (dp : Int) by omega]; exact IntWalk.i64_in _ (by omega)
              have HG := Lib.hid (show dp + (atomsK its (k + 1)).length = dn by rw [hA1]; have := G.out.1; omega)
              obtain ⟨Y, hY⟩ : ∃ Y, bxAt D.box k = Y := ⟨_, rfl⟩
              rw [hY] at hbox
              have HLi := Lib.hid (fun w' (i : Below wr.heap.size wr w') => show (w'.cell? ⟨b, 0, none⟩ = some (.slice (some ⟨bx, 0, none⟩) ni ni) ∧ w'.cell? ⟨b2, 0, none⟩ = some (.slice (some ⟨bx2, 0, none⟩) kk kk)) ∧
                  (w'.cell? ⟨bx, k * 4, none⟩ = some (.int .i64 Y.l) ∧ w'.cell? ⟨bx, k * 4 + 1, none⟩ = some (.int .i64 Y.t) ∧ w'.cell? ⟨bx, k * 4 + 2, none⟩ = some (.int .i64 Y.r) ∧ w'.cell? ⟨bx, k * 4 + 3, none⟩ = some (.int .i64 Y.b)) ∧
                  (w'.cell? ⟨bx2, k * 4, none⟩ = some (.int .i64 Y.l) ∧ w'.cell? ⟨bx2, k * 4 + 1, none⟩ = some (.int .i64 Y.t) ∧ w'.cell? ⟨bx2, k * 4 + 2, none⟩ = some (.int .i64 Y.r) ∧ w'.cell? ⟨bx2, k * 4 + 3, none⟩ = some (.int .i64 Y.b)) by
                have h8 := hasD.below i
                have h9 := hasE.below i
                have r1 := h8.box (k := k) (by omega)
                have r2 := h9.box hlt
                rw [hY] at r1
                rw [hbox] at r2
                exact ⟨⟨h8.at'.at' 0, h9.at'.at' 0⟩, r1, r2⟩)
              clear c0 c1 c2 d0 d1 d2 hasD hasE hz hxk hs hxs hA1 hme hie hmd hbox hdp hY
              go_upto_region 20 with fail
              refine HoldAll.wp_region_hold_all [.val (.pointer (some ⟨b2, 0, none⟩)), .val (.slice (some ⟨bx2, 0, none⟩) kk kk), .val (.int .i64 (k : Int)), .val (.pointer (some ⟨bx2, k * 4, none⟩)), .val (.agg #[.int .i64 Y.l, .int .i64 Y.t, .int .i64 Y.r, .int .i64 Y.b]), .val (.pointer (some ⟨b, 0, none⟩)), .val (.slice (some ⟨bx, 0, none⟩) ni ni), .val (.int .i64 (k : Int)), .val (.pointer (some ⟨bx, k * 4, none⟩)), .val (.agg #[.int .i64 Y.l, .int .i64 Y.t, .int .i64 Y.r, .int .i64 Y.b]), .val (.bool false)] (by kernel_rfl) (by kernel_rfl) (by kernel_rfl) ?_ ?_
              · simp only [Hold.fill, Hold.Leave.value]
                refine ⟨?_, ?_, ?_, ?_, ?_, ?_, ?_, ?_, ?_, ?_, ?_, trivial⟩
                · intro gg w' hw hk
                  go_simp
                  exact ⟨rfl, rfl⟩
                · intro gg w' hw hk
                  have q0 : w'.cell? ⟨b2, 0, none⟩ = some (.slice (some ⟨bx2, 0, none⟩) kk kk) := (HLi.out w' hw).1.2
                  go_simp
                  exact ⟨rfl, rfl⟩
                · intro gg w' hw hk
                  go_simp
                  exact ⟨rfl, rfl⟩
                · intro gg w' hw hk
                  go_simp
                  exact ⟨rfl, rfl⟩
                · intro gg w' hw hk
                  have q0 : w'.cell? ⟨bx2, k * 4, none⟩ = some (.int .i64 Y.l) := (HLi.out w' hw).2.2.1
                  have q1 : w'.cell? ⟨bx2, k * 4 + 1, none⟩ = some (.int .i64 Y.t) := (HLi.out w' hw).2.2.2.1
                  have q2 : w'.cell? ⟨bx2, k * 4 + 2, none⟩ = some (.int .i64 Y.r) := (HLi.out w' hw).2.2.2.2.1
                  have q3 : w'.cell? ⟨bx2, k * 4 + 3, none⟩ = some (.int .i64 Y.b) := (HLi.out w' hw).2.2.2.2.2
                  go_simp
                  exact ⟨rfl, rfl⟩
                · intro gg w' hw hk
                  go_simp
                  exact ⟨rfl, rfl⟩
                · intro gg w' hw hk
                  have q0 : w'.cell? ⟨b, 0, none⟩ = some (.slice (some ⟨bx, 0, none⟩) ni ni) := (HLi.out w' hw).1.1
                  go_simp
                  exact ⟨rfl, rfl⟩
                · intro gg w' hw hk
                  go_simp
                  exact ⟨rfl, rfl⟩
                · intro gg w' hw hk
                  go_simp
                  exact ⟨rfl, rfl⟩
                · intro gg w' hw hk
                  have q0 : w'.cell? ⟨bx, k * 4, none⟩ = some (.int .i64 Y.l) := (HLi.out w' hw).2.1.1
                  have q1 : w'.cell? ⟨bx, k * 4 + 1, none⟩ = some (.int .i64 Y.t) := (HLi.out w' hw).2.1.2.1
                  have q2 : w'.cell? ⟨bx, k * 4 + 2, none⟩ = some (.int .i64 Y.r) := (HLi.out w' hw).2.1.2.2.1
                  have q3 : w'.cell? ⟨bx, k * 4 + 3, none⟩ = some (.int .i64 Y.b) := (HLi.out w' hw).2.1.2.2.2
                  go_simp
                  exact ⟨rfl, rfl⟩
                · intro gg w' hw hk
                  have q := eqR4_same Y.l Y.t Y.r Y.b w'
                  go_simp
                  exact ⟨rfl, rfl⟩
              intro gg w4 k4 hgg
              clear hgg
              simp only [Hold.fill, Hold.Leave.value]
              have G4 := Lib.hid (⟨HG.out, thru G.out.2 k4⟩ : dp + (atomsK its (k + 1)).length = dn ∧ Below V.heap.size V w4)
              clear k4 HLi HG i0 i1 i2 i3
              go_simp
              go_wp2_with fail
              go_roundw
              case rel => exact ⟨k + 1, dp, by omega, by go_num, by go_num, G4⟩
              case measure => simp [intOf]; omega
            · have hb0 : (x.sd != 0) = true := by simp [hs]
              have hxs : (itAt its k).sd ≠ 0 := by rw [hxk]; exact hs
              have HG := Lib.hid (show dl + (atomsK its (k + 1)).length = dn by rw [atomsK_no hxs]; exact G.out.1)
              clear hz hxk hs hxs hasD hasE c0 c1 c2 d0 d1 d2
              go_wp2_with fail
              go_roundw
              case rel => exact ⟨k + 1, dl, by omega, by go_num, rfl, Lib.hid ⟨HG.out, G.out.2⟩⟩
              case measure => simp [intOf]; omega
          · obtain rfl : dl = 0 := by omega
            have hy1 : y ≤ D.m.y := (chain_le HFc.out.T.ch).1
            have hy2 : y ≤ E.m.y := (chain_le HTp.out.1.ch).1
            clear hasD hasE
            go_wp2_with fail
            go_ret
            exact ⟨rfl, thru HV.out.2.2 G.out.2⟩
        · obtain rfl : k = kk := by omega
          have hy1 : y ≤ D.m.y := (chain_le HFc.out.T.ch).1
          have hy2 : y ≤ E.m.y := (chain_le HTp.out.1.ch).1
          clear hasD hasE
          go_wp2_with fail
          go_ret
          exact ⟨rfl, thru HV.out.2.2 G.out.2⟩

theorem front_any (hO : SpaceOk S) (hP : PlaceOk S) (A : Option Addr) (n c : Nat) (fs : List Fl) (f t y : Int) (AI : Option Addr) (ni ci : Nat) (its : List It) (cu : Int) (hcu : 0 ≤ cu ∧ cu ≤ 255) (w : World) (hn : n = fs.length) (hm : n ≤ 9223372036854775807) (hx : Floats w w.heap.size A fs) (hni : ni = its.length) (hmi : ni ≤ 9223372036854775807) (hci : ni ≤ ci) (hxi : Items w w.heap.size AI its) :
    Calls Try.prog 7 #[.slice A n c, .int .i64 f, .int .i64 t, .int .i64 y, .slice AI ni ci, .int .u8 cu] w fun e w' => e = .returned (.bool true) ∧ Below w.heap.size w w' := by
  by_cases hv : okT fs f t y its = true
  · exact front_yes hO hP A n c fs f t y AI ni ci its cu hcu  w hn hm hx hni hmi hci hxi hv
  · exact front_few hO hP A n c fs f t y AI ni ci its cu hcu  w hn hm hx hni hmi hci hxi (by simpa using hv)

end

end Go.Proofs.Ytdibdfalahjmbaa.Text
