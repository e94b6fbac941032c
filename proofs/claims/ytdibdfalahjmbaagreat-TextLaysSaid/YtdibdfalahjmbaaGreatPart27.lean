
import Derived.Test.YtdibdfalahjmbaaGreatPart26
import Derived.Deep.RegionLaw
namespace Go.Proofs.YtdibdfalahjmbaaGreat.Text

open Go.RowKit Go.Sort Go.Proofs.YtdibdfalahjmbaaGreat.Rect Go.Proofs.YtdibdfalahjmbaaGreat.More Go.Proofs.YtdibdfalahjmbaaGreat.Shelf Go.Proofs.YtdibdfalahjmbaaGreat.Space Go.Proofs.YtdibdfalahjmbaaGreat.Place Go.Proofs.YtdibdfalahjmbaaGreat.Line

set_option linter.unusedVariables false

set_option linter.unusedSimpArgs false

theorem lo_fine {Z : Int} {m : Mk} (h : Lo Z m) (hz : Z ≤ 140737488355328 + 140000000000000) (hl : m.az.length ≤ 100000) : Fine m := by
  have h1 := h.f1
  have h2 := h.f2
  have h3 := h.t1
  have h4 := h.t2
  have h5 := h.y1
  have h6 := h.y2
  exact ⟨nearZ_49 h.fl (by omega), by omega, by omega, by omega, by omega, by omega, by omega, h.ha, hl, fun e => by have := h.p1 e; omega, fun e => by have := h.p2 e; omega⟩

section

variable {S : World → (Nat → Prop) → Addr → List Fl → Prop}

set_option maxRecDepth 100000 in
set_option maxHeartbeats 1000000 in
theorem kend_no {w : World} {P : Fast} {q : Loose} {its : List It} {s : Ly} (h : Kat S w P q its s) (hm : s.m.az = []) :
    Calls Tryz.prog 18 #[.pointer (some ⟨P.kb, 0, none⟩)] w fun e w' => (∃ v, e = .returned v) ∧ Below w.heap.size w w' := by
  have HE := Lib.hid (lend_no w P.p P.bb s.m h.bl hm)
  obtain ⟨c0, -⟩ := h.cells
  clear h hm
  go_enter Tryz.func18, Tryz.ntmps18
  go_upto_region 1 with (first
    | (go_at_call 32; refine HE.out.mono ?_; rintro e w1 ⟨rfl, k1⟩; have K1 := Lib.hid k1; clear k1))
  go_wp2_with fail
  exact bodyPost_ret (v := .tuple #[]) (by simp [results, Tryz.results18, go_sem]) rfl ⟨⟨_, rfl⟩, thru K1.out (ba1 _ _)⟩

def Ly.mid (its : List It) (s : Ly) (j : Nat) : Ly := ⟨(putAll its (s.wait.take j) (s.m.fin, setRow its s.m.top s.m.l s.row s.box)).1, s.row, s.wait, (putAll its (s.wait.take j) (s.m.fin, setRow its s.m.top s.m.l s.row s.box)).2, s.out ++ [(s.m, s.row)]⟩

theorem mid_next {its : List It} {s : Ly} {j k : Nat} (h : s.wait[j]? = some k) : s.mid its (j + 1) = (s.mid its j).putN its k := by
  unfold Ly.mid Ly.putN
  rw [List.take_add_one, h]
  show (⟨(putAll its (s.wait.take j ++ [k]) _).1, _, _, (putAll its (s.wait.take j ++ [k]) _).2, _⟩ : Ly) = _
  unfold putAll
  rw [List.foldl_append]
  rfl

theorem mid_fs (its : List It) (l : List Nat) : ∀ p : Mk × List Bx, (putAll its l p).1.fs.length = p.1.fs.length + l.length := by
  induction l with
  | nil => intro p; rfl
  | cons k l ih =>
    intro p
    show (putAll its l (putK its p k)).1.fs.length = _
    rw [ih]
    show (p.1.fs ++ [_]).length + l.length = _
    rw [List.length_append, List.length_cons]
    simp only [List.length_cons, List.length_nil]
    omega

def two'' (s : Ly) : Nat → Ly
  | 0 => s
  | _ => { s with row := [] }

structure Able (its : List It) (Z : Int) (k : Nat) (s : Ly) : Prop where
  kp : Keeps its Z k s
  hk : k ≤ its.length
  hr : ∀ x ∈ its, RightI x
  hz : Z + 2147483648 * (its.length : Int) ≤ 140737488355328 + 140000000000000
  hi : its.length ≤ 1000
  row : s.row.length ≤ its.length
  out : s.out.length ≤ its.length
  fs : s.m.fs.length + s.wait.length < 1000

theorem Able.fine {its : List It} {Z : Int} {k : Nat} {s : Ly} (h : Able its Z k s) : Fine s.m := by
  have hwl := h.kp.wl
  have hz := h.hz
  have hk := h.hk
  refine lo_fine h.kp.lo (by omega) ?_
  rw [h.kp.az, List.length_map]
  have := h.row
  have := h.hi
  omega

theorem Able.lnear {its : List It} {Z : Int} {k : Nat} {s : Ly} (h : Able its Z k s) : NearLn (lnOf s.m) := near_ln h.fine

theorem mid_lo {its : List It} {Z : Int} {k : Nat} {s : Ly} (h : Able its Z k s) (hne : s.m.az ≠ []) {j : Nat} (hj : j ≤ s.wait.length) : Lo (Z + 2147483648 * (its.length : Int)) (s.mid its j).m ∧ (s.mid its j).box.length = its.length := by
  have hwl := h.kp.wl
  have hk := h.hk
  have hz := h.hz
  have hl : ((s.wait.take j).length : Int) = j := by rw [List.length_take]; omega
  have h1 := putAll_keep its h.hr (s.wait.take j) (fun i hi => by have := h.kp.wt i (List.mem_of_mem_take hi); exact ⟨by omega, this.2⟩) _ (s.m.fin, setRow its s.m.top s.m.l s.row s.box) (lo_fin h.kp.lo) (by rw [hl]; omega) (by show s.m.fin.az = []; rw [fin_some hne])
  refine ⟨h1.1.up (by rw [hl]; omega), h1.2.2.trans ?_⟩
  show (setRow its s.m.top s.m.l s.row s.box).length = _
  rw [setRow_len]
  exact h.kp.bl

theorem mid_last {its : List It} {s : Ly} (hne : s.m.az ≠ []) : ({ (s.mid its s.wait.length) with row := [], wait := [] } : Ly) = s.fin its := by
  unfold Ly.mid Ly.fin Ly.shut Ly.outs
  rw [List.take_of_length_le (Nat.le_refl _)]
  cases ha : s.m.az with
  | nil => exact absurd ha hne
  | cons a l => rfl

set_option maxRecDepth 100000 in
set_option maxHeartbeats 4000000 in
theorem kend_some (hO : SpaceOk S) (hP : PlaceOk S) {w : World} {P : Fast} {q : Loose} {its : List It} {s : Ly} {Z : Int} {kk : Nat} (h : Kat S w P q its s) (hA : Able its Z kk s) (hm : s.m.az ≠ []) :
    Calls Tryz.prog 18 #[.pointer (some ⟨P.kb, 0, none⟩)] w fun e w' => (∃ v, e = .returned v) ∧ ∃ q', Kat S w' P q' its (s.fin its) ∧ Grew P q q' w w' := by
  have HE := Lib.hid (lend_some hO w q.F P.p P.bb s.m h.sp h.bl hm hA.fine)
  have HK := Lib.hid h
  have HA := Lib.hid hA
  have HM := Lib.hid hm
  obtain ⟨X, hX⟩ : ∃ X, lnOf s.m = X := ⟨_, rfl⟩
  rw [hX] at HE
  have HX := Lib.hid hX
  obtain ⟨c0, -⟩ := h.cells
  have hfin := fin_same hm
  have HF := Lib.hid hfin
  clear h hA hm hX hfin
  go_enter Tryz.func18, Tryz.ntmps18
  go_upto_region 1 with (first
    | (go_at_call 32; refine HE.out.mono ?_; rintro e w1 ⟨rfl, kb, k1⟩; have K1 := Lib.hid (HK.out.maker hO (m' := s.m.fin) kb k1 HF.out.1 HF.out.2.1 HF.out.2.2.1); clear kb k1))
  clear c0
  generalize hW1 : World.alloc w1 _ = V
  obtain ⟨b2, hb2⟩ : ∃ b2, w1.heap.size = b2 := ⟨_, rfl⟩
  have k2 : Below w1.heap.size w1 V := by rw [← hW1]; exact ba1 _ _
  have z2 : RowAt V b2 (lnrow X) := by rw [← hW1, ← hb2]; exact RowAt.new w1 _ _
  have hno : ∀ i j, part P q i j → ¬ j = b2 := fun i j e g => by have := K1.out.1.low hO i j e; omega
  rw [hb2]
  have S2 := Lib.hid (⟨K1.out.1.below hO k2, K1.out.2.trans (Grew.of_below k2), z2, hno⟩ : Kat S V P q its { s with m := s.m.fin } ∧ Grew P q q w V ∧ RowAt V b2 (lnrow X) ∧ ∀ i j, part P q i j → ¬ j = b2)
  obtain ⟨q0, qa, q2, q3, q4, q5⟩ := lat_of z2
  obtain ⟨c0, c1, c2, c3, c4, c5, c6, c7, c8, c9⟩ := S2.out.1.cells
  have hxl : ∀ o : Obj, MineE encL 47 (V.drew.alloc o) P.B q.A3 s.out.length q.c3 (s.out.map fun e => lnOf e.1) := fun o => S2.out.1.li.drew.alloc o
  have kd := Lib.hid (⟨rfl, rfl, rfl, Nat.le_refl _, fun _ _ => rfl⟩ : Below V.heap.size V V.drew)
  have c8a : ∀ o : Obj, (V.alloc o).cell? ⟨P.kb, 8, none⟩ = some (.slice q.A3 s.out.length q.c3) := fun o => (S2.out.1.kr.below (by simp) (ba1 V o)).at' 8
  clear hW1 hb2 k2 z2 hno K1 HK HE
  go_upto_region 2 with fail
  go_cut [24] (fun t wx => ∃ A' c', t = .slice A' (s.out.length + 1) c' ∧ Hid (Kat S wx P { q with A3 := A', c3 := c' } its { s with m := s.m.fin, out := s.out ++ [(s.m, s.row)] } ∧ Grew P q { q with A3 := A', c3 := c' } w wx ∧ RowAt wx b2 (lnrow X)))
  case first =>
    go_region_law (first
      | (refine step_append_E (bytes := 48) (by omega) infoL _ rfl (.tmp 21) (.tmp 23) rfl P.B q.A3 s.out.length q.c3 (s.out.map fun e => lnOf e.1) (by simp [Act.eval]) (by exact hxl _) (some ⟨V.heap.size, 0, none⟩) 1 1 [X] (by simp [Act.eval]) (by exact oneE_src encL V.drew X 47) (by have := HA.out.out; have := HA.out.hi; omega) (by have := S2.out.1.hB; simp; omega) ?_; intro A5 c5 w5 hA5; have r5 := ((S2.out.1.kr.below (by simp) (thru kd.out (ba1 V.drew (.cells (lnrow X).toArray 47)))).kept (hA5.2.1.block P.kb (by have := S2.out.1.klt; simp; omega) (fun e => absurd (S2.out.1.ap 6 2 P.kb e.symm rfl) (by decide)))); have d0 : w5.cell? ⟨P.kb, 8, none⟩ = some (.slice q.A3 s.out.length q.c3) := r5.at' 8; have d1 := r5.frz 8; have H5 := Lib.hid hA5; clear hA5 r5))
    all_goals
      go_wp2_with fail
      go_meet
      refine ⟨A5, c5, rfl, Lib.hid ?_⟩
      have hA5 : AppendedE encL 47 (V.drew.alloc (.cells (lnrow X).toArray 47)) P.B q.A3 s.out.length (s.out.map fun e => lnOf e.1) [lnOf s.m] 1 A5 c5 w5 := by
        rw [HX.out]
        exact H5.out
      have hkv := thru kd.out (ba1 V.drew (.cells (lnrow X).toArray 47))
      obtain ⟨e1, e2⟩ := (S2.out.1.below hO hkv).lined hO (s.m, s.row) hA5
      have z5 := (S2.out.2.2.1.below (by simp) hkv).kept (hA5.2.1.block b2 (by have := S2.out.2.2.1.lt (by simp); simp; omega) (fun e => S2.out.2.2.2 6 b2 e.symm rfl))
      exact ⟨e1, (S2.out.2.1.trans (Grew.of_below hkv)).trans e2, z5.kept (heap_setCell_other _ ⟨P.kb, 8, none⟩ b2 _ (fun e => S2.out.2.2.2 2 P.kb rfl e.symm))⟩
  case rest =>
  obtain ⟨A', c', rfl, hc⟩ := hcut
  obtain ⟨q1, hq1⟩ : ∃ q1 : Loose, { q with A3 := A', c3 := c' } = q1 := ⟨_, rfl⟩
  rw [hq1] at hc
  have hA2 : q1.A2 = q.A2 ∧ q1.c2 = q.c2 := by rw [← hq1]; exact ⟨rfl, rfl⟩
  have HQ := Lib.hid (⟨hc, hA2⟩ : Hid (Kat S wc P q1 its { s with m := s.m.fin, out := s.out ++ [(s.m, s.row)] } ∧ Grew P q q1 w wc ∧ RowAt wc b2 (lnrow X)) ∧ q1.A2 = q.A2 ∧ q1.c2 = q.c2)
  clear hq1 hc hA2 q0 qa q2 q3 q4 q5 c0 c1 c2 c3 c4 c5 c6 c7 c8 c9 hxl c8a kd S2
  obtain ⟨q0, qa, q2, q3, q4, q5⟩ := lat_of HQ.out.1.out.2.2
  have hln := HA.out.lnear
  rw [HX.out] at hln
  have HFi := Lib.hid (kfill_any hO HQ.out.1.out.1 X.l X.t X.r X.b HA.out.kp.bl (fun i hi => by
    have h1 := HA.out.kp.rw' i hi
    have h2 := HA.out.hk
    exact ⟨by omega, (itAt_right HA.out.hr (by omega)).size h1.2⟩) (by have := HA.out.row; have := HA.out.hi; show s.row.length ≤ 100000; omega) ⟨hln.l1, hln.l2⟩ (by
      have := HA.out.fine.p1 HM.out
      have := HA.out.fine.p2 HM.out
      have : X.t = s.m.top := by rw [← HX.out]; rfl
      omega))
  clear hln
  go_upto_region 4 with (first
    | (go_at_call 33; refine HFi.out.mono ?_; rintro e w2 ⟨⟨v2, rfl⟩, h2, g2⟩; have S3 := Lib.hid (⟨h2, HQ.out.1.out.2.1.trans g2⟩ : Kat S w2 P q1 its { s with m := s.m.fin, out := s.out ++ [(s.m, s.row)], box := setRow its X.t X.l s.row s.box } ∧ Grew P q q1 w w2); clear h2 g2))
  clear q0 qa q2 q3 q4 q5 HFi
  have hmid0 : ({ s with m := s.m.fin, out := s.out ++ [(s.m, s.row)], box := setRow its X.t X.l s.row s.box } : Ly) = s.mid its 0 := by
    unfold Ly.mid
    rw [List.take_zero, ← HX.out]
    rfl
  have hS3 := S3.out
  rw [hmid0] at hS3
  have S4 := Lib.hid hS3
  clear hmid0 hS3 S3
  obtain ⟨n, hn⟩ : ∃ n, s.wait.length = n := ⟨_, rfl⟩
  obtain ⟨c0, c1, c2, c3, c4, c5, c6, -⟩ := S4.out.1.cells
  have c6' : w2.cell? ⟨P.kb, 6, none⟩ = some (.slice q1.A2 n q1.c2) := by rw [← hn]; exact c6
  have HN := Lib.hid hn
  clear hn c0 c1 c2 c3 c4 c5 c6
  go_wp2_with fail
  go_loopw [37] (fun i wr => ∃ j : Nat, j ≤ n ∧ i = .int .i64 (j : Int) ∧ Hid (∃ F', Kat S wr P { q1 with F := F' } its (s.mid its j) ∧ Grew P q { q1 with F := F' } w wr)) (fun i _ => n - (intOf i).toNat)
  case atStart => exact ⟨0, Nat.zero_le _, rfl, Lib.hid ⟨q1.F, S4.out.1, S4.out.2⟩⟩
  case round =>
    obtain ⟨j, hj, rfl, H0⟩ := hrel
    obtain ⟨F', hkj, hgj⟩ := H0.out
    have H := Lib.hid (⟨hkj, hgj⟩ : Kat S wr P { q1 with F := F' } its (s.mid its j) ∧ Grew P q { q1 with F := F' } w wr)
    clear hkj hgj H0 c6'
    by_cases hlt : j < n
    · have hji : (j : Int) < (n : Int) := by omega
      have hj0 : ¬ (j : Int) < 0 := by omega
      have hwj : IntKind.i64.wrap ((j : Int) + 1) = (j : Int) + 1 := by have := HN.out; have := HA.out.kp.wl; have := HA.out.hk; have := HA.out.hi; exact IntWalk.i64_in _ (by omega)
      obtain ⟨k, hk⟩ : ∃ k, s.wait[j]? = some k := ⟨_, List.getElem?_eq_getElem (by rw [HN.out]; exact hlt)⟩
      have hkw := HA.out.kp.wt k (List.mem_of_getElem? hk)
      have hkl : k < its.length := by have := HA.out.hk; omega
      have hA : ∃ g2, q1.A2 = some ⟨g2, 0, none⟩ := by
        obtain ⟨g2, e, -⟩ := H.out.1.wa.form (by show 0 < s.wait.length; rw [HN.out]; omega)
        exact ⟨g2, e⟩
      obtain ⟨g2, hA⟩ := hA
      have hwa := H.out.1.wa
      rw [show ({ q1 with F := F' } : Loose).A2 = some ⟨g2, 0, none⟩ from hA] at hwa
      have p1 := place_cell hwa hk
      obtain ⟨hlo, hbx⟩ := mid_lo HA.out HM.out (j := j) (by rw [HN.out]; exact hj)
      have hfl : (s.mid its j).m.fs.length < 1000 := by
        have e := mid_fs its (s.wait.take j) (s.m.fin, setRow its s.m.top s.m.l s.row s.box)
        have e1 : (s.m.fin, setRow its s.m.top s.m.l s.row s.box).1.fs.length = s.m.fs.length := by show s.m.fin.fs.length = _; rw [HF.out.1]
        have e2 : (s.wait.take j).length ≤ s.wait.length := by rw [List.length_take]; omega
        have := HA.out.fs
        show (putAll its (s.wait.take j) (s.m.fin, setRow its s.m.top s.m.l s.row s.box)).1.fs.length < 1000
        omega
      have HPt := Lib.hid (kput_any hO hP H.out.1 hkl hbx hfl (nearZ_49 hlo.fl (by have := HA.out.hz; omega)) ((itAt_right HA.out.hr hkl).want hkw.2 hlo.f1 hlo.f2 hlo.t1 hlo.t2 hlo.ft hlo.y1 (by have := hlo.y2; have := HA.out.hz; omega)))
      have HMd := Lib.hid (mid_next (its := its) hk)
      rw [hA]
      have HA2 := Lib.hid hA
      clear hk hkw hkl hA hwa hlo hbx hfl
      go_wp2_with (first
        | (go_at_call 34; refine HPt.out.mono ?_; rintro e w3 ⟨⟨v3, rfl⟩, F3, h3, g3⟩; have S5 := Lib.hid (⟨F3, by rw [HMd.out]; exact h3, H.out.2.trans g3⟩ : ∃ F', Kat S w3 P { q1 with F := F' } its (s.mid its (j + 1)) ∧ Grew P q { q1 with F := F' } w w3); clear h3 g3))
      go_roundw
      case rel => exact ⟨j + 1, by omega, by go_num, Lib.hid (by rw [← HA2.out]; exact S5.out)⟩
      case measure => simp [intOf]; omega
    · obtain rfl : j = n := by omega
      have hlast := mid_last (its := its) HM.out
      rw [HN.out] at hlast
      have HL := Lib.hid hlast
      clear hlast
      obtain ⟨q2, hq2⟩ : ∃ q2 : Loose, { q1 with F := F' } = q2 := ⟨_, rfl⟩
      have h0 := H.out
      rw [hq2] at h0
      obtain ⟨sm, hsm⟩ : ∃ sm, s.mid its j = sm := ⟨_, rfl⟩
      rw [hsm] at h0
      have HS := Lib.hid h0
      have hl2 := HL.out
      rw [hsm] at hl2
      have HL2 := Lib.hid hl2
      clear h0 hq2 hsm hl2 HL H
      go_upto_region 9 with fail
      have HK0 := Lib.hid (stK_start (ss := two'' sm) hO HS.out.1)
      have HC := Lib.hid (fun w' G (i : stK S wr P q2 its (two'' sm) 0 w' G) => show w'.cell? ⟨P.kb, 5, none⟩ = some (.slice q2.A1 sm.row.length q2.c1) ∧ w'.cell? ⟨P.kb, 6, none⟩ = some (.slice q2.A2 sm.wait.length q2.c2) ∧ w'.frozen? ⟨P.kb, 5, none⟩ = false by
        obtain ⟨-, ⟨F'', a, -, -⟩, -⟩ := i
        exact ⟨a.kr.at' 5, a.kr.at' 6, a.kr.frz 5⟩)
      refine DrawT.wp_region_tail (stK S wr P q2 its (two'' sm)) 1 [.val (.pointer (some ⟨P.kb, 0, none⟩)), .val (.pointer (some ⟨P.kb, 0, none⟩)), .val (.pointer (some ⟨P.kb, 0, none⟩)), .val (.pointer (some ⟨P.kb, 0, none⟩)), .val (.pointer (some ⟨P.kb, 5, none⟩)), .early 0 (.slice q2.A1 sm.row.length q2.c1), .val (.slice q2.A1 0 q2.c1), .val (.pointer (some ⟨P.kb, 0, none⟩)), .val (.pointer (some ⟨P.kb, 0, none⟩)), .val (.pointer (some ⟨P.kb, 6, none⟩)), .early 0 (.slice q2.A2 sm.wait.length q2.c2), .val (.slice q2.A2 0 q2.c2), .val (.pointer (some ⟨P.kb, 0, none⟩)), .val (.pointer (some ⟨P.kb, 5, none⟩)), .turn 0 (undef)] (by kernel_rfl) (by kernel_rfl) (by kernel_rfl) (stK_kept hO) HK0.out ?_ ?_
      · simp only [Draw.fill, Draw.Leave.value]
        refine ⟨?_, ?_, ?_, ?_, ?_, ?_, ?_, ?_, ?_, ?_, ?_, ?_, ?_, ?_, ?_, trivial⟩
        · intro st gg w' G hw hk
          go_simp
          exact ⟨rfl, rfl⟩
        · intro st gg w' G hw hk
          go_simp
          exact ⟨rfl, rfl⟩
        · intro st gg w' G hw hk
          go_simp
          exact ⟨rfl, rfl⟩
        · intro st gg w' G hw hk
          go_simp
          exact ⟨rfl, rfl⟩
        · intro st gg w' G hw hk
          go_simp
          exact ⟨rfl, rfl⟩
        · intro st gg w' G hst hw hk
          obtain rfl : st = 0 := by omega
          have q0 : w'.cell? ⟨P.kb, 5, none⟩ = some (.slice q2.A1 sm.row.length q2.c1) := (HC.out w' G hw).1
          go_simp
          exact ⟨rfl, rfl⟩
        · intro st gg w' G hw hk
          simp only [Draw.stays, execOp]
          go_simp
        · intro st gg w' G hw hk
          go_simp
          exact ⟨rfl, rfl⟩
        · intro st gg w' G hw hk
          go_simp
          exact ⟨rfl, rfl⟩
        · intro st gg w' G hw hk
          go_simp
          exact ⟨rfl, rfl⟩
        · intro st gg w' G hst hw hk
          obtain rfl : st = 0 := by omega
          have q0 : w'.cell? ⟨P.kb, 6, none⟩ = some (.slice q2.A2 sm.wait.length q2.c2) := (HC.out w' G hw).2.1
          go_simp
          exact ⟨rfl, rfl⟩
        · intro st gg w' G hw hk
          simp only [Draw.stays, execOp]
          go_simp
        · intro st gg w' G hw hk
          go_simp
          exact ⟨rfl, rfl⟩
        · intro st gg w' G hw hk
          go_simp
          exact ⟨rfl, rfl⟩
        · intro gg w' G hw hk
          have u0 := (HC.out w' G hw).1
          have u1 := (HC.out w' G hw).2.2
          have u2 := stK_norow hO hw rfl
          go_simp
          exact ⟨rfl, u2⟩
      intro gg w5 G5 hkw hbox hput hap
      simp only [Draw.fill, Draw.Leave.value, List.length_cons, List.length_nil, List.drop_succ_cons, List.drop_zero]
      obtain ⟨-, ⟨F5, a5, b5, -⟩, -⟩ := hkw
      have d6 : w5.cell? ⟨P.kb, 6, none⟩ = some (.slice q2.A2 sm.wait.length q2.c2) := a5.kr.at' 6
      have f6 := a5.kr.frz 6
      obtain ⟨a6, b6⟩ := a5.nowait hO
      have S6 := Lib.hid (⟨a6, (HS.out.2.trans b5).trans b6⟩ : _ ∧ Grew P q _ w _)
      clear a5 b5 a6 b6 hbox hput hap HC HK0
      go_simp
      go_wp2_with fail
      go_end0
      exact ⟨⟨_, rfl⟩, { q2 with F := F5 }, by rw [← HL2.out]; exact S6.out.1, S6.out.2⟩

end

end Go.Proofs.YtdibdfalahjmbaaGreat.Text
