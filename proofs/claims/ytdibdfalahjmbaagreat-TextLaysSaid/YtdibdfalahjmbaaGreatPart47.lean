
import Derived.Test.YtdibdfalahjmbaaGreatPart42
namespace Go.Proofs.YtdibdfalahjmbaaGreat.Text

open Go.RowKit Go.Sort Go.Proofs.YtdibdfalahjmbaaGreat.Rect Go.Proofs.YtdibdfalahjmbaaGreat.More Go.Proofs.YtdibdfalahjmbaaGreat.Shelf Go.Proofs.YtdibdfalahjmbaaGreat.Space Go.Proofs.YtdibdfalahjmbaaGreat.Place Go.Proofs.YtdibdfalahjmbaaGreat.Line

set_option linter.unusedVariables false

set_option linter.unusedSimpArgs false

theorem Dat.o_app {w w5 : World} {P : RFast} {q : RLoose} {s : Ly} {o : Obj} (h : Dat (w.alloc o) P q s) {A' : Option Addr} {c' : Nat} {e : Ln} (hA : AppendedE encL 49 (w.alloc o) P.B q.A3 s.out.length (s.out.map fun e => lnOf e.1) [e] 1 A' c' w5) : RowAt w5 P.o (orow P q s) :=
  h.o.kept (hA.2.1.block P.o (h.o.lt (by simp)) (fun e => absurd (h.ap 3 0 P.o (by decide) e.symm rfl) (by decide)))

theorem Dat.fined {w w' : World} {P : RFast} {q : RLoose} {s : Ly} (h : Dat w P q s) (hm : s.m.az ≠ []) (k : But (fun j => j = P.m) w w') (hr : RowAt w' P.m (mrow q.AF q.nF q.cF none 0 0 s.m.fin)) : Dat w' P { q with AZ := none, nZ := 0, cZ := 0 } { s with m := s.m.fin } := by
  refine h.maker (AF := q.AF) (nF := q.nF) (cF := q.cF) (AZ := none) (nZ := 0) (cZ := 0) k hr ?_ ?_ h.fn ?_ ?_ (fun _ => rfl) (fun ad e => by cases e) ?_ (fun i ad hi h0 e g => ?_) (fun i ad hi e => by cases e)
  · rw [fin_some hm]; exact h.hn
  · rw [fin_some hm]; exact h.hx
  · rw [fin_some hm]; rfl
  · rw [fin_some hm]; exact sizes_none _ _
  · rw [fin_some hm]; exact h.tp
  · have := h.ap i 6 ad.block hi g ⟨h0, by rw [e]; rfl⟩; omega

set_option maxRecDepth 100000 in
set_option maxHeartbeats 800000 in
theorem c_off {w0 : World} {f t : Int} {AI : Option Addr} {ni ci : Nat} {P : RFast} {q : RLoose} {s : Ly} {its : List It} {a : Act} {w : World} {k : Int} (h : AtS w0 f t AI ni ci P q s k a w) (hm : s.m.az = []) :
    Code.wp Tryz.prog cC (Goes .normal fun a' w' => ∃ q', AtS w0 f t AI ni ci P q' (s) k a' w') a w := by
  have hz0 : (q.nZ : Int) = 0 := by have := h.d.hn2; rw [hm] at this; exact congrArg Nat.cast this
  have hz1 : ¬ (0 : Int) < (q.nZ : Int) := by omega
  have hz2 : q.nZ = 0 := by omega
  clear hm
  refine wp_goes fun Q hQ => ?_
  have HQ := Lib.hid hQ
  clear hQ
  have HD := Lib.hid (⟨h.d, h.b⟩ : Dat w P q s ∧ Below w0.heap.size w0 w)
  refine h.fr.open (C := fun a => Code.wp Tryz.prog cC Q a w) ?_
  clear h
  intros
  conv => arg 2; whnf
  have c5 : w.cell? ⟨P.m, 5, none⟩ = some (.slice q.AZ q.nZ q.cZ) := HD.out.1.m.at' 5
  go_wp2_with fail
  exact HQ.out _ _ ⟨q, ⟨⟨rfl, rfl, rfl, rfl, rfl, rfl, rfl, rfl, rfl, rfl, rfl⟩, HD.out.1, HD.out.2⟩⟩

set_option maxRecDepth 100000 in
set_option maxHeartbeats 800000 in
theorem c_on {w0 : World} {f t : Int} {AI : Option Addr} {ni ci : Nat} {P : RFast} {q : RLoose} {s : Ly} {its : List It} {a : Act} {w : World} {k : Nat} (h : AtS w0 f t AI ni ci P q s k a w) (E : Env w0 AI ni P its) (hA : Able its 140737488355328 k s) (hm : s.m.az ≠ []) :
    Code.wp Tryz.prog cC (Goes .normal fun a' w' => ∃ q', AtS w0 f t AI ni ci P q' (s.mid its 0) k a' w') a w := by
  have hrw : s.row ≠ [] := fun e => hm (by rw [hA.kp.az, e]; rfl)
  obtain ⟨i0, hi0⟩ := List.exists_mem_of_ne_nil _ hrw
  obtain ⟨ad, rfl, -⟩ := E.item (k := i0) (by have := (hA.kp.rw' i0 hi0).1; have := hA.hk; omega) h.b
  have hrow : ∀ i ∈ s.row, i < its.length ∧ RightS (itAt its i).z := fun i hi => by
    have h1 := hA.kp.rw' i hi
    have h2 := hA.hk
    exact ⟨by omega, (itAt_right hA.hr (by omega)).size h1.2⟩
  have HN := Lib.hid (h.d.mkin (by have := hA.fs; omega) (by have := hA.azl; have := hA.row; have := E.n30; omega) hA.low.ha)
  have HNo := Lib.hid (fun w1 (d : Dat w1 P q s) => show Calls Tryz.prog 24 #[Mv q.AF q.nF q.cF q.AZ q.nZ q.cZ s.m] w1 (fun e w' => e = .returned (lnOf s.m).v ∧ Below w1.heap.size w1 w') from
    refnow_some q.AF q.nF q.cF q.AZ q.nZ q.cZ s.m w1 (d.mkin (by have := hA.fs; omega) (by have := hA.azl; have := hA.row; have := E.n30; omega) hA.low.ha) hm)
  have HEn := Lib.hid (fun w1 (a1 : Floats w1 w1.heap.size q.AF s.m.fs) (a2 : Sizes w1 w1.heap.size q.AZ s.m.az) => show Calls Tryz.prog 25 #[Mv q.AF q.nF q.cF q.AZ q.nZ q.cZ s.m] w1 (fun e w' => e = .returned (Mv q.AF q.nF q.cF none 0 0 s.m.fin) ∧ Below w1.heap.size w1 w') from
    refend_some q.AF q.nF q.cF q.AZ q.nZ q.cZ s.m w1 ⟨HN.out.hn, HN.out.hlen, a1, HN.out.hn2, HN.out.hlen2, a2, HN.out.ha, HN.out.ht⟩ hm)
  have HLn := Lib.hid hA.lnear
  have htp : -4503599627370496 ≤ (lnOf s.m).t ∧ (lnOf s.m).t ≤ 4503599627370496 := by
    have h1 := hA.low.p1 hm
    have h2 := hA.low.p2 hm
    have h3 := hA.low.y1
    have h4 := E.n30
    show -4503599627370496 ≤ s.m.top ∧ s.m.top ≤ 4503599627370496
    omega
  have HTp := Lib.hid htp
  obtain ⟨X, hX⟩ : ∃ X, lnOf s.m = X := ⟨_, rfl⟩
  have HX := Lib.hid hX
  rw [hX] at HNo HLn HTp
  obtain ⟨mf, hmf⟩ : ∃ mf, s.m.fin = mf := ⟨_, rfl⟩
  have HMf := Lib.hid hmf
  rw [hmf] at HEn
  have HL := Lib.hid (⟨hA.kp.bl, hrow, (by have := hA.row; have := E.n30; omega), hA.out, hm, E.n30, E.hn⟩ : s.box.length = its.length ∧ (∀ i ∈ s.row, i < its.length ∧ RightS (itAt its i).z) ∧ s.row.length ≤ 30 ∧ s.out.length ≤ its.length ∧ s.m.az ≠ [] ∧ its.length ≤ 30 ∧ ni = its.length)
  obtain ⟨g1, hg1, -⟩ := h.d.ro.form (by have := List.length_pos_iff.2 hrw; omega)
  have HG := Lib.hid hg1
  have hz1 : (0 : Int) < (q.nZ : Int) := by have := List.length_pos_iff.2 hm; have := h.d.hn2; omega
  have HE := Lib.hid E
  clear hrw hi0 hrow hX hmf hg1 hA hm E HN htp
  refine wp_goes fun Q hQ => ?_
  have HQ := Lib.hid hQ
  clear hQ
  have HD := Lib.hid (⟨h.d, h.b⟩ : Dat w P q s ∧ Below w0.heap.size w0 w)
  refine h.fr.open (C := fun a => Code.wp Tryz.prog cC Q a w) ?_
  clear h
  intros
  conv => arg 2; whnf
  have m0 : w.cell? ⟨P.m, 0, none⟩ = some (.slice q.AF q.nF q.cF) := HD.out.1.m.at' 0
  have m1 : w.cell? ⟨P.m, 1, none⟩ = some (.int .i64 s.m.f) := HD.out.1.m.at' 1
  have m2 : w.cell? ⟨P.m, 2, none⟩ = some (.int .i64 s.m.t) := HD.out.1.m.at' 2
  have m3 : w.cell? ⟨P.m, 3, none⟩ = some (.int .i64 s.m.y) := HD.out.1.m.at' 3
  have m4 : w.cell? ⟨P.m, 4, none⟩ = some (.int .i64 s.m.top) := HD.out.1.m.at' 4
  have m5 : w.cell? ⟨P.m, 5, none⟩ = some (.slice q.AZ q.nZ q.cZ) := HD.out.1.m.at' 5
  go_upto_region 26 with (first
    | (go_at_call 24; refine (HNo.out w HD.out.1).mono ?_; rintro e w1 ⟨rfl, k1⟩; have K1 := Lib.hid k1; clear k1))
  clear m0 m1 m2 m3 m4 m5 hz1 HNo
  generalize hW1 : World.alloc w1 _ = V
  obtain ⟨b23, hb23⟩ : ∃ b23, w1.heap.size = b23 := ⟨_, rfl⟩
  have k2 : Below w1.heap.size w1 V := by rw [← hW1]; exact ba1 _ _
  have z2 : RowAt V b23 (lnrow X) := by rw [← hW1, ← hb23]; exact RowAt.new w1 _ _
  have kk := thru K1.out k2
  rw [hb23]
  have S2 := Lib.hid (⟨HD.out.1.below kk, HD.out.2.trans (kk.mono HD.out.2.size), z2, by have := K1.out.size; omega⟩ : Dat V P q s ∧ Below w0.heap.size w0 V ∧ RowAt V b23 (lnrow X) ∧ w.heap.size ≤ b23)
  clear hW1 hb23 k2 z2 kk K1
  have n0 : V.cell? ⟨b23, 0, none⟩ = some (.int .i64 X.l) := S2.out.2.2.1.at' 0
  have n1 : V.cell? ⟨b23, 1, none⟩ = some (.int .i64 X.t) := S2.out.2.2.1.at' 1
  have n2 : V.cell? ⟨b23, 2, none⟩ = some (.int .i64 X.r) := S2.out.2.2.1.at' 2
  have n3 : V.cell? ⟨b23, 3, none⟩ = some (.int .i64 X.b) := S2.out.2.2.1.at' 3
  have n4 : V.cell? ⟨b23, 4, none⟩ = some (.int .i64 X.a) := S2.out.2.2.1.at' 4
  have n5 : V.cell? ⟨b23, 5, none⟩ = some (.int .i64 X.w) := S2.out.2.2.1.at' 5
  have o1 : V.cell? ⟨P.o, 1, none⟩ = some (.slice q.A3 s.out.length q.c3) := S2.out.1.o.at' 1
  go_upto_region 27 with (first
    | (at_builtin; refine wpList_append_E (bytes := 48) (by omega) infoRL _ rfl (.tmp 165) (.tmp 167) rfl P.B q.A3 s.out.length q.c3 (s.out.map fun e => lnOf e.1) rfl (by exact S2.out.1.li.alloc _) (some ⟨V.heap.size, 0, none⟩) 1 1 [X] rfl (oneE_src encL V X 49) (by have := HL.out; omega) (by have := S2.out.1.hB; simp; omega) ?_; intro A5 c5' w5 hA5; have HA5 := Lib.hid hA5; have r5 := (S2.out.1.below (ba1 V _)).o_app hA5; have e1 : w5.cell? ⟨P.o, 1, none⟩ = some (.slice q.A3 s.out.length q.c3) := r5.at' 1; have f1 : w5.frozen? ⟨P.o, 1, none⟩ = false := r5.frz 1; clear hA5 r5))
  clear n0 n1 n2 n3 n4 n5 o1 e1 f1
  have hon := (S2.out.1.below (ba1 V (.cells (lnrow X).toArray 49))).online (s.m, s.row) (by rw [HX.out]; exact HA5.out)
  have kA : But (fun j => rpart P q 3 j ∨ j = P.o) (V.alloc (.cells (lnrow X).toArray 49)) (World.setCell w5 ⟨P.o, 1, none⟩ (.slice A5 (s.out.length + 1) c5')) := app_but HA5.out (fun j x => .inl x) (.inr rfl)
  have z3 := (S2.out.2.2.1.below (by simp) (ba1 V (.cells (lnrow X).toArray 49))).but (by simp) kA (fun e => by
    have g := S2.out.2.2.2
    rcases e with e | e
    · have := HD.out.1.low 3 _ e; omega
    · have := HD.out.1.low 0 _ e; omega)
  generalize World.setCell w5 ⟨P.o, 1, none⟩ (.slice A5 (s.out.length + 1) c5') = V3 at *
  have hb3 := (S2.out.2.1.trans ((ba1 V (.cells (lnrow X).toArray 49)).mono S2.out.2.1.size)).trans (by have := hon.2; rw [HE.out.hB] at this; exact this)
  have S3 := Lib.hid (⟨hon.1, hb3, z3, by have := HD.out.1.low 2 _ rfl; have := S2.out.2.2.2; omega, by have := HD.out.1.low 1 _ rfl; have := S2.out.2.2.2; omega⟩ : Dat V3 P { q with A3 := A5, c3 := c5' } { s with out := s.out ++ [(s.m, s.row)] } ∧ Below w0.heap.size w0 V3 ∧ RowAt V3 b23 (lnrow X) ∧ b23 ≠ P.bx ∧ b23 ≠ P.m)
  clear hon hb3 kA z3 HA5 S2
  have n0 : V3.cell? ⟨b23, 0, none⟩ = some (.int .i64 X.l) := S3.out.2.2.1.at' 0
  obtain ⟨n, hn⟩ : ∃ n, s.row.length = n := ⟨_, rfl⟩
  rw [hn]
  have HNr := Lib.hid hn
  clear hn
  go_wp2_with fail
  rw [HG.out]
  clear n0
  go_loopw [24, 175] (fun u i wr => ∃ j : Nat, j ≤ n ∧ i = .int .i64 (j : Int) ∧ u = .int .i64 (X.l + offs its (s.row.take j)) ∧ Hid (Dat wr P { q with A3 := A5, c3 := c5' } { s with box := setRow its X.t X.l (s.row.take j) s.box, out := s.out ++ [(s.m, s.row)] } ∧ Below w0.heap.size w0 wr ∧ RowAt wr b23 (lnrow X))) (fun _ i _ => n - (intOf i).toNat)
  case atStart => exact ⟨0, Nat.zero_le _, rfl, by rw [List.take_zero]; show Value.int .i64 X.l = .int .i64 (X.l + 0); rw [Int.add_zero], Lib.hid ⟨by rw [List.take_zero]; exact S3.out.1, S3.out.2.1, S3.out.2.2.1⟩⟩
  case round =>
    obtain ⟨j, hj, rfl, rfl, H⟩ := hrel
    by_cases hlt : j < n
    · have hji : (j : Int) < (n : Int) := by omega
      have hj0 : ¬ (j : Int) < 0 := by omega
      have hwj : IntKind.i64.wrap ((j : Int) + 1) = (j : Int) + 1 := by have := HNr.out; have := HL.out.2.2.1; exact IntWalk.i64_in _ (by omega)
      obtain ⟨i, hk⟩ : ∃ i, s.row[j]? = some i := ⟨_, List.getElem?_eq_getElem (by rw [HNr.out]; exact hlt)⟩
      have hir := HL.out.2.1 i (List.mem_of_getElem? hk)
      have hki : (i : Int) < (ni : Int) := by have := HL.out.2.2.2.2.2.2; omega
      have hk0 : ¬ (i : Int) < 0 := by omega
      have hkb : (i : Int) < (s.box.length : Int) := by have := HL.out.1; omega
      have ht1 : s.row.take (j + 1) = s.row.take j ++ [i] := by rw [List.take_add_one, hk]; rfl
      have hof := offs_b its (s.row.take j) (fun i hi => (HL.out.2.1 i (List.mem_of_mem_take hi)).2)
      have hw1 : 0 ≤ (itAt its i).wd := hir.2.w1
      have hw2 : (itAt its i).wd ≤ 2147483648 := hir.2.w2
      have hh1 : 0 ≤ (itAt its i).ht := hir.2.h1
      have hh2 : (itAt its i).ht ≤ 2147483648 := hir.2.h2
      have htl : (s.row.take j).length ≤ 30 := by rw [List.length_take]; have := HL.out.2.2.1; omega
      have hro : MineE encN 3 wr P.B q.A1 s.row.length q.c1 s.row := H.out.1.ro
      rw [HG.out] at hro
      have p1 := place_cell hro hk
      have hAt : ad.block < wr.heap.size ∧ AtI wr (ad.add (i * 4)) (itAt its i) := (HE.out.item hir.1 H.out.2.1).elim fun ad' h => by
        have e := Option.some.inj h.1
        rw [e]; exact h.2
      obtain ⟨x, hx⟩ : ∃ x, itAt its i = x := ⟨_, rfl⟩
      obtain ⟨u, hu⟩ : ∃ u, X.l + offs its (s.row.take j) = u := ⟨_, rfl⟩
      rw [hx] at hAt hw1 hw2 hh1 hh2
      rw [hu]
      have hb1 := HLn.out.l1
      have hb2 := HLn.out.l2
      have hb3 := HTp.out.1
      have hb4 := HTp.out.2
      have hwu : IntKind.i64.wrap (u + x.wd) = u + x.wd := IntWalk.i64_in _ (by omega)
      have HWu := Lib.hid hwu
      have HWt := Lib.hid (show IntKind.i64.wrap (X.t + x.ht) = X.t + x.ht from IntWalk.i64_in _ (by omega))
      have hset : setRow its X.t X.l (s.row.take (j + 1)) s.box = (setRow its X.t X.l (s.row.take j) s.box).set i ⟨u, X.t, u + x.wd, X.t + x.ht⟩ := by rw [ht1, setRow_snoc, hu, hx]
      have hoff : X.l + offs its (s.row.take (j + 1)) = u + x.wd := by rw [ht1, offs_snoc, hx, ← hu]; omega
      have HS := Lib.hid (⟨hset, hoff, hir.1⟩ : setRow its X.t X.l (s.row.take (j + 1)) s.box = (setRow its X.t X.l (s.row.take j) s.box).set i ⟨u, X.t, u + x.wd, X.t + x.ht⟩ ∧ X.l + offs its (s.row.take (j + 1)) = u + x.wd ∧ i < its.length)
      have HAt := Lib.hid hAt
      have HAi := Lib.hid hx
      clear hk hir ht1 hof hw1 hw2 hh1 hh2 htl hro hx hu hset hoff hAt hb1 hb2 hb3 hb4
      go_upto_region 31 with fail
      clear p1
      have HC := Lib.hid (fun w' (i' : Below wr.heap.size wr w') => show Dat w' P { q with A3 := A5, c3 := c5' } { s with box := setRow its X.t X.l (s.row.take j) s.box, out := s.out ++ [(s.m, s.row)] } ∧ AtI w' (ad.add (i * 4)) x ∧ RowAt w' b23 (lnrow X) from ⟨H.out.1.below i', HAt.out.2.below (by rw [block_of_add]; exact HAt.out.1) i', H.out.2.2.below (by simp) i'⟩)
      have HKr := Lib.hid (fun w' (i' : Below wr.heap.size wr w') => show w'.cell? ⟨P.o, 0, none⟩ = some (.slice (some ⟨P.bx, 0, none⟩) s.box.length s.box.length) by
        have h := (HC.out w' i').1.o.at' 0
        rw [h]
        show some (Value.slice (some ⟨P.bx, 0, none⟩) (setRow its X.t X.l (s.row.take j) s.box).length (setRow its X.t X.l (s.row.take j) s.box).length) = _
        rw [setRow_len])
      refine Hold.wp_region_hold [.val (.pointer (some ⟨P.o, 0, none⟩)), .val (.slice (some ⟨P.bx, 0, none⟩) s.box.length s.box.length), .val (.int .i64 (i : Int)), .val (.int .i64 u), .val (.pointer (some ⟨b23, 0, none⟩)), .val (.pointer (some ⟨b23, 1, none⟩)), .val (.int .i64 X.t), .val (.int .i64 u), .val (.slice (some ad) ni ci), .val (.int .i64 (i : Int)), .val (.pointer (some (ad.add (i * 4)))), .val (.pointer (some ⟨(ad.add (i * 4)).block, (ad.add (i * 4)).off + 2, none⟩)), .val (.int .i64 x.wd), .val (.int .i64 (u + x.wd)), .val (.pointer (some ⟨b23, 0, none⟩)), .val (.pointer (some ⟨b23, 1, none⟩)), .val (.int .i64 X.t), .val (.slice (some ad) ni ci), .val (.int .i64 (i : Int)), .val (.pointer (some (ad.add (i * 4)))), .val (.pointer (some ⟨(ad.add (i * 4)).block, (ad.add (i * 4)).off + 3, none⟩)), .val (.int .i64 x.ht), .val (.int .i64 (X.t + x.ht)), .val (.agg #[.int .i64 u, .int .i64 X.t, .int .i64 (u + x.wd), .int .i64 (X.t + x.ht)]), .val (.pointer (some ⟨P.bx, i * 4, none⟩))] (by kernel_rfl) (by kernel_rfl) (by kernel_rfl) ?_ ?_
      · simp only [Hold.fill, Hold.Leave.value]
        refine ⟨?_, ?_, ?_, ?_, ?_, ?_, ?_, ?_, ?_, ?_, ?_, ?_, ?_, ?_, ?_, ?_, ?_, ?_, ?_, ?_, ?_, ?_, ?_, ?_, ?_, trivial⟩
        · intro gg w' hw hk
          go_simp
          exact ⟨rfl, rfl⟩
        · intro gg w' hw hk
          have q0 : w'.cell? ⟨P.o, 0, none⟩ = some (.slice (some ⟨P.bx, 0, none⟩) s.box.length s.box.length) := (HKr.out w' hw)
          go_simp
          exact ⟨rfl, rfl⟩
        · intro gg w' hw hk
          go_simp
          exact ⟨rfl, rfl⟩
        · intro gg w' hw hk
          go_simp
          exact ⟨rfl, rfl⟩
        · intro gg w' hw hk
          go_simp
          exact ⟨rfl, rfl⟩
        · intro gg w' hw hk
          go_simp
          exact ⟨rfl, rfl⟩
        · intro gg w' hw hk
          have q0 : w'.cell? ⟨b23, 1, none⟩ = some (.int .i64 X.t) := ((HC.out w' hw).2.2).at' 1
          go_simp
          exact ⟨rfl, rfl⟩
        · intro gg w' hw hk
          go_simp
          exact ⟨rfl, rfl⟩
        · intro gg w' hw hk
          go_simp
          exact ⟨rfl, rfl⟩
        · intro gg w' hw hk
          go_simp
          exact ⟨rfl, rfl⟩
        · intro gg w' hw hk
          go_simp
          exact ⟨rfl, rfl⟩
        · intro gg w' hw hk
          go_simp
          exact ⟨rfl, rfl⟩
        · intro gg w' hw hk
          have q0 : w'.cell? ⟨(ad.add (i * 4)).block, (ad.add (i * 4)).off + 2, none⟩ = some (.int .i64 x.wd) := (HC.out w' hw).2.1.2.2.1
          go_simp
          exact ⟨rfl, rfl⟩
        · intro gg w' hw hk
          have q := HWu.out
          go_simp
          exact ⟨rfl, rfl⟩
        · intro gg w' hw hk
          go_simp
          exact ⟨rfl, rfl⟩
        · intro gg w' hw hk
          go_simp
          exact ⟨rfl, rfl⟩
        · intro gg w' hw hk
          have q0 : w'.cell? ⟨b23, 1, none⟩ = some (.int .i64 X.t) := ((HC.out w' hw).2.2).at' 1
          go_simp
          exact ⟨rfl, rfl⟩
        · intro gg w' hw hk
          go_simp
          exact ⟨rfl, rfl⟩
        · intro gg w' hw hk
          go_simp
          exact ⟨rfl, rfl⟩
        · intro gg w' hw hk
          go_simp
          exact ⟨rfl, rfl⟩
        · intro gg w' hw hk
          go_simp
          exact ⟨rfl, rfl⟩
        · intro gg w' hw hk
          have q0 : w'.cell? ⟨(ad.add (i * 4)).block, (ad.add (i * 4)).off + 3, none⟩ = some (.int .i64 x.ht) := (HC.out w' hw).2.1.2.2.2
          go_simp
          exact ⟨rfl, rfl⟩
        · intro gg w' hw hk
          have q := HWt.out
          go_simp
          exact ⟨rfl, rfl⟩
        · intro gg w' hw hk
          go_simp
          exact ⟨rfl, rfl⟩
        · intro gg w' hw hk
          go_simp
          exact ⟨rfl, rfl⟩
      intro gg w9 k9 hgg
      simp only [Hold.fill, Hold.Leave.value, List.length_cons, List.length_nil, List.drop_succ_cons, List.drop_zero]
      clear hgg
      have D9 := (HC.out w9 k9).1
      have hib : i < (setRow its X.t X.l (s.row.take j) s.box).length := by rw [setRow_len]; have := HL.out.1; have := HS.out.2.2; omega
      obtain ⟨bo, hbo, d0, d1, d2, d3, fz⟩ := box_cells D9.bo (k := i) hib
      have f0 := fz (i * 4)
      have f1 := fz (i * 4 + 1)
      have f2 := fz (i * 4 + 2)
      have f3 := fz (i * 4 + 3)
      have hput : MineE encB 44 (World.setCell (World.setCell (World.setCell (World.setCell w9 ⟨P.bx, i * 4, none⟩ (.int .i64 u)) ⟨P.bx, i * 4 + 1, none⟩ (.int .i64 X.t)) ⟨P.bx, i * 4 + 2, none⟩ (.int .i64 (u + x.wd))) ⟨P.bx, i * 4 + 3, none⟩ (.int .i64 (X.t + x.ht))) P.B (some ⟨P.bx, 0, none⟩) (setRow its X.t X.l (s.row.take j) s.box).length (setRow its X.t X.l (s.row.take j) s.box).length ((setRow its X.t X.l (s.row.take j) s.box).set i ⟨u, X.t, u + x.wd, X.t + x.ht⟩) ∧ But (fun j => j = P.bx) w9 (World.setCell (World.setCell (World.setCell (World.setCell w9 ⟨P.bx, i * 4, none⟩ (.int .i64 u)) ⟨P.bx, i * 4 + 1, none⟩ (.int .i64 X.t)) ⟨P.bx, i * 4 + 2, none⟩ (.int .i64 (u + x.wd))) ⟨P.bx, i * 4 + 3, none⟩ (.int .i64 (X.t + x.ht))) := mineB_put D9.bo (k := i) hib ⟨u, X.t, u + x.wd, X.t + x.ht⟩
      have bw9 := H.out.2.1.trans (k9.mono H.out.2.1.size)
      have S5 := Lib.hid (⟨D9.boxed (bs := (setRow its X.t X.l (s.row.take j) s.box).set i ⟨u, X.t, u + x.wd, X.t + x.ht⟩) List.length_set hput.1 hput.2, bw9.trans (hput.2.below bw9.size (fun j e => by rw [e, ← HE.out.hB]; exact D9.high 2 P.bx (by decide) rfl)), (HC.out w9 k9).2.2.but (by simp) hput.2 S3.out.2.2.2.1⟩ : Dat (World.setCell (World.setCell (World.setCell (World.setCell w9 ⟨P.bx, i * 4, none⟩ (.int .i64 u)) ⟨P.bx, i * 4 + 1, none⟩ (.int .i64 X.t)) ⟨P.bx, i * 4 + 2, none⟩ (.int .i64 (u + x.wd))) ⟨P.bx, i * 4 + 3, none⟩ (.int .i64 (X.t + x.ht))) P { q with A3 := A5, c3 := c5' } { s with box := (setRow its X.t X.l (s.row.take j) s.box).set i ⟨u, X.t, u + x.wd, X.t + x.ht⟩, out := s.out ++ [(s.m, s.row)] } ∧ Below w0.heap.size w0 _ ∧ RowAt _ b23 (lnrow X))
      clear hbo fz hput D9 hib bw9 HC HKr k9
      go_upto_region 32 with fail
      clear d0 d1 d2 d3 f0 f1 f2 f3
      generalize (World.setCell (World.setCell (World.setCell (World.setCell w9 ⟨P.bx, i * 4, none⟩ (.int .i64 u)) ⟨P.bx, i * 4 + 1, none⟩ (.int .i64 X.t)) ⟨P.bx, i * 4 + 2, none⟩ (.int .i64 (u + x.wd))) ⟨P.bx, i * 4 + 3, none⟩ (.int .i64 (X.t + x.ht))) = V9 at *
      have hAt : AtI V9 (ad.add (i * 4)) x := (HE.out.item HS.out.2.2 S5.out.2.1).elim fun ad' h => by
        have e := Option.some.inj h.1
        have h2 := h.2.2
        rw [e, ← HAi.out]
        exact h2
      have d2 := hAt.2.2.1
      clear hAt
      go_wp2_with fail
      go_roundw
      case rel => exact ⟨j + 1, by omega, by go_num, by rw [HS.out.2.1], Lib.hid ⟨by rw [HS.out.1]; exact S5.out.1, S5.out.2.1, S5.out.2.2⟩⟩
      case measure => simp [intOf]; omega
    · obtain rfl : j = n := by omega
      have he : s.row.take j = s.row := List.take_of_length_le (by rw [HNr.out]; exact Nat.le_refl _)
      have hK := H.out.1
      rw [he] at hK
      have HZ := Lib.hid (⟨hK, H.out.2.1⟩ : Dat wr P { q with A3 := A5, c3 := c5' } { s with box := setRow its X.t X.l s.row s.box, out := s.out ++ [(s.m, s.row)] } ∧ Below w0.heap.size w0 wr)
      clear he hK
      have HEn' := Lib.hid (HEn.out wr HZ.out.1.hx HZ.out.1.hx2)
      have HW0 := Lib.hid (HE.out.hB)
      have m0 : wr.cell? ⟨P.m, 0, none⟩ = some (.slice q.AF q.nF q.cF) := HZ.out.1.m.at' 0
      have m1 : wr.cell? ⟨P.m, 1, none⟩ = some (.int .i64 s.m.f) := HZ.out.1.m.at' 1
      have m2 : wr.cell? ⟨P.m, 2, none⟩ = some (.int .i64 s.m.t) := HZ.out.1.m.at' 2
      have m3 : wr.cell? ⟨P.m, 3, none⟩ = some (.int .i64 s.m.y) := HZ.out.1.m.at' 3
      have m4 : wr.cell? ⟨P.m, 4, none⟩ = some (.int .i64 s.m.top) := HZ.out.1.m.at' 4
      have m5 : wr.cell? ⟨P.m, 5, none⟩ = some (.slice q.AZ q.nZ q.cZ) := HZ.out.1.m.at' 5
      go_wp2_with (first
        | (go_at_call 25; refine HEn'.out.mono ?_; rintro e w8 ⟨rfl, k8⟩; have K8 := Lib.hid k8; have D8 := HZ.out.1.below k8; have q0 : w8.cell? ⟨P.m, 0, none⟩ = some (.slice q.AF q.nF q.cF) := D8.m.at' 0; have f0 : w8.frozen? ⟨P.m, 0, none⟩ = false := D8.m.frz 0; have q1 : w8.cell? ⟨P.m, 1, none⟩ = some (.int .i64 s.m.f) := D8.m.at' 1; have f1 : w8.frozen? ⟨P.m, 1, none⟩ = false := D8.m.frz 1; have q2 : w8.cell? ⟨P.m, 2, none⟩ = some (.int .i64 s.m.t) := D8.m.at' 2; have f2 : w8.frozen? ⟨P.m, 2, none⟩ = false := D8.m.frz 2; have q3 : w8.cell? ⟨P.m, 3, none⟩ = some (.int .i64 s.m.y) := D8.m.at' 3; have f3 : w8.frozen? ⟨P.m, 3, none⟩ = false := D8.m.frz 3; have q4 : w8.cell? ⟨P.m, 4, none⟩ = some (.int .i64 s.m.top) := D8.m.at' 4; have f4 : w8.frozen? ⟨P.m, 4, none⟩ = false := D8.m.frz 4; have q5 : w8.cell? ⟨P.m, 5, none⟩ = some (.slice q.AZ q.nZ q.cZ) := D8.m.at' 5; have f5 : w8.frozen? ⟨P.m, 5, none⟩ = false := D8.m.frz 5; clear k8 D8))
      clear m0 m1 m2 m3 m4 m5 q0 q1 q2 q3 q4 q5 f0 f1 f2 f3 f4 f5
      have D8 := HZ.out.1.below K8.out
      have v6 := row_six D8.m (.slice q.AF q.nF q.cF) (.int .i64 mf.f) (.int .i64 mf.t) (.int .i64 mf.y) (.int .i64 mf.top) (.slice none 0 0)
      have DU := D8.fined (q := { q with A3 := A5, c3 := c5' }) HL.out.2.2.2.2.1 (but_only v6.2) (by rw [HMf.out]; exact v6.1)
      have b8 := HZ.out.2.trans (K8.out.mono HZ.out.2.size)
      refine HQ.out _ _ ?_
      rw [show s.mid its 0 = { s with m := s.m.fin, box := setRow its X.t X.l s.row s.box, out := s.out ++ [(s.m, s.row)] } by unfold Ly.mid; rw [List.take_zero, ← HX.out]; rfl]
      exact ⟨{ q with A3 := A5, c3 := c5', AZ := none, nZ := 0, cZ := 0 }, ⟨⟨rfl, rfl, rfl, rfl, rfl, rfl, rfl, rfl, (by show some (Value.slice (some ⟨g1, 0, none⟩) j q.c1) = some (Value.slice q.A1 s.row.length q.c1); rw [HG.out, HNr.out]), rfl, rfl⟩, DU, b8.trans ((but_only v6.2).below b8.size (fun j e => by rw [e, ← HE.out.hB]; exact D8.b2))⟩⟩

end Go.Proofs.YtdibdfalahjmbaaGreat.Text
