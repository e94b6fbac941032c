
import Derived.Test.YtdibdfalahjmbaaGreatPart50
namespace Go.Proofs.YtdibdfalahjmbaaGreat.Text

open Go.RowKit Go.Sort Go.Proofs.YtdibdfalahjmbaaGreat.Rect Go.Proofs.YtdibdfalahjmbaaGreat.More Go.Proofs.YtdibdfalahjmbaaGreat.Shelf Go.Proofs.YtdibdfalahjmbaaGreat.Space Go.Proofs.YtdibdfalahjmbaaGreat.Place Go.Proofs.YtdibdfalahjmbaaGreat.Line

set_option linter.unusedVariables false

set_option linter.unusedSimpArgs false

theorem but_or {w U V : World} {a b : Nat} (h : But (fun j => j = a) w U) (k : But (fun j => j = b) U V) : But (fun j => j = a ∨ j = b) w V :=
  (But.trans (S := fun j => j = a ∨ j = b) ⟨h.os, h.tape, h.output, h.size, fun j hj hn => h.block j hj (fun e => hn (.inl e))⟩ k (fun _ _ e => .inr e))

theorem floats_no_r {w : World} {P : RFast} {q : RLoose} {s : Ly} (h : Dat w P q s) : ∀ ad, q.AF = some ad → 0 < s.m.fs.length → ad.block ≠ P.r := fun ad e hl g => by
  obtain ⟨x, hx⟩ : ∃ x, s.m.fs[0]? = some x := ⟨_, List.getElem?_eq_getElem hl⟩
  obtain ⟨ad', e', -, c0, c1, c2', c3, c4⟩ := h.hx 0 x hx
  rw [e] at e'
  obtain rfl := Option.some.inj e'
  have eb : ad.add (0 * 5) = ad := by simp [Addr.add]
  rw [eb, g] at c1
  have c2 := c2'
  rw [eb, g] at c2
  rw [h.rr.at' (ad.off + 1)] at c1
  rw [h.rr.at' (ad.off + 2)] at c2
  generalize ad.off = o at c1 c2
  match o, c1, c2 with
  | 0, c1, _ => simp at c1
  | 1, _, c2 => simp at c2
  | 2, c1, _ => simp at c1
  | _ + 3, c1, _ => simp at c1

def RefLaid (w' : World) (ni : Nat) (D : Ly) (e : Ending) : Prop := ∃ bx A3 c3 AF cF, e = .returned (.agg #[.slice (some ⟨bx, 0, none⟩) ni ni, .slice A3 D.out.length c3, .int .i64 D.m.y, .slice AF D.m.fs.length cF]) ∧
  MineE encB 44 w' 0 (some ⟨bx, 0, none⟩) ni ni D.box ∧ MineE encL 49 w' 0 A3 D.out.length c3 (D.out.map fun e => lnOf e.1) ∧ Floats w' w'.heap.size AF D.m.fs

set_option maxRecDepth 100000 in
set_option maxHeartbeats 40000000 in
theorem rlay_any (A : Option Addr) (n c : Nat) (fs : List Fl) (f t y : Int) (AI : Option Addr) (ni ci : Nat) (its : List It) (w : World) (hn : n = fs.length) (hnil : A = none → c = 0) (hx : Floats w w.heap.size A fs) (hni : ni = its.length) (hxi : Items w w.heap.size AI its) (ho : OkT fs f t y its) :
    Calls Tryz.prog 8 #[.slice A n c, .int .i64 f, .int .i64 t, .int .i64 y, .slice AI ni ci] w fun e w' => RefLaid w' ni (layD fs f t y its) e ∧ Below w.heap.size w w' := by
  have hz : (140737488355328 : Int) + 2147483648 * (its.length : Int) ≤ 140737488355328 + 140000000000000 := by have := ho.n2; omega
  have HAb := Lib.hid (fun k (hk : k ≤ its.length) => able_layK ho.ri hz ho.lo (by have := ho.n2; omega) (by have := ho.n1; have := ho.n2; omega) k hk)
  have HFt := Lib.hid (fun k (hk : k ≤ its.length) => (⟨(lay_so ho.ri hz (told_micro ho.ri hz) ho.lo (told_start fs f t y its) k hk).cf, (lay_so ho.ri hz (told_micro ho.ri hz) ho.lo (told_start fs f t y its) k hk).ct⟩ : (layK fs f t y its k).m.f = f ∧ (layK fs f t y its k).m.t = t))
  have hD : layD fs f t y its = (layK fs f t y its its.length).fin its := rfl
  have h0 : layK fs f t y its 0 = ⟨⟨fs, f, t, y, 0, []⟩, [], [], List.replicate its.length noBx, []⟩ := rfl
  have hst : ∀ k, layK fs f t y its (k + 1) = (layK fs f t y its k).step its k := fun k => rfl
  have HI := Lib.hid (⟨hni, hxi, ho.n2, ho.ri, ho.n1⟩ : ni = its.length ∧ Items w w.heap.size AI its ∧ its.length ≤ 30 ∧ (∀ x ∈ its, RightI x) ∧ fs.length ≤ 12)
  have HX := Lib.hid (⟨hn, hnil, hx⟩ : n = fs.length ∧ (A = none → c = 0) ∧ Floats w w.heap.size A fs)
  rw [hD]
  have HLo := Lib.hid (⟨hz, ho.lo⟩ : (140737488355328 : Int) + 2147483648 * (its.length : Int) ≤ 140737488355328 + 140000000000000 ∧ Lo 140737488355328 ⟨fs, f, t, y, 0, []⟩)
  have hni2 : ni ≤ 30 := by have := ho.n2; omega
  have HLoop := Lib.hid (fun (P : RFast) (hB : P.B = w.heap.size) (q : RLoose) (a : Act) (w1 : World) (h : AtS w f t AI ni ci P q (layK fs f t y its 0) 0 a w1) (Q : Exit → Act → World → Prop) (hQ : ∀ q a w1, AtS w f t AI ni ci P q ((layK fs f t y its its.length).fin its) ((ni + 1 : Nat) : Int) a w1 → Q (.exit 0) a w1) => show (Code.loop cRound).wp Tryz.prog Q a w1 from
    layloop_any ⟨hB, hxi, hni, ho.n2, ho.ri⟩ HAb.out HFt.out h hQ)
  have HDb := Lib.hid (show ((layK fs f t y its its.length).fin its).box.length = ni from (fin_keep ho.ri (HAb.out its.length (Nat.le_refl _)).kp (Nat.le_refl _) hz).2.2.trans hni.symm)
  clear hD hn hnil hx hni hxi ho hz
  generalize layK fs f t y its = ly at *
  have HD := Lib.hid (⟨h0, hst⟩ : ly 0 = ⟨⟨fs, f, t, y, 0, []⟩, [], [], List.replicate its.length noBx, []⟩ ∧ ∀ k, ly (k + 1) = (ly k).step its k)
  clear h0 hst
  obtain ⟨D, hDD⟩ : ∃ D, (ly its.length).fin its = D := ⟨_, rfl⟩
  rw [hDD] at HLoop HDb ⊢
  clear hDD
  go_enter Tryz.func8, Tryz.ntmps8
  go_upto_region 1 with fail
  generalize hW1 : World.alloc w _ = W1
  obtain ⟨b10, hb10⟩ : ∃ b10, w.heap.size = b10 := ⟨_, rfl⟩
  have k1 : Below w.heap.size w W1 := by rw [← hW1]; exact ba1 _ _
  have s1 : W1.heap.size = b10 + 1 := by rw [← hW1, ← hb10]; simp
  have z10 : RowAt W1 b10 [.slice none 0 0, .slice none 0 0, .int .i64 0, .slice none 0 0] := by rw [← hW1, ← hb10]; exact RowAt.new w _ _
  clear hW1
  rw [hb10]
  obtain ⟨w3, hmk, hm3, k3⟩ := ref_boxes W1 ni (by omega)
  obtain ⟨bx, hbx⟩ : ∃ bx, W1.heap.size = bx := ⟨_, rfl⟩
  rw [hbx] at hmk hm3
  have k3s := k3.size
  go_upto_region 2 with fail
  generalize hW4 : World.alloc w3 _ = W4
  obtain ⟨bo, hbo⟩ : ∃ bo, w3.heap.size = bo := ⟨_, rfl⟩
  have k4 : Below w3.heap.size w3 W4 := by rw [← hW4]; exact ba1 _ _
  have s4 : W4.heap.size = bo + 1 := by rw [← hW4, ← hbo]; simp
  have zo : RowAt W4 bo [.slice (some ⟨bx, 0, none⟩) ni ni, .slice none 0 0, .int .i64 0, .slice none 0 0] := by rw [← hW4, ← hbo]; exact RowAt.new w3 _ _
  rw [hbo]
  clear hmk hW4
  go_upto_region 3 with fail
  generalize hW5 : World.alloc W4 _ = W5
  obtain ⟨bm, hbm⟩ : ∃ bm, bo + 1 = bm := ⟨_, rfl⟩
  rw [hbm] at s4
  have k5 : Below W4.heap.size W4 W5 := by rw [← hW5]; exact ba1 _ _
  have s5 : W5.heap.size = bm + 1 := by rw [← hW5]; simp; omega
  have zm : RowAt W5 bm [.slice A n c, .int .i64 f, .int .i64 t, .int .i64 y, .int .i64 0, .slice none 0 0] := by rw [← hW5, ← s4]; exact RowAt.new W4 _ _
  first | rw [hbm] | rw [s4]
  clear hW5
  go_upto_region 4 with fail
  generalize hW6 : World.alloc W5 _ = W6
  have k6 : Below W5.heap.size W5 W6 := by rw [← hW6]; exact ba1 _ _
  obtain ⟨e1, he1⟩ : ∃ e1, bm + 1 = e1 := ⟨_, rfl⟩
  rw [he1] at s5
  have m1 : MineE encN 3 W6 w.heap.size (some ⟨e1, 0, none⟩) 0 0 [] := by
    have := emptyE_mine encN 3 W5 w.heap.size (by omega)
    rw [s5, hW6] at this
    exact this
  have s6 : W6.heap.size = e1 + 1 := by rw [← hW6]; simp; omega
  first | rw [he1] | rw [s5]
  clear hW6
  generalize hW7 : World.alloc W6 _ = W7
  have k7 : Below W6.heap.size W6 W7 := by rw [← hW7]; exact ba1 _ _
  obtain ⟨e2, he2⟩ : ∃ e2, e1 + 1 = e2 := ⟨_, rfl⟩
  rw [he2] at s6
  have m2 : MineE encN 3 W7 w.heap.size (some ⟨e2, 0, none⟩) 0 0 [] := by
    have := emptyE_mine encN 3 W6 w.heap.size (by omega)
    rw [s6, hW7] at this
    exact this
  first | rw [he2] | rw [s6]
  clear hW7
  have k47 := thru (thru k5 k6) k7
  have k37 := thru k4 k47
  have k17 := thru (thru k1 k3) k37
  have hbl := hm3.lt bx rfl
  have z10' : RowAt W7 b10 [.slice none 0 0, .slice none 0 0, .int .i64 0, .slice none 0 0] := z10.below (by simp) (thru k3 k37)
  have hDat : Dat W7 ⟨bo, bm, bx, b10, w.heap.size⟩ ⟨A, n, c, none, 0, 0, some ⟨e1, 0, none⟩, 0, some ⟨e2, 0, none⟩, 0, none, 0⟩ (ly 0) := by
    rw [HD.out.1]
    have hl : (List.replicate its.length noBx).length = ni := by rw [List.length_replicate]; exact HI.out.1.symm
    refine ⟨?_, zm.below (by simp) (thru k6 k7), z10', ?_, noneE_mine _ _ _ _, m1.below k7, m2, HX.out.1, HX.out.2.2.thru k17, HX.out.2.1, rfl, sizes_none _ _, fun _ => rfl, fun ad e => (by cases e), (by show (-281474976710656 : Int) ≤ 0 ∧ (0 : Int) ≤ 562949953421312; omega), dat_ap (by omega) (by omega) (by omega) (by omega) (by omega) (by omega) (fun k h0 e => ?_), (by show w.heap.size ≤ bo; omega), (by show w.heap.size ≤ bm; omega), k17.size⟩
    · unfold orow
      dsimp only
      rw [hl]
      exact zo.below (by simp) k47
    · dsimp only
      rw [hl, ← HI.out.1]
      exact (hm3.below k37).mono (show w.heap.size ≤ bx by omega)
    · obtain ⟨ad, e1', e2'⟩ := blk_some e
      obtain ⟨fl, hf⟩ : ∃ fl, fs[0]? = some fl := ⟨_, List.getElem?_eq_getElem (by have := HX.out.1; omega)⟩
      obtain ⟨ad', e3, hb, -⟩ := HX.out.2.2 0 fl hf
      rw [e1'] at e3
      injection e3 with e3
      rw [← e2', e3]
      exact hb
  obtain ⟨P, hP⟩ : ∃ P : RFast, (⟨bo, bm, bx, b10, w.heap.size⟩ : RFast) = P := ⟨_, rfl⟩
  rw [hP] at hDat
  have hPo : bo = P.o := by rw [← hP]
  have hPm : bm = P.m := by rw [← hP]
  have hPx : bx = P.bx := by rw [← hP]
  have hPr : b10 = P.r := by rw [← hP]
  rw [hPo, hPm, hPr]
  have HP := Lib.hid (⟨by rw [← hP], by rw [← hPr]; omega⟩ : P.B = w.heap.size ∧ w.heap.size ≤ P.r)
  have H7 := Lib.hid (⟨hDat, k17⟩ : Dat W7 P ⟨A, n, c, none, 0, 0, some ⟨e1, 0, none⟩, 0, some ⟨e2, 0, none⟩, 0, none, 0⟩ (ly 0) ∧ Below w.heap.size w W7)
  clear k3s hb10 hbx hbo hbm he1 he2 s1 s4 s5 s6 k1 k3 k4 k5 k6 k7 k47 k37 k17 hm3 hbl zo zm m1 m2 z10 z10' hDat hP hPo hPm hPx hPr
  go_wp2_with fail
  refine HLoop.out P HP.out.1 ⟨A, n, c, none, 0, 0, some ⟨e1, 0, none⟩, 0, some ⟨e2, 0, none⟩, 0, none, 0⟩ _ W7 ⟨⟨rfl, rfl, rfl, rfl, rfl, rfl, rfl, rfl, ?_, ?_, rfl⟩, H7.out.1, H7.out.2⟩ _ ?_
  · rw [HD.out.1]; rfl
  · rw [HD.out.1]; rfl
  intro q a w1 h
  have H := Lib.hid (⟨h.d, h.b⟩ : Dat w1 P q D ∧ Below w.heap.size w w1)
  obtain ⟨x, rfl⟩ := h.fr.lit
  clear h HLoop H7
  have hom : P.o ≠ P.m := fun e => absurd (H.out.1.ap 0 1 P.o (by decide) rfl e) (by decide)
  have hor : P.o ≠ P.r := fun e => absurd (H.out.1.ap 0 8 P.o (by decide) rfl e) (by decide)
  have hmr : P.m ≠ P.r := fun e => absurd (H.out.1.ap 1 8 P.m (by decide) rfl e) (by decide)
  have HN := Lib.hid (⟨hom, hor, hmr⟩ : P.o ≠ P.m ∧ P.o ≠ P.r ∧ P.m ≠ P.r)
  clear hom hor hmr
  have m3 : w1.cell? ⟨P.m, 3, none⟩ = some (.int .i64 D.m.y) := H.out.1.m.at' 3
  have o2 : w1.cell? ⟨P.o, 2, none⟩ = some (.int .i64 0) := H.out.1.o.at' 2
  have f2 : w1.frozen? ⟨P.o, 2, none⟩ = false := H.out.1.o.frz 2
  go_upto_region 47 with fail
  clear m3 o2 f2
  have k2 := but_one w1 P.o 2 (.int .i64 D.m.y)
  have z2 : RowAt (World.setCell w1 ⟨P.o, 2, none⟩ (.int .i64 D.m.y)) P.o [.slice (some ⟨P.bx, 0, none⟩) D.box.length D.box.length, .slice q.A3 D.out.length q.c3, .int .i64 D.m.y, .slice none 0 0] := H.out.1.o.set 2 _ (by simp)
  have H2 := Lib.hid (⟨k2, z2, H.out.1.m.but (by simp) k2 (fun e => HN.out.1 e.symm), H.out.1.rr.but (by simp) k2 (fun e => HN.out.2.1 e.symm)⟩ : But (fun j => j = P.o) w1 _ ∧ RowAt _ P.o [.slice (some ⟨P.bx, 0, none⟩) D.box.length D.box.length, .slice q.A3 D.out.length q.c3, .int .i64 D.m.y, .slice none 0 0] ∧ RowAt _ P.m (mrowq q D.m) ∧ RowAt _ P.r [.slice none 0 0, .slice none 0 0, .int .i64 0, .slice none 0 0])
  clear k2 z2
  generalize World.setCell w1 ⟨P.o, 2, none⟩ (.int .i64 D.m.y) = U2 at *
  have m0 : U2.cell? ⟨P.m, 0, none⟩ = some (.slice q.AF q.nF q.cF) := H2.out.2.2.1.at' 0
  have o3 : U2.cell? ⟨P.o, 3, none⟩ = some (.slice none 0 0) := H2.out.2.1.at' 3
  have f3 : U2.frozen? ⟨P.o, 3, none⟩ = false := H2.out.2.1.frz 3
  go_upto_region 48 with fail
  clear m0 o3 f3
  have k3 := but_one U2 P.o 3 (.slice q.AF q.nF q.cF)
  have z3 : RowAt (World.setCell U2 ⟨P.o, 3, none⟩ (.slice q.AF q.nF q.cF)) P.o [.slice (some ⟨P.bx, 0, none⟩) D.box.length D.box.length, .slice q.A3 D.out.length q.c3, .int .i64 D.m.y, .slice q.AF q.nF q.cF] := H2.out.2.1.set 3 _ (by simp)
  have H3 := Lib.hid (⟨H2.out.1.trans k3 (fun _ _ e => e), z3, H2.out.2.2.2.but (by simp) k3 (fun e => HN.out.2.1 e.symm)⟩ : But (fun j => j = P.o) w1 _ ∧ RowAt _ P.o [.slice (some ⟨P.bx, 0, none⟩) D.box.length D.box.length, .slice q.A3 D.out.length q.c3, .int .i64 D.m.y, .slice q.AF q.nF q.cF] ∧ RowAt _ P.r [.slice none 0 0, .slice none 0 0, .int .i64 0, .slice none 0 0])
  clear k3 z3 H2
  generalize World.setCell U2 ⟨P.o, 3, none⟩ (.slice q.AF q.nF q.cF) = U3 at *
  have o0 : U3.cell? ⟨P.o, 0, none⟩ = some (.slice (some ⟨P.bx, 0, none⟩) D.box.length D.box.length) := H3.out.2.1.at' 0
  have o1 : U3.cell? ⟨P.o, 1, none⟩ = some (.slice q.A3 D.out.length q.c3) := H3.out.2.1.at' 1
  have o2 : U3.cell? ⟨P.o, 2, none⟩ = some (.int .i64 D.m.y) := H3.out.2.1.at' 2
  have o3 : U3.cell? ⟨P.o, 3, none⟩ = some (.slice q.AF q.nF q.cF) := H3.out.2.1.at' 3
  have r0 : U3.cell? ⟨P.r, 0, none⟩ = some (.slice none 0 0) := H3.out.2.2.at' 0
  have r1 : U3.cell? ⟨P.r, 1, none⟩ = some (.slice none 0 0) := H3.out.2.2.at' 1
  have r2 : U3.cell? ⟨P.r, 2, none⟩ = some (.int .i64 0) := H3.out.2.2.at' 2
  have r3 : U3.cell? ⟨P.r, 3, none⟩ = some (.slice none 0 0) := H3.out.2.2.at' 3
  have g0 : U3.frozen? ⟨P.r, 0, none⟩ = false := H3.out.2.2.frz 0
  have g1 : U3.frozen? ⟨P.r, 1, none⟩ = false := H3.out.2.2.frz 1
  have g2 : U3.frozen? ⟨P.r, 2, none⟩ = false := H3.out.2.2.frz 2
  have g3 : U3.frozen? ⟨P.r, 3, none⟩ = false := H3.out.2.2.frz 3
  have v4 := row_four H3.out.2.2 (.slice (some ⟨P.bx, 0, none⟩) D.box.length D.box.length) (.slice q.A3 D.out.length q.c3) (.int .i64 D.m.y) (.slice q.AF q.nF q.cF)
  have H4 := Lib.hid (⟨(but_or H3.out.1 (but_only v4.2)), v4.1⟩ : But (fun j => j = P.o ∨ j = P.r) w1 _ ∧ RowAt _ P.r [.slice (some ⟨P.bx, 0, none⟩) D.box.length D.box.length, .slice q.A3 D.out.length q.c3, .int .i64 D.m.y, .slice q.AF q.nF q.cF])
  clear v4
  go_wp2_with fail
  clear o0 o1 o2 o3 r0 r1 r2 r3 g0 g1 g2 g3
  generalize (World.setCell (World.setCell (World.setCell (World.setCell U3 ⟨P.r, 0, none⟩ (.slice (some ⟨P.bx, 0, none⟩) D.box.length D.box.length)) ⟨P.r, 1, none⟩ (.slice q.A3 D.out.length q.c3)) ⟨P.r, 2, none⟩ (.int .i64 D.m.y)) ⟨P.r, 3, none⟩ (.slice q.AF q.nF q.cF)) = U4 at *
  have s0 : U4.cell? ⟨P.r, 0, none⟩ = some (.slice (some ⟨P.bx, 0, none⟩) D.box.length D.box.length) := H4.out.2.at' 0
  have s1 : U4.cell? ⟨P.r, 1, none⟩ = some (.slice q.A3 D.out.length q.c3) := H4.out.2.at' 1
  have s2 : U4.cell? ⟨P.r, 2, none⟩ = some (.int .i64 D.m.y) := H4.out.2.at' 2
  have s3 : U4.cell? ⟨P.r, 3, none⟩ = some (.slice q.AF q.nF q.cF) := H4.out.2.at' 3
  have hnr := floats_no_r H.out.1
  have hl : RefLaid U4 ni D (.returned (.agg #[.slice (some ⟨P.bx, 0, none⟩) D.box.length D.box.length, .slice q.A3 D.out.length q.c3, .int .i64 D.m.y, .slice q.AF q.nF q.cF])) := by
    refine ⟨P.bx, q.A3, q.c3, q.AF, q.cF, by rw [HDb.out, H.out.1.hn], ?_, ?_, floats_but H.out.1.hx (Nat.le_refl _) H4.out.1 (fun ad e hl g => ?_)⟩
    · have := (mineE_but H.out.1.bo H4.out.1 (fun j e g => by
        have e : P.bx = j := Option.some.inj e
        rcases g with g | g
        · have := H.out.1.ap 2 0 P.bx (by decide) rfl (e.trans g); omega
        · have := H.out.1.ap 2 8 P.bx (by decide) rfl (e.trans g); omega)).mono (Nat.zero_le _)
      rw [HDb.out] at this
      exact this
    · exact (mineE_but H.out.1.li H4.out.1 (fun j e g => by
        rcases g with g | g
        · have := H.out.1.ap 3 0 j (by decide) e g; omega
        · have := H.out.1.ap 3 8 j (by decide) e g; omega)).mono (Nat.zero_le _)
    · rcases g with g | g
      · have := H.out.1.ap 0 6 ad.block (by decide) g ⟨Nat.lt_of_lt_of_eq hl H.out.1.hn.symm, by rw [e]; rfl⟩; omega
      · exact hnr ad e hl g
  exact bodyPost_ret (v := .agg #[.slice (some ⟨P.bx, 0, none⟩) D.box.length D.box.length, .slice q.A3 D.out.length q.c3, .int .i64 D.m.y, .slice q.AF q.nF q.cF]) (by simp [results, Tryz.results8, go_sem, s0, s1, s2, s3]) rfl ⟨hl, H.out.2.trans (H4.out.1.below H.out.2.size (fun j e => by
    rcases e with e | e
    · rw [e, ← HP.out.1]; exact H.out.1.b1
    · rw [e]; exact HP.out.2))⟩

end Go.Proofs.YtdibdfalahjmbaaGreat.Text
