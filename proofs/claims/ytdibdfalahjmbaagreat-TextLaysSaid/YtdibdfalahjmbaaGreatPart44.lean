
import Derived.Test.YtdibdfalahjmbaaGreatPart42
namespace Go.Proofs.YtdibdfalahjmbaaGreat.Text

open Go.RowKit Go.Sort Go.Proofs.YtdibdfalahjmbaaGreat.Rect Go.Proofs.YtdibdfalahjmbaaGreat.More Go.Proofs.YtdibdfalahjmbaaGreat.Shelf Go.Proofs.YtdibdfalahjmbaaGreat.Space Go.Proofs.YtdibdfalahjmbaaGreat.Place Go.Proofs.YtdibdfalahjmbaaGreat.Line

set_option linter.unusedVariables false

set_option linter.unusedSimpArgs false

set_option maxRecDepth 100000 in
set_option maxHeartbeats 800000 in
theorem b_off {w0 : World} {f t : Int} {AI : Option Addr} {ni ci : Nat} {P : RFast} {q : RLoose} {s : Ly} {its : List It} {a : Act} {w : World} {k : Nat} (h : AtS w0 f t AI ni ci P q s k a w) (E : Env w0 AI ni P its) (hk : its.length ≤ k ∨ (k < its.length ∧ (itAt its k).sd = 0)) :
    Code.wp Tryz.prog cB (Goes .normal fun a' w' => ∃ q', AtS w0 f t AI ni ci P q' (s) k a' w') a w := by
  refine wp_goes fun Q hQ => ?_
  have HQ := Lib.hid hQ
  clear hQ
  have HD := Lib.hid (⟨h.d, h.b⟩ : Dat w P q s ∧ Below w0.heap.size w0 w)
  refine h.fr.open (C := fun a => Code.wp Tryz.prog cB Q a w) ?_
  clear h
  intros
  conv => arg 2; whnf
  have hk1 := hk
  clear hk
  by_cases hk : k < its.length
  · have hsd : (itAt its k).sd = 0 := hk1.elim (fun g => absurd hk (by omega)) fun g => g.2
    clear hk1
    obtain ⟨x, hx⟩ : ∃ x, itAt its k = x := ⟨_, rfl⟩
    obtain ⟨ad, rfl, hadb, d0, d1, d2, d3⟩ := E.item hk HD.out.2
    rw [hx] at d0 d1 d2 d3
    have HAd := Lib.hid (⟨hadb, d0, d1, d2, d3⟩ : ad.block < w.heap.size ∧ AtI w (ad.add (k * 4)) x)
    have HK := Lib.hid (⟨hk, hx, E.right hk hx, E.n30, E.hn⟩ : k < its.length ∧ itAt its k = x ∧ RightI x ∧ its.length ≤ 30 ∧ ni = its.length)
    have HE := Lib.hid E
    have hki : (k : Int) < (ni : Int) := by have := E.hn; omega
    have hk0 : ¬ (k : Int) < 0 := by omega
    have hwk : IntKind.i64.wrap ((k : Int) + 1) = (k : Int) + 1 := IntWalk.i64_in _ (by have := E.hn; have := E.n30; omega)
    clear hadb hk hx E
    have hb0 : (x.sd == 0) = true := by rw [← HK.out.2.1, hsd]; rfl
    have hb1 : (x.sd != 0) = false := by rw [← HK.out.2.1, hsd]; rfl
    have HSd := Lib.hid (HK.out.2.1 ▸ hsd : x.sd = 0)
    clear hsd
    go_wp2_with fail
    exact HQ.out _ _ ⟨q, ⟨⟨rfl, rfl, rfl, rfl, rfl, rfl, rfl, rfl, rfl, rfl, rfl⟩, HD.out.1, HD.out.2⟩⟩
  · have hki : ¬ (k : Int) < (ni : Int) := by have := E.hn; omega
    clear E hk hk1
    go_wp2_with fail
    exact HQ.out _ _ ⟨q, ⟨⟨rfl, rfl, rfl, rfl, rfl, rfl, rfl, rfl, rfl, rfl, rfl⟩, HD.out.1, HD.out.2⟩⟩

set_option maxRecDepth 100000 in
set_option maxHeartbeats 800000 in
theorem b_put {w0 : World} {f t : Int} {AI : Option Addr} {ni ci : Nat} {P : RFast} {q : RLoose} {s : Ly} {its : List It} {a : Act} {w : World} {k : Nat} (h : AtS w0 f t AI ni ci P q s k a w) (E : Env w0 AI ni P its) (hA : Able its 140737488355328 k s) (hf : s.m.f = f) (ht : s.m.t = t) (hk : k < its.length) (hsd : (itAt its k).sd ≠ 0) (hm : s.m.az = []) :
    Code.wp Tryz.prog cB (Goes (.exit 1) fun a' w' => ∃ q', AtS w0 f t AI ni ci P q' (s.putN its k) k a' w') a w := by
  have hX : wantAt its s.m k s.m.y = (itAt its k).want f t s.m.y := by unfold wantAt; rw [hf, ht]
  have hlo := hA.low
  have hz1 := hA.hz
  have hX1 : RightW (wantAt its s.m k s.m.y) := (itAt_right hA.hr hk).want hsd hlo.f1 hlo.f2 hlo.t1 hlo.t2 hlo.ft hlo.y1 (by have := hlo.y2; have := E.n30; omega)
  have h49 : s.m.fs.all near49 = true := nearZ_49 hlo.fl (by have := E.n30; omega)
  obtain ⟨r, hr⟩ : ∃ r, placed s.m.fs (wantAt its s.m k s.m.y) = r := ⟨_, rfl⟩
  have hrs : r.s = (itAt its k).sd := by rw [← hr]; rfl
  have HFi := Lib.hid (fun w1 (d : Dat w1 P q s) => show Calls Tryz.prog 22 #[.slice q.AF q.nF q.cF, (wantAt its s.m k s.m.y).v] w1 (fun e w' => e = .returned (Fl.box r) ∧ Below w1.heap.size w1 w') from by
    have := reffind_any q.AF q.nF q.cF s.m.fs (wantAt its s.m k s.m.y) w1 d.hn (by have := d.hn; have := hA.fs; omega) d.hx h49 hX1
    rw [← hr]
    exact this)
  have HP := Lib.hid (show s.putN its k = { s with m := { s.m with fs := s.m.fs ++ [r] }, box := s.box.set k (bxOf r) } by unfold Ly.putN putK putM; dsimp only; rw [hr])
  have HBl := Lib.hid (⟨hA.kp.bl, by have := h.d.hn; have := hA.fs; omega⟩ : s.box.length = its.length ∧ q.nF ≤ 1000)
  rw [hX] at HFi
  clear hX hlo hz1 hX1 h49 hr
  refine wp_goes fun Q hQ => ?_
  have HQ := Lib.hid hQ
  clear hQ
  have HD := Lib.hid (⟨h.d, h.b⟩ : Dat w P q s ∧ Below w0.heap.size w0 w)
  refine h.fr.open (C := fun a => Code.wp Tryz.prog cB Q a w) ?_
  clear h
  intros
  conv => arg 2; whnf
  obtain ⟨x, hx⟩ : ∃ x, itAt its k = x := ⟨_, rfl⟩
  obtain ⟨ad, rfl, hadb, d0, d1, d2, d3⟩ := E.item hk HD.out.2
  rw [hx] at d0 d1 d2 d3
  have HAd := Lib.hid (⟨hadb, d0, d1, d2, d3⟩ : ad.block < w.heap.size ∧ AtI w (ad.add (k * 4)) x)
  have HK := Lib.hid (⟨hk, hx, E.right hk hx, E.n30, E.hn⟩ : k < its.length ∧ itAt its k = x ∧ RightI x ∧ its.length ≤ 30 ∧ ni = its.length)
  have HE := Lib.hid E
  have hki : (k : Int) < (ni : Int) := by have := E.hn; omega
  have hk0 : ¬ (k : Int) < 0 := by omega
  have hwk : IntKind.i64.wrap ((k : Int) + 1) = (k : Int) + 1 := IntWalk.i64_in _ (by have := E.hn; have := E.n30; omega)
  have HRs := Lib.hid (show r.s = x.sd by rw [hrs, hx])
  rw [hx] at HFi
  clear hadb hk hx E hrs
  have hsd' : ¬ x.sd = 0 := HK.out.2.1 ▸ hsd
  have hb0 : (x.sd == 0) = false := by simp [hsd']
  have hb1 : (x.sd != 0) = true := by simp [hsd']
  have HSd := Lib.hid hsd'
  clear hsd hsd'
  have hz0 : (q.nZ : Int) = 0 := by have := HD.out.1.hn2; rw [hm] at this; exact congrArg Nat.cast this
  clear hm hA hf ht
  have c5 : w.cell? ⟨P.m, 5, none⟩ = some (.slice q.AZ q.nZ q.cZ) := HD.out.1.m.at' 5
  go_upto_region 14 with fail
  clear d0 d1 d2 d3 c5 hz0
  have HC := Lib.hid (fun w' (i : Below w.heap.size w w') => show Dat w' P q s ∧ AtI w' (ad.add (k * 4)) x from ⟨HD.out.1.below i, HAd.out.2.below (by rw [block_of_add]; exact HAd.out.1) i⟩)
  refine Hold.wp_region_hold [.val (.slice (some ad) ni ci), .val (.int .i64 (k : Int)), .val (.pointer (some (ad.add (k * 4)))), .val (.agg #[.int .i64 x.sd, .int .i64 x.cl, .int .i64 x.wd, .int .i64 x.ht]), .val (.int .i64 f), .val (.int .i64 t), .val (.pointer (some ⟨P.m, 3, none⟩)), .val (.int .i64 s.m.y), .val (.agg #[.int .i64 x.sd, .int .i64 x.cl, .int .i64 f, .int .i64 t, .int .i64 x.wd, .int .i64 x.ht, .int .i64 s.m.y]), .some (FreshR w [.int .i64 0, .int .i64 0, .int .i64 0, .int .i64 0, .int .i64 0, .int .i64 0, .int .i64 0] 84)] (by kernel_rfl) (by kernel_rfl) (by kernel_rfl) ?_ ?_
  · simp only [Hold.fill, Hold.Leave.value]
    refine ⟨?_, ?_, ?_, ?_, ?_, ?_, ?_, ?_, ?_, ?_, trivial⟩
    · intro gg w' hw hk
      go_simp
      exact ⟨rfl, rfl⟩
    · intro gg w' hw hk
      go_simp
      exact ⟨rfl, rfl⟩
    · intro gg w' hw hk
      go_simp
      exact ⟨rfl, rfl⟩
    · intro gg w' hw hk
      have q0 : w'.cell? (ad.add (k * 4)) = some (.int .i64 x.sd) := (HC.out w' hw).2.1
      have q1 : w'.cell? ⟨(ad.add (k * 4)).block, (ad.add (k * 4)).off + 1, none⟩ = some (.int .i64 x.cl) := (HC.out w' hw).2.2.1
      have q2 : w'.cell? ⟨(ad.add (k * 4)).block, (ad.add (k * 4)).off + 2, none⟩ = some (.int .i64 x.wd) := (HC.out w' hw).2.2.2.1
      have q3 : w'.cell? ⟨(ad.add (k * 4)).block, (ad.add (k * 4)).off + 3, none⟩ = some (.int .i64 x.ht) := (HC.out w' hw).2.2.2.2
      go_simp
      exact ⟨rfl, rfl⟩
    · intro gg w' hw hk
      go_simp
      exact ⟨rfl, rfl⟩
    · intro gg w' hw hk
      go_simp
      exact ⟨rfl, rfl⟩
    · intro gg w' hw hk
      go_simp
      exact ⟨rfl, rfl⟩
    · intro gg w' hw hk
      have q0 : w'.cell? ⟨P.m, 3, none⟩ = some (.int .i64 s.m.y) := ((HC.out w' hw).1.m).at' 3
      go_simp
      exact ⟨rfl, rfl⟩
    · intro gg w' hw hk
      go_simp
      exact Hold.stays_call (rwant_any x f t s.m.y w')
    · refine ⟨freshR_keeps _ _ _ (by simp), fun gg w' hw hk => ?_⟩
      have hsz := hw.size
      go_simp
      exact ⟨ba1 _ _, freshR_new w w' [.int .i64 0, .int .i64 0, .int .i64 0, .int .i64 0, .int .i64 0, .int .i64 0, .int .i64 0] 84 hsz⟩
  intro gg w4 k4 hgg
  simp only [Hold.fill, Hold.Leave.value, List.length_cons, List.length_nil, List.drop_succ_cons, List.drop_zero]
  have h9 := hgg 9 _ rfl
  obtain ⟨b18, e9, z9, g9, t9⟩ := h9
  rw [e9]
  clear hgg e9
  have q0 : w4.cell? ⟨b18, 0, none⟩ = some (.int .i64 0) := z9.at' 0
  have f0 : w4.frozen? ⟨b18, 0, none⟩ = false := z9.frz 0
  have q1 : w4.cell? ⟨b18, 1, none⟩ = some (.int .i64 0) := z9.at' 1
  have f1 : w4.frozen? ⟨b18, 1, none⟩ = false := z9.frz 1
  have q2 : w4.cell? ⟨b18, 2, none⟩ = some (.int .i64 0) := z9.at' 2
  have f2 : w4.frozen? ⟨b18, 2, none⟩ = false := z9.frz 2
  have q3 : w4.cell? ⟨b18, 3, none⟩ = some (.int .i64 0) := z9.at' 3
  have f3 : w4.frozen? ⟨b18, 3, none⟩ = false := z9.frz 3
  have q4 : w4.cell? ⟨b18, 4, none⟩ = some (.int .i64 0) := z9.at' 4
  have f4 : w4.frozen? ⟨b18, 4, none⟩ = false := z9.frz 4
  have q5 : w4.cell? ⟨b18, 5, none⟩ = some (.int .i64 0) := z9.at' 5
  have f5 : w4.frozen? ⟨b18, 5, none⟩ = false := z9.frz 5
  have q6 : w4.cell? ⟨b18, 6, none⟩ = some (.int .i64 0) := z9.at' 6
  have f6 : w4.frozen? ⟨b18, 6, none⟩ = false := z9.frz 6
  have v9 := row_seven z9 (.int .i64 x.sd) (.int .i64 x.cl) (.int .i64 f) (.int .i64 t) (.int .i64 x.wd) (.int .i64 x.ht) (.int .i64 s.m.y)
  have HV9 := Lib.hid (⟨v9.1, k4.trans ((but_only v9.2).below k4.size (fun j e => by rw [e]; exact g9))⟩ : RowAt _ b18 [.int .i64 x.sd, .int .i64 x.cl, .int .i64 f, .int .i64 t, .int .i64 x.wd, .int .i64 x.ht, .int .i64 s.m.y] ∧ Below w.heap.size w _)
  clear v9 z9 g9 t9 k4 HC
  go_upto_region 15 with fail
  clear q0 q1 q2 q3 q4 q5 q6 f0 f1 f2 f3 f4 f5 f6
  generalize (World.setCell (World.setCell (World.setCell (World.setCell (World.setCell (World.setCell (World.setCell w4 ⟨b18, 0, none⟩ (.int .i64 x.sd)) ⟨b18, 1, none⟩ (.int .i64 x.cl)) ⟨b18, 2, none⟩ (.int .i64 f)) ⟨b18, 3, none⟩ (.int .i64 t)) ⟨b18, 4, none⟩ (.int .i64 x.wd)) ⟨b18, 5, none⟩ (.int .i64 x.ht)) ⟨b18, 6, none⟩ (.int .i64 s.m.y)) = V at *
  have q0 : V.cell? ⟨b18, 0, none⟩ = some (.int .i64 x.sd) := HV9.out.1.at' 0
  have q1 : V.cell? ⟨b18, 1, none⟩ = some (.int .i64 x.cl) := HV9.out.1.at' 1
  have q2 : V.cell? ⟨b18, 2, none⟩ = some (.int .i64 f) := HV9.out.1.at' 2
  have q3 : V.cell? ⟨b18, 3, none⟩ = some (.int .i64 t) := HV9.out.1.at' 3
  have q4 : V.cell? ⟨b18, 4, none⟩ = some (.int .i64 x.wd) := HV9.out.1.at' 4
  have q5 : V.cell? ⟨b18, 5, none⟩ = some (.int .i64 x.ht) := HV9.out.1.at' 5
  have q6 : V.cell? ⟨b18, 6, none⟩ = some (.int .i64 s.m.y) := HV9.out.1.at' 6
  have DV := HD.out.1.below HV9.out.2
  have c0 : V.cell? ⟨P.m, 0, none⟩ = some (.slice q.AF q.nF q.cF) := DV.m.at' 0
  have HF1 := Lib.hid (HFi.out V DV)
  clear DV
  go_upto_region 16 with (first
    | (go_at_call 22; refine HF1.out.mono ?_; rintro e w6 ⟨rfl, k6⟩; have K6 := Lib.hid k6; clear k6))
  clear q0 q1 q2 q3 q4 q5 q6 c0 HF1 HFi
  generalize hW7 : World.alloc w6 _ = W7
  obtain ⟨b19, hb19⟩ : ∃ b19, w6.heap.size = b19 := ⟨_, rfl⟩
  have k7 : Below w6.heap.size w6 W7 := by rw [← hW7]; exact ba1 _ _
  have a7 : RowAt W7 b19 (frow r) := by rw [← hW7, ← hb19]; exact RowAt.new w6 _ _
  rw [hb19]
  have kk := thru (thru HV9.out.2 K6.out) k7
  have H7 := Lib.hid (⟨HD.out.1.below kk, HD.out.2.trans (kk.mono HD.out.2.size), a7, HAd.out.2.below (by rw [block_of_add]; exact HAd.out.1) kk, by have := HD.out.1.low 2 P.bx rfl; have := kk.size; have := (thru HV9.out.2 K6.out).size; omega⟩ : Dat W7 P q s ∧ Below w0.heap.size w0 W7 ∧ RowAt W7 b19 (frow r) ∧ AtI W7 (ad.add (k * 4)) x ∧ b19 ≠ P.bx)
  clear hW7 k7 a7 kk hb19 K6 HV9
  have hkb : (k : Int) < (s.box.length : Int) := by have := HBl.out.1; have := HK.out.1; omega
  obtain ⟨bo, hbo, d0, d1, d2, d3, fz⟩ := box_cells H7.out.1.bo (k := k) (by have := HBl.out.1; have := HK.out.1; omega)
  have f0 := fz (k * 4)
  have f1 := fz (k * 4 + 1)
  have f2 := fz (k * 4 + 2)
  have f3 := fz (k * 4 + 3)
  have o0 : W7.cell? ⟨P.o, 0, none⟩ = some (.slice (some ⟨P.bx, 0, none⟩) s.box.length s.box.length) := H7.out.1.o.at' 0
  have r0 : W7.cell? ⟨b19, 0, none⟩ = some (.int .i64 r.l) := H7.out.2.2.1.at' 0
  have r1 : W7.cell? ⟨b19, 1, none⟩ = some (.int .i64 r.t) := H7.out.2.2.1.at' 1
  have r2 : W7.cell? ⟨b19, 2, none⟩ = some (.int .i64 r.r) := H7.out.2.2.1.at' 2
  have r3 : W7.cell? ⟨b19, 3, none⟩ = some (.int .i64 r.b) := H7.out.2.2.1.at' 3
  clear hbo fz
  go_upto_region 17 with fail
  clear d0 d1 d2 d3 f0 f1 f2 f3 o0 r0 r1 r2 r3 hkb
  have hb8 : MineE encB 44 (World.setCell (World.setCell (World.setCell (World.setCell W7 ⟨P.bx, k * 4, none⟩ (.int .i64 r.l)) ⟨P.bx, k * 4 + 1, none⟩ (.int .i64 r.t)) ⟨P.bx, k * 4 + 2, none⟩ (.int .i64 r.r)) ⟨P.bx, k * 4 + 3, none⟩ (.int .i64 r.b)) P.B (some ⟨P.bx, 0, none⟩) s.box.length s.box.length (s.box.set k (bxOf r)) ∧ But (fun j => j = P.bx) W7 (World.setCell (World.setCell (World.setCell (World.setCell W7 ⟨P.bx, k * 4, none⟩ (.int .i64 r.l)) ⟨P.bx, k * 4 + 1, none⟩ (.int .i64 r.t)) ⟨P.bx, k * 4 + 2, none⟩ (.int .i64 r.r)) ⟨P.bx, k * 4 + 3, none⟩ (.int .i64 r.b)) := mineB_put H7.out.1.bo (k := k) (by have := HBl.out.1; have := HK.out.1; omega) (bxOf r)
  have HB8 := Lib.hid hb8
  clear hb8
  generalize (World.setCell (World.setCell (World.setCell (World.setCell W7 ⟨P.bx, k * 4, none⟩ (.int .i64 r.l)) ⟨P.bx, k * 4 + 1, none⟩ (.int .i64 r.t)) ⟨P.bx, k * 4 + 2, none⟩ (.int .i64 r.r)) ⟨P.bx, k * 4 + 3, none⟩ (.int .i64 r.b)) = V8 at *
  have D8 := H7.out.1.boxed (bs := s.box.set k (bxOf r)) List.length_set HB8.out.1 HB8.out.2
  have hBB : w0.heap.size ≤ P.bx := by rw [← HE.out.hB]; exact H7.out.1.high 2 P.bx (by decide) rfl
  have A8 : AtI V8 (ad.add (k * 4)) x := HE.out.item HK.out.1 (H7.out.2.1.trans (HB8.out.2.below H7.out.2.1.size (fun j e => by rw [e]; exact hBB))) |>.elim fun ad' h => by
    have e : some ad = some ad' := h.1
    have e := Option.some.inj e
    rw [e, ← HK.out.2.1]
    exact h.2.2
  have H8 := Lib.hid (⟨D8, H7.out.2.1.trans (HB8.out.2.below H7.out.2.1.size (fun j e => by rw [e]; exact hBB)), H7.out.2.2.1.but (by simp) HB8.out.2 H7.out.2.2.2.2, A8, HAd.out.1⟩ : Dat V8 P q { s with box := s.box.set k (bxOf r) } ∧ Below w0.heap.size w0 V8 ∧ RowAt V8 b19 (frow r) ∧ AtI V8 (ad.add (k * 4)) x ∧ ad.block < w.heap.size)
  clear D8 hBB A8 HB8
  have hbb : ad.block < V8.heap.size := (HE.out.item HK.out.1 H8.out.2.1).elim fun ad' h => by
    have e : some ad = some ad' := h.1
    have e := Option.some.inj e
    rw [e]
    exact h.2.1
  have HbV := Lib.hid hbb
  clear hbb
  have HC := Lib.hid (fun w' (kb' : Below V8.heap.size V8 w') => show Dat w' P q { s with box := s.box.set k (bxOf r) } ∧ RowAt w' b19 (frow r) ∧ AtI w' (ad.add (k * 4)) ⟨r.s, x.cl, x.wd, x.ht⟩ from ⟨H8.out.1.below kb', H8.out.2.2.1.below (by simp) kb', by
    have := H8.out.2.2.2.1.below (by rw [block_of_add]; exact HbV.out) kb'
    rw [HRs.out]
    exact this⟩)
  refine Hold.wp_region_hold [.some (Emp V8.heap.size), .val (.pointer (some ⟨P.m, 0, none⟩)), .val (.slice q.AF q.nF q.cF), .some (Own s.m.fs q.nF V8.heap.size), .val (.slice (some ad) ni ci), .val (.int .i64 (k : Int)), .val (.pointer (some (ad.add (k * 4)))), .val (.pointer (some (ad.add (k * 4)))), .val (.int .i64 r.s), .val (.agg #[.int .i64 r.l, .int .i64 r.t, .int .i64 r.r, .int .i64 r.b]), .val (.agg #[.int .i64 r.s, .int .i64 r.l, .int .i64 r.t, .int .i64 r.r, .int .i64 r.b]), .some (Own [r] 1 V8.heap.size)] (by kernel_rfl) (by kernel_rfl) (by kernel_rfl) ?_ ?_
  · simp only [Hold.fill, Hold.Leave.value]
    refine ⟨?_, ?_, ?_, ?_, ?_, ?_, ?_, ?_, ?_, ?_, ?_, ?_, trivial⟩
    · refine ⟨emp_keeps _, fun gg w' hw hk => ?_⟩
      go_simp
      exact ⟨ba1 _ _, _, rfl, emptyE_mine encF 56 w' V8.heap.size hw.size, by have := hw.size; simp; omega⟩
    · intro gg w' hw hk
      go_simp
      exact ⟨rfl, rfl⟩
    · intro gg w' hw hk
      have q0 : w'.cell? ⟨P.m, 0, none⟩ = some (.slice q.AF q.nF q.cF) := ((HC.out w' hw).1.m).at' 0
      go_simp
      exact ⟨rfl, rfl⟩
    · refine ⟨own_keeps _ _ _, fun gg w' hw hk => ?_⟩
      have h1 := hk ⟨0, .data⟩ (by simp) rfl _ rfl
      have hg : ∃ b, gg 0 = .slice (some ⟨b, 0, none⟩) 0 0 ∧ MineE encF 56 w' V8.heap.size (some ⟨b, 0, none⟩) 0 0 [] := by
        obtain ⟨b, q1, q2, q3⟩ := h1
        exact ⟨b, q1, q2⟩
      clear h1 hk
      have hsrc : SrcE encF w' q.AF q.nF q.cF s.m.fs := src_all (HC.out w' hw).1.hx (HC.out w' hw).1.hn (HC.out w' hw).1.fn
      have hnb : q.nF ≤ 1000 := HBl.out.2
      have key : ∀ b, gg 0 = .slice (some ⟨b, 0, none⟩) 0 0 → MineE encF 56 w' V8.heap.size (some ⟨b, 0, none⟩) 0 0 [] → ∃ A' c' w'', (Builtin.append_ #[22, 22] 22 #[gg 0, .slice q.AF q.nF q.cF]).run Tryz.prog w' = .ok (.slice A' q.nF c') w'' ∧ MineE encF 56 w'' V8.heap.size A' q.nF c' s.m.fs ∧ Below w'.heap.size w' w'' := fun b q1 q2 => by
        rw [q1]
        exact run_append_fresh (E := encF) infoF _ w' V8.heap.size b q2 q.AF q.nF q.cF s.m.fs hsrc (by simp only [maxLen]; omega) (by omega) hw.size
      have hk2 := hg.elim fun b q => key b q.1 q.2
      clear key hg hsrc
      refine gives_append (.tmp 115) (.tmp 117) rfl (gg 0) (.slice q.AF q.nF q.cF) ?_ ?_ ?_
      · go_simp
      · go_simp
      · have hsz := hw.size
        exact hk2.elim fun A' h => h.elim fun c' h => h.elim fun w'' h => ⟨_, w'', h.1, h.2.2, A', c', rfl, h.2.1, Nat.le_trans hsz h.2.2.size⟩
    · intro gg w' hw hk
      go_simp
      exact ⟨rfl, rfl⟩
    · intro gg w' hw hk
      go_simp
      exact ⟨rfl, rfl⟩
    · intro gg w' hw hk
      go_simp
      exact ⟨rfl, rfl⟩
    · intro gg w' hw hk
      go_simp
      exact ⟨rfl, rfl⟩
    · intro gg w' hw hk
      have q0 : w'.cell? (ad.add (k * 4)) = some (.int .i64 r.s) := (HC.out w' hw).2.2.1
      go_simp
      exact ⟨rfl, rfl⟩
    · intro gg w' hw hk
      have q0 : w'.cell? ⟨b19, 0, none⟩ = some (.int .i64 r.l) := ((HC.out w' hw).2.1).at' 0
      have q1 : w'.cell? ⟨b19, 1, none⟩ = some (.int .i64 r.t) := ((HC.out w' hw).2.1).at' 1
      have q2 : w'.cell? ⟨b19, 2, none⟩ = some (.int .i64 r.r) := ((HC.out w' hw).2.1).at' 2
      have q3 : w'.cell? ⟨b19, 3, none⟩ = some (.int .i64 r.b) := ((HC.out w' hw).2.1).at' 3
      go_simp
      exact ⟨rfl, rfl⟩
    · intro gg w' hw hk
      go_simp
      exact ⟨rfl, rfl⟩
    · refine ⟨own_keeps _ _ _, fun gg w' hw hk => ?_⟩
      have hsz := hw.size
      go_simp
      exact ⟨ba1 _ _, _, _, rfl, oneF w' V8.heap.size hsz r, by simp; omega⟩
  intro gg w9 k9 hgg
  simp only [Hold.fill, Hold.Leave.value, List.length_cons, List.length_nil, List.drop_succ_cons, List.drop_zero]
  have h2 := hgg 3 _ rfl
  have h4 := hgg 11 _ rfl
  obtain ⟨A1, c1, q1, m1, b1⟩ := h2
  obtain ⟨A2', c2', q2, m2, b2⟩ := h4
  obtain ⟨g2, rfl, -, -, -, -⟩ := m2.form (by omega)
  rw [q1, q2]
  have M1 := Lib.hid m1
  have M2 := Lib.hid m2
  have K9 := Lib.hid k9
  clear hgg q1 q2 m1 m2 b1 b2 k9
  refine wpList_append_wideE infoF _ rfl (.tmp 118) (.tmp 126) rfl V8.heap.size A1 q.nF c1 s.m.fs (by go_simp) M1.out ⟨g2, 0, none⟩ 1 c2' [r] (by go_simp) (MineE.src M2.out) (by have := HBl.out.2; simp only [maxLen]; omega) (by have := HBl.out.2; omega) K9.out.size ?_
  intro A3 c3 w10 h3
  have M3 := Lib.hid (⟨h3.1, AppendedE.below h3 M1.out K9.out (Nat.le_refl _) K9.out.size⟩ : MineE encF 56 w10 V8.heap.size A3 (q.nF + 1) c3 (s.m.fs ++ [r]) ∧ Below V8.heap.size V8 w10)
  clear h3 M1 M2 K9
  have g6 := (H8.out.1.below M3.out.2).m
  have f0 : w10.frozen? ⟨P.m, 0, none⟩ = false := g6.frz 0
  have e0 : w10.cell? ⟨P.m, 0, none⟩ = some (.slice q.AF q.nF q.cF) := g6.at' 0
  have HU := Lib.hid (H8.out.1.floated M3.out.1 M3.out.2)
  clear g6 HC
  go_wp2_with fail
  refine HQ.out _ _ ?_
  rw [HP.out]
  exact ⟨{ q with AF := A3, nF := q.nF + 1, cF := c3 }, ⟨⟨rfl, rfl, rfl, rfl, rfl, rfl, rfl, rfl, rfl, rfl, rfl⟩, HU.out.1, H8.out.2.1.trans (by have := HU.out.2; rw [HE.out.hB] at this; exact this)⟩⟩

end Go.Proofs.YtdibdfalahjmbaaGreat.Text
