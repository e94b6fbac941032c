
import Derived.Test.YtdibdfalahjmbaaGreatPart42
namespace Go.Proofs.YtdibdfalahjmbaaGreat.Text

open Go.RowKit Go.Sort Go.Proofs.YtdibdfalahjmbaaGreat.Rect Go.Proofs.YtdibdfalahjmbaaGreat.More Go.Proofs.YtdibdfalahjmbaaGreat.Shelf Go.Proofs.YtdibdfalahjmbaaGreat.Space Go.Proofs.YtdibdfalahjmbaaGreat.Place Go.Proofs.YtdibdfalahjmbaaGreat.Line

set_option linter.unusedVariables false

set_option linter.unusedSimpArgs false

theorem putAll_ft (its : List It) (l : List Nat) : ∀ p : Mk × List Bx, (putAll its l p).1.f = p.1.f ∧ (putAll its l p).1.t = p.1.t := by
  induction l with
  | nil => intro p; exact ⟨rfl, rfl⟩
  | cons k l ih => intro p; exact ih (putK its p k)

theorem mid_ft {its : List It} {s : Ly} (hm : s.m.az ≠ []) (j : Nat) : (s.mid its j).m.f = s.m.f ∧ (s.mid its j).m.t = s.m.t := by
  have h := putAll_ft its (s.wait.take j) (s.m.fin, setRow its s.m.top s.m.l s.row s.box)
  have e := fin_some hm
  refine ⟨h.1.trans ?_, h.2.trans ?_⟩
  · show s.m.fin.f = s.m.f; rw [e]
  · show s.m.fin.t = s.m.t; rw [e]

theorem mid_fl {its : List It} {s : Ly} (hm : s.m.az ≠ []) (j : Nat) : (s.mid its j).m.fs.length ≤ s.m.fs.length + s.wait.length := by
  have h := mid_fs its (s.wait.take j) (s.m.fin, setRow its s.m.top s.m.l s.row s.box)
  have e : s.m.fin.fs = s.m.fs := by rw [fin_some hm]
  have e2 : (s.mid its j).m.fs.length = s.m.fin.fs.length + (s.wait.take j).length := h
  rw [e, List.length_take] at e2
  omega

set_option maxRecDepth 100000 in
set_option maxHeartbeats 800000 in
theorem d_off {w0 : World} {f t : Int} {AI : Option Addr} {ni ci : Nat} {P : RFast} {q : RLoose} {s : Ly} {its : List It} {a : Act} {w : World} {k : Int} (h : AtS w0 f t AI ni ci P q s k a w) (hw : s.wait = []) :
    Code.wp Tryz.prog cD (Goes .normal fun a' w' => ∃ q', AtS w0 f t AI ni ci P q' (s) k a' w') a w := by
  refine wp_goes fun Q hQ => ?_
  have HQ := Lib.hid hQ
  clear hQ
  have HD := Lib.hid (⟨h.d, h.b⟩ : Dat w P q s ∧ Below w0.heap.size w0 w)
  refine h.fr.open (C := fun a => Code.wp Tryz.prog cD Q a w) ?_
  clear h
  intros
  conv => arg 2; whnf
  have HW := Lib.hid hw
  have hw0 : (s.wait.length : Int) = 0 := by rw [hw]; rfl
  clear hw
  go_wp2_with fail
  go_loopw [216] (fun i wr => i = .int .i64 0 ∧ wr = w) (fun _ _ => 0)
  case atStart => exact ⟨rfl, rfl⟩
  case round =>
    obtain ⟨rfl, rfl⟩ := hrel
    go_wp2_with fail
    exact HQ.out _ _ ⟨q, ⟨⟨rfl, rfl, rfl, rfl, rfl, rfl, rfl, rfl, rfl, rfl, rfl⟩, HD.out.1, HD.out.2⟩⟩

set_option maxRecDepth 100000 in
set_option maxHeartbeats 800000 in
theorem d_any {w0 : World} {f t : Int} {AI : Option Addr} {ni ci : Nat} {P : RFast} {q : RLoose} {s : Ly} {its : List It} {a : Act} {w : World} {k kk : Nat} (h : AtS w0 f t AI ni ci P q (s.mid its 0) k a w) (E : Env w0 AI ni P its) (hA : Able its 140737488355328 kk s) (hm : s.m.az ≠ []) (hf : s.m.f = f) (ht : s.m.t = t) (hw : s.wait ≠ []) :
    Code.wp Tryz.prog cD (Goes .normal fun a' w' => ∃ q', AtS w0 f t AI ni ci P q' (s.mid its s.wait.length) k a' w') a w := by
  have hwt : ∀ i ∈ s.wait, i < its.length ∧ (itAt its i).sd ≠ 0 := fun i hi => by
    have h1 := hA.kp.wt i hi
    have h2 := hA.hk
    exact ⟨by omega, h1.2⟩
  obtain ⟨i0, hi0⟩ := List.exists_mem_of_ne_nil _ hw
  obtain ⟨ad, rfl, -⟩ := E.item (k := i0) (hwt i0 hi0).1 h.b
  have HL := Lib.hid (⟨hwt, by have := hA.fs; omega, E.n30, E.hn, hA.hr, hA.hz⟩ : (∀ i ∈ s.wait, i < its.length ∧ (itAt its i).sd ≠ 0) ∧ s.m.fs.length + s.wait.length ≤ 1000 ∧ its.length ≤ 30 ∧ ni = its.length ∧ (∀ x ∈ its, RightI x) ∧ (140737488355328 : Int) + 2147483648 * (its.length : Int) ≤ 140737488355328 + 140000000000000)
  have HMl := Lib.hid (fun j (hj : j ≤ s.wait.length) => (⟨(mid_lo hA hm hj).1, (mid_lo hA hm hj).2, (mid_ft hm j).1.trans hf, (mid_ft hm j).2.trans ht, mid_fl hm j⟩ : Lo ((140737488355328 : Int) + 2147483648 * (its.length : Int)) (s.mid its j).m ∧ (s.mid its j).box.length = its.length ∧ (s.mid its j).m.f = f ∧ (s.mid its j).m.t = t ∧ (s.mid its j).m.fs.length ≤ s.m.fs.length + s.wait.length))
  have hwa0 : MineE encN 3 w P.B q.A2 s.wait.length q.c2 s.wait := h.d.wa
  obtain ⟨g2, hg2, -⟩ := hwa0.form (by have := List.length_pos_iff.2 hw; omega)
  have HG := Lib.hid hg2
  have HE := Lib.hid E
  clear hwt hi0 hwa0 hg2 hA hm hf ht E hw
  refine wp_goes fun Q hQ => ?_
  have HQ := Lib.hid hQ
  clear hQ
  have HD := Lib.hid (⟨h.d, h.b⟩ : Dat w P q (s.mid its 0) ∧ Below w0.heap.size w0 w)
  refine h.fr.open (C := fun a => Code.wp Tryz.prog cD Q a w) ?_
  clear h
  intros
  conv => arg 2; whnf
  obtain ⟨n, hn⟩ : ∃ n, s.wait.length = n := ⟨_, rfl⟩
  rw [show (s.mid its 0).wait.length = n from hn]
  have HNw := Lib.hid hn
  clear hn
  go_wp2_with fail
  rw [HG.out]
  go_loopw [216] (fun v wr => ∃ (j : Nat) (qj : RLoose), j ≤ n ∧ v = .int .i64 (j : Int) ∧ Hid (Dat wr P qj (s.mid its j) ∧ Below w0.heap.size w0 wr ∧ (qj.A1 = q.A1 ∧ qj.c1 = q.c1 ∧ qj.A2 = q.A2 ∧ qj.c2 = q.c2))) (fun v _ => n - (intOf v).toNat)
  case atStart => exact ⟨0, q, Nat.zero_le _, rfl, Lib.hid ⟨HD.out.1, HD.out.2, rfl, rfl, rfl, rfl⟩⟩
  case round =>
    obtain ⟨j, qj, hj, rfl, H⟩ := hrel
    by_cases hlt : j < n
    · have hji : (j : Int) < (n : Int) := by omega
      have hj0 : ¬ (j : Int) < 0 := by omega
      have hwj : IntKind.i64.wrap ((j : Int) + 1) = (j : Int) + 1 := by have := HNw.out; have := HL.out.2.1; exact IntWalk.i64_in _ (by omega)
      obtain ⟨i, hk⟩ : ∃ i, s.wait[j]? = some i := ⟨_, List.getElem?_eq_getElem (by rw [HNw.out]; exact hlt)⟩
      have hir := HL.out.1 i (List.mem_of_getElem? hk)
      have hml := HMl.out j (by rw [HNw.out]; exact hj)
      have hnx := mid_next (its := its) (s := s) hk
      have hwa : MineE encN 3 wr P.B qj.A2 s.wait.length qj.c2 s.wait := H.out.1.wa
      rw [H.out.2.2.2.2.1, HG.out] at hwa
      have p1 := place_cell hwa hk
      have HMw := Lib.hid (⟨rfl, rfl⟩ : (s.mid its j).row = s.row ∧ (s.mid its j).wait = s.wait)
      obtain ⟨M, hM⟩ : ∃ M, s.mid its j = M := ⟨_, rfl⟩
      rw [hM] at H hml hnx HMw
      obtain ⟨hlo, hbl, hf, ht, hfl⟩ := hml
      have hX : wantAt its M.m i M.m.y = (itAt its i).want f t M.m.y := by unfold wantAt; rw [hf, ht]
      have hz1 := HL.out.2.2.2.2.2
      have h30 := HL.out.2.2.1
      have hX1 : RightW (wantAt its M.m i M.m.y) := (itAt_right HL.out.2.2.2.2.1 hir.1).want hir.2 hlo.f1 hlo.f2 hlo.t1 hlo.t2 hlo.ft hlo.y1 (by have := hlo.y2; omega)
      have h49 : M.m.fs.all near49 = true := nearZ_49 hlo.fl (by omega)
      have hnF : qj.nF ≤ 1000 := by have := H.out.1.hn; have := HL.out.2.1; omega
      obtain ⟨r, hr⟩ : ∃ r, placed M.m.fs (wantAt its M.m i M.m.y) = r := ⟨_, rfl⟩
      have hrs : r.s = (itAt its i).sd := by rw [← hr]; rfl
      have HFi := Lib.hid (fun w1 (d : Dat w1 P qj M) => show Calls Tryz.prog 22 #[.slice qj.AF qj.nF qj.cF, (wantAt its M.m i M.m.y).v] w1 (fun e w' => e = .returned (Fl.box r) ∧ Below w1.heap.size w1 w') from by
        have := reffind_any qj.AF qj.nF qj.cF M.m.fs (wantAt its M.m i M.m.y) w1 d.hn (by omega) d.hx h49 hX1
        rw [← hr]
        exact this)
      have HP := Lib.hid (show s.mid its (j + 1) = { M with m := { M.m with fs := M.m.fs ++ [r] }, box := M.box.set i (bxOf r) } by rw [hnx]; unfold Ly.putN putK putM; dsimp only; rw [hr])
      have HBl := Lib.hid (⟨hbl, hnF⟩ : M.box.length = its.length ∧ qj.nF ≤ 1000)
      rw [hX] at HFi
      have hAt : ad.block < wr.heap.size ∧ AtI wr (ad.add (i * 4)) (itAt its i) := (HE.out.item hir.1 H.out.2.1).elim fun ad' h => by
        have e := Option.some.inj h.1
        rw [e]; exact h.2
      obtain ⟨x, hx⟩ : ∃ x, itAt its i = x := ⟨_, rfl⟩
      have HK := Lib.hid (⟨hir.1, hx, h30, HL.out.2.2.2.1⟩ : i < its.length ∧ itAt its i = x ∧ its.length ≤ 30 ∧ ni = its.length)
      rw [hx] at hAt hrs HFi
      have HRs := Lib.hid hrs
      have HAd := Lib.hid hAt
      have hki : (i : Int) < (ni : Int) := by have := HK.out.1; have := HK.out.2.2.2; omega
      have hk0 : ¬ (i : Int) < 0 := by omega
      clear hk hir hnx hwa hM hlo hbl hf ht hfl hX hz1 h30 hX1 h49 hnF hr hrs hAt hx
      go_upto_region 38 with fail
      clear p1
      have HC := Lib.hid (fun w' (i' : Below wr.heap.size wr w') => show Dat w' P qj M ∧ AtI w' (ad.add (i * 4)) x from ⟨H.out.1.below i', HAd.out.2.below (by rw [block_of_add]; exact HAd.out.1) i'⟩)
      refine Hold.wp_region_hold [.val (.pointer (some ⟨P.m, 0, none⟩)), .val (.slice qj.AF qj.nF qj.cF), .val (.slice (some ad) ni ci), .val (.int .i64 (i : Int)), .val (.pointer (some (ad.add (i * 4)))), .val (.agg #[.int .i64 x.sd, .int .i64 x.cl, .int .i64 x.wd, .int .i64 x.ht]), .val (.int .i64 f), .val (.int .i64 t), .val (.pointer (some ⟨P.m, 3, none⟩)), .val (.int .i64 M.m.y), .val (.agg #[.int .i64 x.sd, .int .i64 x.cl, .int .i64 f, .int .i64 t, .int .i64 x.wd, .int .i64 x.ht, .int .i64 M.m.y]), .val (Fl.box r), .some (FreshR wr [.int .i64 0, .int .i64 0, .int .i64 0, .int .i64 0] 44)] (by kernel_rfl) (by kernel_rfl) (by kernel_rfl) ?_ ?_
      · simp only [Hold.fill, Hold.Leave.value]
        refine ⟨?_, ?_, ?_, ?_, ?_, ?_, ?_, ?_, ?_, ?_, ?_, ?_, ?_, trivial⟩
        · intro gg w' hw hk
          go_simp
          exact ⟨rfl, rfl⟩
        · intro gg w' hw hk
          have q0 : w'.cell? ⟨P.m, 0, none⟩ = some (.slice qj.AF qj.nF qj.cF) := ((HC.out w' hw).1.m).at' 0
          go_simp
          exact ⟨rfl, rfl⟩
        · intro gg w' hw hk
          go_simp
          exact ⟨rfl, rfl⟩
        · intro gg w' hw hk
          go_simp
          exact ⟨rfl, rfl⟩
        · intro gg w' hw hk
          go_simp
          exact ⟨rfl, rfl⟩
        · intro gg w' hw hk
          have q0 : w'.cell? (ad.add (i * 4)) = some (.int .i64 x.sd) := (HC.out w' hw).2.1
          have q1 : w'.cell? ⟨(ad.add (i * 4)).block, (ad.add (i * 4)).off + 1, none⟩ = some (.int .i64 x.cl) := (HC.out w' hw).2.2.1
          have q2 : w'.cell? ⟨(ad.add (i * 4)).block, (ad.add (i * 4)).off + 2, none⟩ = some (.int .i64 x.wd) := (HC.out w' hw).2.2.2.1
          have q3 : w'.cell? ⟨(ad.add (i * 4)).block, (ad.add (i * 4)).off + 3, none⟩ = some (.int .i64 x.ht) := (HC.out w' hw).2.2.2.2
          go_simp
          exact ⟨rfl, rfl⟩
        · intro gg w' hw hk
          go_simp
          exact ⟨rfl, rfl⟩
        · intro gg w' hw hk
          go_simp
          exact ⟨rfl, rfl⟩
        · intro gg w' hw hk
          go_simp
          exact ⟨rfl, rfl⟩
        · intro gg w' hw hk
          have q0 : w'.cell? ⟨P.m, 3, none⟩ = some (.int .i64 M.m.y) := ((HC.out w' hw).1.m).at' 3
          go_simp
          exact ⟨rfl, rfl⟩
        · intro gg w' hw hk
          go_simp
          exact Hold.stays_call (rwant_any x f t M.m.y w')
        · intro gg w' hw hk
          go_simp
          exact Hold.stays_call (HFi.out w' (HC.out w' hw).1)
        · refine ⟨freshR_keeps _ _ _ (by simp), fun gg w' hw hk => ?_⟩
          have hsz := hw.size
          go_simp
          exact ⟨ba1 _ _, freshR_new wr w' [.int .i64 0, .int .i64 0, .int .i64 0, .int .i64 0] 44 hsz⟩
      intro gg w4 k4 hgg
      simp only [Hold.fill, Hold.Leave.value, List.length_cons, List.length_nil, List.drop_succ_cons, List.drop_zero]
      have h12 := hgg 12 _ rfl
      obtain ⟨b29, e12, z12, g12, t12⟩ := h12
      rw [e12]
      clear hgg e12
      have p0 : w4.cell? ⟨b29, 0, none⟩ = some (.int .i64 0) := z12.at' 0
      have g0 : w4.frozen? ⟨b29, 0, none⟩ = false := z12.frz 0
      have p1 : w4.cell? ⟨b29, 1, none⟩ = some (.int .i64 0) := z12.at' 1
      have g1 : w4.frozen? ⟨b29, 1, none⟩ = false := z12.frz 1
      have p2 : w4.cell? ⟨b29, 2, none⟩ = some (.int .i64 0) := z12.at' 2
      have g2 : w4.frozen? ⟨b29, 2, none⟩ = false := z12.frz 2
      have p3 : w4.cell? ⟨b29, 3, none⟩ = some (.int .i64 0) := z12.at' 3
      have g3 : w4.frozen? ⟨b29, 3, none⟩ = false := z12.frz 3
      have v12 := row_four z12 (.int .i64 r.l) (.int .i64 r.t) (.int .i64 r.r) (.int .i64 r.b)
      have kk := k4.trans ((but_only v12.2).below k4.size (fun j e => by rw [e]; exact g12))
      have H7 := Lib.hid (⟨H.out.1.below kk, H.out.2.1.trans (kk.mono H.out.2.1.size), v12.1, HAd.out.2.below (by rw [block_of_add]; exact HAd.out.1) kk, by have := H.out.1.low 2 P.bx rfl; omega⟩ : Dat (World.setCell (World.setCell (World.setCell (World.setCell w4 ⟨b29, 0, none⟩ (.int .i64 r.l)) ⟨b29, 1, none⟩ (.int .i64 r.t)) ⟨b29, 2, none⟩ (.int .i64 r.r)) ⟨b29, 3, none⟩ (.int .i64 r.b)) P qj M ∧ Below w0.heap.size w0 _ ∧ RowAt _ b29 (frow r) ∧ AtI _ (ad.add (i * 4)) x ∧ b29 ≠ P.bx)
      clear v12 kk z12 g12 t12 k4 HC HFi
      go_upto_region 39 with fail
      clear p0 p1 p2 p3 g0 g1 g2 g3
      generalize (World.setCell (World.setCell (World.setCell (World.setCell w4 ⟨b29, 0, none⟩ (.int .i64 r.l)) ⟨b29, 1, none⟩ (.int .i64 r.t)) ⟨b29, 2, none⟩ (.int .i64 r.r)) ⟨b29, 3, none⟩ (.int .i64 r.b)) = W7 at *
      have hkb : (i : Int) < (M.box.length : Int) := by have := HBl.out.1; have := HK.out.1; omega
      obtain ⟨bo, hbo, d0, d1, d2, d3, fz⟩ := box_cells H7.out.1.bo (k := i) (by have := HBl.out.1; have := HK.out.1; omega)
      have f0 := fz (i * 4)
      have f1 := fz (i * 4 + 1)
      have f2 := fz (i * 4 + 2)
      have f3 := fz (i * 4 + 3)
      have o0 : W7.cell? ⟨P.o, 0, none⟩ = some (.slice (some ⟨P.bx, 0, none⟩) M.box.length M.box.length) := H7.out.1.o.at' 0
      have r0 : W7.cell? ⟨b29, 0, none⟩ = some (.int .i64 r.l) := H7.out.2.2.1.at' 0
      have r1 : W7.cell? ⟨b29, 1, none⟩ = some (.int .i64 r.t) := H7.out.2.2.1.at' 1
      have r2 : W7.cell? ⟨b29, 2, none⟩ = some (.int .i64 r.r) := H7.out.2.2.1.at' 2
      have r3 : W7.cell? ⟨b29, 3, none⟩ = some (.int .i64 r.b) := H7.out.2.2.1.at' 3
      clear hbo fz
      go_upto_region 40 with fail
      clear d0 d1 d2 d3 f0 f1 f2 f3 o0 r0 r1 r2 r3 hkb
      have hb8 : MineE encB 44 (World.setCell (World.setCell (World.setCell (World.setCell W7 ⟨P.bx, i * 4, none⟩ (.int .i64 r.l)) ⟨P.bx, i * 4 + 1, none⟩ (.int .i64 r.t)) ⟨P.bx, i * 4 + 2, none⟩ (.int .i64 r.r)) ⟨P.bx, i * 4 + 3, none⟩ (.int .i64 r.b)) P.B (some ⟨P.bx, 0, none⟩) M.box.length M.box.length (M.box.set i (bxOf r)) ∧ But (fun j => j = P.bx) W7 (World.setCell (World.setCell (World.setCell (World.setCell W7 ⟨P.bx, i * 4, none⟩ (.int .i64 r.l)) ⟨P.bx, i * 4 + 1, none⟩ (.int .i64 r.t)) ⟨P.bx, i * 4 + 2, none⟩ (.int .i64 r.r)) ⟨P.bx, i * 4 + 3, none⟩ (.int .i64 r.b)) := mineB_put H7.out.1.bo (k := i) (by have := HBl.out.1; have := HK.out.1; omega) (bxOf r)
      have HB8 := Lib.hid hb8
      clear hb8
      generalize (World.setCell (World.setCell (World.setCell (World.setCell W7 ⟨P.bx, i * 4, none⟩ (.int .i64 r.l)) ⟨P.bx, i * 4 + 1, none⟩ (.int .i64 r.t)) ⟨P.bx, i * 4 + 2, none⟩ (.int .i64 r.r)) ⟨P.bx, i * 4 + 3, none⟩ (.int .i64 r.b)) = V8 at *
      have D8 := H7.out.1.boxed (bs := M.box.set i (bxOf r)) List.length_set HB8.out.1 HB8.out.2
      have hBB : w0.heap.size ≤ P.bx := by rw [← HE.out.hB]; exact H7.out.1.high 2 P.bx (by decide) rfl
      have A8 : AtI V8 (ad.add (i * 4)) x := HE.out.item HK.out.1 (H7.out.2.1.trans (HB8.out.2.below H7.out.2.1.size (fun j e => by rw [e]; exact hBB))) |>.elim fun ad' h => by
        have e : some ad = some ad' := h.1
        have e := Option.some.inj e
        rw [e, ← HK.out.2.1]
        exact h.2.2
      have H8 := Lib.hid (⟨D8, H7.out.2.1.trans (HB8.out.2.below H7.out.2.1.size (fun j e => by rw [e]; exact hBB)), H7.out.2.2.1.but (by simp) HB8.out.2 H7.out.2.2.2.2, A8, HAd.out.1⟩ : Dat V8 P qj { M with box := M.box.set i (bxOf r) } ∧ Below w0.heap.size w0 V8 ∧ RowAt V8 b29 (frow r) ∧ AtI V8 (ad.add (i * 4)) x ∧ ad.block < wr.heap.size)
      clear D8 hBB A8 HB8
      have hbb : ad.block < V8.heap.size := (HE.out.item HK.out.1 H8.out.2.1).elim fun ad' h => by
        have e : some ad = some ad' := h.1
        have e := Option.some.inj e
        rw [e]
        exact h.2.1
      have HbV := Lib.hid hbb
      clear hbb
      have HC := Lib.hid (fun w' (kb' : Below V8.heap.size V8 w') => show Dat w' P qj { M with box := M.box.set i (bxOf r) } ∧ RowAt w' b29 (frow r) ∧ AtI w' (ad.add (i * 4)) ⟨r.s, x.cl, x.wd, x.ht⟩ from ⟨H8.out.1.below kb', H8.out.2.2.1.below (by simp) kb', by
        have := H8.out.2.2.2.1.below (by rw [block_of_add]; exact HbV.out) kb'
        rw [HRs.out]
        exact this⟩)
      refine Hold.wp_region_hold [.some (Emp V8.heap.size), .val (.pointer (some ⟨P.m, 0, none⟩)), .val (.slice qj.AF qj.nF qj.cF), .some (Own M.m.fs qj.nF V8.heap.size), .val (.slice (some ad) ni ci), .val (.int .i64 (i : Int)), .val (.pointer (some (ad.add (i * 4)))), .val (.pointer (some (ad.add (i * 4)))), .val (.int .i64 r.s), .val (.agg #[.int .i64 r.l, .int .i64 r.t, .int .i64 r.r, .int .i64 r.b]), .val (.agg #[.int .i64 r.s, .int .i64 r.l, .int .i64 r.t, .int .i64 r.r, .int .i64 r.b]), .some (Own [r] 1 V8.heap.size)] (by kernel_rfl) (by kernel_rfl) (by kernel_rfl) ?_ ?_
      · simp only [Hold.fill, Hold.Leave.value]
        refine ⟨?_, ?_, ?_, ?_, ?_, ?_, ?_, ?_, ?_, ?_, ?_, ?_, trivial⟩
        · refine ⟨emp_keeps _, fun gg w' hw hk => ?_⟩
          go_simp
          exact ⟨ba1 _ _, _, rfl, emptyE_mine encF 56 w' V8.heap.size hw.size, by have := hw.size; simp; omega⟩
        · intro gg w' hw hk
          go_simp
          exact ⟨rfl, rfl⟩
        · intro gg w' hw hk
          have q0 : w'.cell? ⟨P.m, 0, none⟩ = some (.slice qj.AF qj.nF qj.cF) := ((HC.out w' hw).1.m).at' 0
          go_simp
          exact ⟨rfl, rfl⟩
        · refine ⟨own_keeps _ _ _, fun gg w' hw hk => ?_⟩
          have h1 := hk ⟨0, .data⟩ (by simp) rfl _ rfl
          have hg : ∃ b, gg 0 = .slice (some ⟨b, 0, none⟩) 0 0 ∧ MineE encF 56 w' V8.heap.size (some ⟨b, 0, none⟩) 0 0 [] := by
            obtain ⟨b, q1, q2, q3⟩ := h1
            exact ⟨b, q1, q2⟩
          clear h1 hk
          have hsrc : SrcE encF w' qj.AF qj.nF qj.cF M.m.fs := src_all (HC.out w' hw).1.hx (HC.out w' hw).1.hn (HC.out w' hw).1.fn
          have hnb : qj.nF ≤ 1000 := HBl.out.2
          have key : ∀ b, gg 0 = .slice (some ⟨b, 0, none⟩) 0 0 → MineE encF 56 w' V8.heap.size (some ⟨b, 0, none⟩) 0 0 [] → ∃ A' c' w'', (Builtin.append_ #[22, 22] 22 #[gg 0, .slice qj.AF qj.nF qj.cF]).run Tryz.prog w' = .ok (.slice A' qj.nF c') w'' ∧ MineE encF 56 w'' V8.heap.size A' qj.nF c' M.m.fs ∧ Below w'.heap.size w' w'' := fun b q1 q2 => by
            rw [q1]
            exact run_append_fresh (E := encF) infoF _ w' V8.heap.size b q2 qj.AF qj.nF qj.cF M.m.fs hsrc (by simp only [maxLen]; omega) (by omega) hw.size
          have hk2 := hg.elim fun b q => key b q.1 q.2
          clear key hg hsrc
          refine gives_append (.tmp 237) (.tmp 239) rfl (gg 0) (.slice qj.AF qj.nF qj.cF) ?_ ?_ ?_
          · go_simp
          · go_simp
          · have hsz := hw.size
            exact hk2.elim fun A' h => h.elim fun c' h => h.elim fun w'' h => ⟨_, w'', h.1, h.2.2, A', c', rfl, h.2.1, Nat.le_trans hsz h.2.2.size⟩
        · intro gg w' hw hk
          go_simp
          exact ⟨rfl, rfl⟩
        · intro gg w' hw hk
          go_simp
          exact ⟨rfl, rfl⟩
        · intro gg w' hw hk
          go_simp
          exact ⟨rfl, rfl⟩
        · intro gg w' hw hk
          go_simp
          exact ⟨rfl, rfl⟩
        · intro gg w' hw hk
          have q0 : w'.cell? (ad.add (i * 4)) = some (.int .i64 r.s) := (HC.out w' hw).2.2.1
          go_simp
          exact ⟨rfl, rfl⟩
        · intro gg w' hw hk
          have q0 : w'.cell? ⟨b29, 0, none⟩ = some (.int .i64 r.l) := ((HC.out w' hw).2.1).at' 0
          have q1 : w'.cell? ⟨b29, 1, none⟩ = some (.int .i64 r.t) := ((HC.out w' hw).2.1).at' 1
          have q2 : w'.cell? ⟨b29, 2, none⟩ = some (.int .i64 r.r) := ((HC.out w' hw).2.1).at' 2
          have q3 : w'.cell? ⟨b29, 3, none⟩ = some (.int .i64 r.b) := ((HC.out w' hw).2.1).at' 3
          go_simp
          exact ⟨rfl, rfl⟩
        · intro gg w' hw hk
          go_simp
          exact ⟨rfl, rfl⟩
        · refine ⟨own_keeps _ _ _, fun gg w' hw hk => ?_⟩
          have hsz := hw.size
          go_simp
          exact ⟨ba1 _ _, _, _, rfl, oneF w' V8.heap.size hsz r, by simp; omega⟩
      intro gg w9 k9 hgg
      simp only [Hold.fill, Hold.Leave.value, List.length_cons, List.length_nil, List.drop_succ_cons, List.drop_zero]
      have h2 := hgg 3 _ rfl
      have h4 := hgg 11 _ rfl
      obtain ⟨A1, c1, q1, m1, b1⟩ := h2
      obtain ⟨A2', c2', q2, m2, b2⟩ := h4
      obtain ⟨g2, rfl, -, -, -, -⟩ := m2.form (by omega)
      rw [q1, q2]
      have M1 := Lib.hid m1
      have M2 := Lib.hid m2
      have K9 := Lib.hid k9
      clear hgg q1 q2 m1 m2 b1 b2 k9
      refine wpList_append_wideE infoF _ rfl (.tmp 240) (.tmp 248) rfl V8.heap.size A1 qj.nF c1 M.m.fs (by go_simp) M1.out ⟨g2, 0, none⟩ 1 c2' [r] (by go_simp) (MineE.src M2.out) (by have := HBl.out.2; simp only [maxLen]; omega) (by have := HBl.out.2; omega) K9.out.size ?_
      intro A3 c3 w10 h3
      have M3 := Lib.hid (⟨h3.1, AppendedE.below h3 M1.out K9.out (Nat.le_refl _) K9.out.size⟩ : MineE encF 56 w10 V8.heap.size A3 (qj.nF + 1) c3 (M.m.fs ++ [r]) ∧ Below V8.heap.size V8 w10)
      clear h3 M1 M2 K9
      have g6 := (H8.out.1.below M3.out.2).m
      have f0 : w10.frozen? ⟨P.m, 0, none⟩ = false := g6.frz 0
      have e0 : w10.cell? ⟨P.m, 0, none⟩ = some (.slice qj.AF qj.nF qj.cF) := g6.at' 0
      have HU := Lib.hid (H8.out.1.floated M3.out.1 M3.out.2)
      clear g6 HC
      go_wp2_with fail
      go_roundw
      case rel => exact ⟨j + 1, { qj with AF := A3, nF := qj.nF + 1, cF := c3 }, by omega, by go_num, Lib.hid ⟨by rw [HP.out]; exact HU.out.1, H8.out.2.1.trans (by have := HU.out.2; rw [HE.out.hB] at this; exact this), H.out.2.2⟩⟩
      case measure => simp [intOf]; omega
    · obtain rfl : j = n := by omega
      have hK := H.out.1
      rw [← HNw.out] at hK
      have HZ := Lib.hid hK
      clear hK
      go_wp2_with fail
      refine HQ.out _ _ ⟨qj, ⟨⟨rfl, rfl, rfl, rfl, rfl, rfl, rfl, rfl, ?_, ?_, rfl⟩, HZ.out, H.out.2.1⟩⟩
      · show some (Value.slice q.A1 s.row.length q.c1) = some (Value.slice qj.A1 s.row.length qj.c1)
        rw [H.out.2.2.1, H.out.2.2.2.1]
      · show some (Value.slice (some ⟨g2, 0, none⟩) j q.c2) = some (Value.slice qj.A2 s.wait.length qj.c2)
        rw [H.out.2.2.2.2.1, H.out.2.2.2.2.2, HG.out, HNw.out]

end Go.Proofs.YtdibdfalahjmbaaGreat.Text
