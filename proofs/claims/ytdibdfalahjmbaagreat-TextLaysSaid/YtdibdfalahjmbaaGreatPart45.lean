
import Derived.Test.YtdibdfalahjmbaaGreatPart42
namespace Go.Proofs.YtdibdfalahjmbaaGreat.Text

open Go.RowKit Go.Sort Go.Proofs.YtdibdfalahjmbaaGreat.Rect Go.Proofs.YtdibdfalahjmbaaGreat.More Go.Proofs.YtdibdfalahjmbaaGreat.Shelf Go.Proofs.YtdibdfalahjmbaaGreat.Space Go.Proofs.YtdibdfalahjmbaaGreat.Place Go.Proofs.YtdibdfalahjmbaaGreat.Line

set_option linter.unusedVariables false

set_option linter.unusedSimpArgs false

theorem mine_type {α : Type} {E : Enc α} {T : TypeId} {w : World} {B : Nat} {A : Option Addr} {n c : Nat} {xs : List α} (h : MineE E T w B A n c xs) (hn : 0 < n) {j : Nat} (e : blk A = some j) : ∃ cur fz, w.heap[j]? = some (.cells cur T fz) := by
  rcases h.2 with ⟨_, h0⟩ | ⟨g, cap, cur, e2, hb, hg, -⟩
  · omega
  · injection e2 with e2 e3 e4
    rw [e2] at e
    have e5 : g = j := Option.some.inj e
    rw [← e5]
    exact ⟨cur, _, hg⟩

theorem types_ne {w : World} {j b : Nat} {T T' : TypeId} (h : ∃ cur fz, w.heap[j]? = some (.cells cur T fz)) (k : ∃ cur fz, w.heap[b]? = some (.cells cur T' fz)) (hT : T ≠ T') : j ≠ b := fun e => by
  obtain ⟨c1, f1, h1⟩ := h
  obtain ⟨c2, f2, h2⟩ := k
  rw [e, h2] at h1
  have := Option.some.inj h1
  injection this with _ e2 _
  exact hT e2.symm

theorem but_more {F G : Nat → Prop} {w w' : World} (h : But F w w') (hg : ∀ k, F k → G k) : But G w w' := ⟨h.os, h.tape, h.output, h.size, fun k hk hs => h.block k hk (fun q => hs (hg k q))⟩

def FltR (W : World) (q : RLoose) (m' : Mk) (r : Fl) (w : World) (u : Value) : Prop := ∃ A3 c3, u = .tuple #[Mv A3 (q.nF + 1) c3 q.AZ q.nZ q.cZ m', Fl.box r, .bool true] ∧ MineE encF 56 w W.heap.size A3 (q.nF + 1) c3 m'.fs

def FltM (W : World) (q : RLoose) (m' : Mk) (w : World) (u : Value) : Prop := ∃ A3 c3, u = Mv A3 (q.nF + 1) c3 q.AZ q.nZ q.cZ m' ∧ MineE encF 56 w W.heap.size A3 (q.nF + 1) c3 m'.fs

theorem fltR_keeps (W : World) (q : RLoose) (m' : Mk) (r : Fl) : Hold.Keeps (FltR W q m' r) := fun w w' u k ⟨A3, c3, e, h⟩ => ⟨A3, c3, e, h.below k⟩

theorem fltM_keeps (W : World) (q : RLoose) (m' : Mk) : Hold.Keeps (FltM W q m') := fun w w' u k ⟨A3, c3, e, h⟩ => ⟨A3, c3, e, h.below k⟩

theorem fltR_cases {W w : World} {q : RLoose} {m' : Mk} {r : Fl} {u : Value} (h : FltR W q m' r w u) {C : Prop} (k : ∀ A3 c3, u = .tuple #[Mv A3 (q.nF + 1) c3 q.AZ q.nZ q.cZ m', Fl.box r, .bool true] → Hid (MineE encF 56 w W.heap.size A3 (q.nF + 1) c3 m'.fs) → C) : C := by
  obtain ⟨A3, c3, e, h⟩ := h
  exact k A3 c3 e (Lib.hid h)

theorem Dat.floated6 {W V U : World} {P : RFast} {q : RLoose} {s : Ly} (h0 : Dat W P q s) (h : Dat V P q s) {m' : Mk} {r : Fl} (hm : m' = { s.m with fs := s.m.fs ++ [r] }) {A3 : Option Addr} {c3 : Nat} (M : MineE encF 56 V W.heap.size A3 (q.nF + 1) c3 m'.fs) (k : But (fun j => j = P.m) V U) (hr : RowAt U P.m (mrow A3 (q.nF + 1) c3 q.AZ q.nZ q.cZ m')) :
    Dat U P { q with AF := A3, nF := q.nF + 1, cF := c3 } { s with m := m' } := by
  subst hm
  refine h.maker (m' := { s.m with fs := s.m.fs ++ [r] }) (AZ := q.AZ) (nZ := q.nZ) (cZ := q.cZ) k hr ?_ (floats_mine M) (fun e => ?_) h.hn2 h.hx2 h.zn h.zl h.tp (fun i ad hi _ e g => ?_) (fun i ad hi e g => ?_)
  · show q.nF + 1 = (s.m.fs ++ [r]).length
    rw [List.length_append, h.hn]; rfl
  · obtain ⟨g, e2, -⟩ := M.form (Nat.succ_pos _)
    rw [e] at e2; cases e2
  · have h1 := (M.lt ad.block (by rw [e]; rfl)).1
    have h2 := h0.low i _ g
    omega
  · have := h.ap i 7 ad.block hi g (by show blk q.AZ = _; rw [e]; rfl)
    omega

set_option maxRecDepth 100000 in
set_option maxHeartbeats 800000 in
theorem b_side {w0 : World} {f t : Int} {AI : Option Addr} {ni ci : Nat} {P : RFast} {q : RLoose} {s : Ly} {its : List It} {a : Act} {w : World} {k : Nat} (h : AtS w0 f t AI ni ci P q s k a w) (E : Env w0 AI ni P its) (hA : Able its 140737488355328 k s) (hf : s.m.f = f) (ht : s.m.t = t) (hk : k < its.length) (hsd : (itAt its k).sd ≠ 0) (hm : s.m.az ≠ []) (hw : s.wait = []) {r : Fl} (hb : (s.m.beside (wantAt its s.m k s.m.top)).2 = some r) :
    Code.wp Tryz.prog cB (Goes (.exit 1) fun a' w' => ∃ q', AtS w0 f t AI ni ci P q' (s.side its k r) k a' w') a w := by
  have hX : wantAt its s.m k s.m.top = (itAt its k).want f t s.m.top := by unfold wantAt; rw [hf, ht]
  have hlo := hA.low
  have hz1 := hA.hz
  have hp1 := hlo.p1 hm
  have hp2 := hlo.p2 hm
  have hx0 := itAt_right hA.hr hk
  have hX1 : RightW (wantAt its s.m k s.m.top) := hx0.want hsd hlo.f1 hlo.f2 hlo.t1 hlo.t2 hlo.ft (by have := hlo.y1; omega) (by have := E.n30; omega)
  have h49 : s.m.fs.all near49 = true := nearZ_49 hlo.fl (by have := E.n30; omega)
  have hn49 : (s.m.fs ++ [placed s.m.fs (wantAt its s.m k s.m.top)]).all near49 = true := nearZ_49 (lo_put (y := s.m.top) hlo (by have := E.n30; omega) hx0 hsd (by have := hlo.y1; omega) (by omega)).fl (by have := E.n30; omega)
  have hba : -4503599627370496 ≤ s.m.f ∧ s.m.f ≤ 4503599627370496 := by have := hlo.f1; have := hlo.f2; omega
  have hbb : -4503599627370496 ≤ s.m.t ∧ s.m.t ≤ 4503599627370496 := by have := hlo.t1; have := hlo.t2; omega
  have hzl : s.m.az.length ≤ 1000 := by have := hA.azl; have := hA.row; have := E.n30; omega
  have hfl := hA.fs
  have hza := hlo.ha
  obtain ⟨hr1, hr2, -⟩ := beside_some hb
  obtain ⟨m', hm'⟩ : ∃ m', m' = ({ s.m with fs := s.m.fs ++ [r] } : Mk) := ⟨_, rfl⟩
  have hm1 : (s.m.beside (wantAt its s.m k s.m.top)).1 = m' := by rw [hr2, hm', hr1]; rfl
  have hm2 : m'.fs = s.m.fs ++ [r] := by rw [hm']
  have HFl := Lib.hid (fun w1 (d : Dat w1 P q s) (hW : w.heap.size ≤ w1.heap.size) => show Calls Tryz.prog 23 #[Mv q.AF q.nF q.cF q.AZ q.nZ q.cZ s.m, (wantAt its s.m k s.m.top).v] w1 (fun e w'' => ∃ u, e = .returned u ∧ FltR w q m' r w'' u ∧ Below w1.heap.size w1 w'') from by
    refine (reffloat_any q.AF q.nF q.cF q.AZ q.nZ q.cZ s.m (wantAt its s.m k s.m.top) w1 (d.mkin (by omega) hzl hza) d.fn hm h49 hX1 hn49 (by have := d.hn; omega) hba hbb).mono ?_
    rintro e w'' ⟨h, k⟩
    unfold FloatOut at h
    rw [hb] at h
    obtain ⟨A3, c3, rfl, hM⟩ := h
    refine ⟨_, rfl, ⟨A3, c3, by rw [hm1], ?_⟩, k⟩
    rw [hm2]
    exact hM.mono hW)
  have HP := Lib.hid (show s.side its k r = { s with m := m', box := s.box.set k (bxOf r) } by unfold Ly.side; rw [hm1])
  have HM' := Lib.hid hm'
  have HBl := Lib.hid hA.kp.bl
  rw [hX] at HFl
  clear hX hlo hz1 hp1 hp2 hx0 hX1 h49 hn49 hba hbb hzl hfl hza hr1 hr2 hm1 hm2 hm' hb hf ht
  refine wp_goes fun Q hQ => ?_
  have HQ := Lib.hid hQ
  clear hQ
  have HD := Lib.hid (⟨h.d, h.b⟩ : Dat w P q s ∧ Below w0.heap.size w0 w)
  refine h.fr.open (C := fun a => Code.wp Tryz.prog cB Q a w) ?_
  clear h
  intros
  conv => arg 2; whnf
  obtain ⟨x, hx⟩ : ∃ x, itAt its k = x := ⟨_, rfl⟩
  obtain ⟨ad, rfl, hadb, d0, d1, d2, d3⟩ := E.item hk HD.out.2
  rw [hx] at d0 d1 d2 d3
  have HAd := Lib.hid (⟨hadb, d0, d1, d2, d3⟩ : ad.block < w.heap.size ∧ AtI w (ad.add (k * 4)) x)
  have HK := Lib.hid (⟨hk, hx, E.right hk hx, E.n30, E.hn⟩ : k < its.length ∧ itAt its k = x ∧ RightI x ∧ its.length ≤ 30 ∧ ni = its.length)
  have HE := Lib.hid E
  have hki : (k : Int) < (ni : Int) := by have := E.hn; omega
  have hk0 : ¬ (k : Int) < 0 := by omega
  have hwk : IntKind.i64.wrap ((k : Int) + 1) = (k : Int) + 1 := IntWalk.i64_in _ (by have := E.hn; have := E.n30; omega)
  rw [hx] at HFl
  clear hadb hk hx E
  have hsd' : ¬ x.sd = 0 := HK.out.2.1 ▸ hsd
  have hb0 : (x.sd == 0) = false := by simp [hsd']
  have hb1 : (x.sd != 0) = true := by simp [hsd']
  have HSd := Lib.hid hsd'
  clear hsd hsd'
  have hz0 : ¬ (q.nZ : Int) = 0 := by have := List.length_pos_iff.2 hm; have := HD.out.1.hn2; omega
  have hw0 : (s.wait.length : Int) = 0 := by rw [hw]; rfl
  clear hm hA hw
  have c5 : w.cell? ⟨P.m, 5, none⟩ = some (.slice q.AZ q.nZ q.cZ) := HD.out.1.m.at' 5
  go_upto_region 19 with fail
  clear d0 d1 d2 d3 c5 hz0 hw0
  have HC := Lib.hid (fun w' (i : Below w.heap.size w w') => show Dat w' P q s ∧ AtI w' (ad.add (k * 4)) x from ⟨HD.out.1.below i, HAd.out.2.below (by rw [block_of_add]; exact HAd.out.1) i⟩)
  refine HoldLate.wp_region_hold_late [13, 14] [.val (.agg #[.slice q.AF q.nF q.cF, .int .i64 s.m.f, .int .i64 s.m.t, .int .i64 s.m.y, .int .i64 s.m.top, .slice q.AZ q.nZ q.cZ]), .val (.slice (some ad) ni ci), .val (.int .i64 (k : Int)), .val (.pointer (some (ad.add (k * 4)))), .val (.agg #[.int .i64 x.sd, .int .i64 x.cl, .int .i64 x.wd, .int .i64 x.ht]), .val (.int .i64 f), .val (.int .i64 t), .val (.pointer (some ⟨P.m, 4, none⟩)), .val (.int .i64 s.m.top), .val (.agg #[.int .i64 x.sd, .int .i64 x.cl, .int .i64 f, .int .i64 t, .int .i64 x.wd, .int .i64 x.ht, .int .i64 s.m.top]), .some (FltR w q m' r), .some (FltR w q m' r), .some (FltM w q m'), .val (Fl.box r), .val (.bool true), .some (FreshR w [.slice none 0 0, .int .i64 0, .int .i64 0, .int .i64 0, .int .i64 0, .slice none 0 0] 79), .some (FreshR w [.int .i64 0, .int .i64 0, .int .i64 0, .int .i64 0] 44)] (by kernel_rfl) (by kernel_rfl) (by kernel_rfl) ?_ ?_ ?_
  · simp only [Hold.fill, Hold.Leave.value]
    refine ⟨?_, ?_, ?_, ?_, ?_, ?_, ?_, ?_, ?_, ?_, ?_, ?_, ?_, ?_, ?_, ?_, ?_, trivial⟩
    · intro gg w' hw hk
      have q0 : w'.cell? ⟨P.m, 0, none⟩ = some (.slice q.AF q.nF q.cF) := ((HC.out w' hw).1.m).at' 0
      have q1 : w'.cell? ⟨P.m, 1, none⟩ = some (.int .i64 s.m.f) := ((HC.out w' hw).1.m).at' 1
      have q2 : w'.cell? ⟨P.m, 2, none⟩ = some (.int .i64 s.m.t) := ((HC.out w' hw).1.m).at' 2
      have q3 : w'.cell? ⟨P.m, 3, none⟩ = some (.int .i64 s.m.y) := ((HC.out w' hw).1.m).at' 3
      have q4 : w'.cell? ⟨P.m, 4, none⟩ = some (.int .i64 s.m.top) := ((HC.out w' hw).1.m).at' 4
      have q5 : w'.cell? ⟨P.m, 5, none⟩ = some (.slice q.AZ q.nZ q.cZ) := ((HC.out w' hw).1.m).at' 5
      go_simp
      exact ⟨rfl, rfl⟩
    · intro gg w' hw hk
      go_simp
      exact ⟨rfl, rfl⟩
    · intro gg w' hw hk
      go_simp
      exact ⟨rfl, rfl⟩
    · intro gg w' hw hk
      go_simp
      exact ⟨rfl, rfl⟩
    · intro gg w' hw hk
      have q0 : w'.cell? (ad.add (k * 4)) = some (.int .i64 x.sd) := (HC.out w' hw).2.1
      have q1 : w'.cell? ⟨(ad.add (k * 4)).block, (ad.add (k * 4)).off + 1, none⟩ = some (.int .i64 x.cl) := (HC.out w' hw).2.2.1
      have q2 : w'.cell? ⟨(ad.add (k * 4)).block, (ad.add (k * 4)).off + 2, none⟩ = some (.int .i64 x.wd) := (HC.out w' hw).2.2.2.1
      have q3 : w'.cell? ⟨(ad.add (k * 4)).block, (ad.add (k * 4)).off + 3, none⟩ = some (.int .i64 x.ht) := (HC.out w' hw).2.2.2.2
      go_simp
      exact ⟨rfl, rfl⟩
    · intro gg w' hw hk
      go_simp
      exact ⟨rfl, rfl⟩
    · intro gg w' hw hk
      go_simp
      exact ⟨rfl, rfl⟩
    · intro gg w' hw hk
      go_simp
      exact ⟨rfl, rfl⟩
    · intro gg w' hw hk
      have q0 : w'.cell? ⟨P.m, 4, none⟩ = some (.int .i64 s.m.top) := ((HC.out w' hw).1.m).at' 4
      go_simp
      exact ⟨rfl, rfl⟩
    · intro gg w' hw hk
      go_simp
      exact Hold.stays_call (rwant_any x f t s.m.top w')
    · refine ⟨fltR_keeps _ _ _ _, fun gg w' hw hk => ?_⟩
      have h := HFl.out w' (HC.out w' hw).1 hw.size
      go_simp
      exact Hold.gives_call h
    · refine ⟨fltR_keeps _ _ _ _, fun gg w' hw hk => ?_⟩
      have h := hk ⟨10, .data⟩ (by simp) rfl _ rfl
      go_simp
      exact ⟨Below.refl _ _, h⟩
    · refine ⟨fltM_keeps _ _ _, fun gg w' hw hk => ?_⟩
      have h : FltR w q m' r w' (gg 11) := hk ⟨11, .data⟩ (by simp) rfl _ rfl
      refine fltR_cases h ?_
      clear h hk
      intro A3 c3 e h2
      go_simp
      exact ⟨Below.refl _ _, A3, c3, rfl, h2.out⟩
    · intro gg w' hw hk
      have h : FltR w q m' r w' (gg 11) := hk ⟨11, .data⟩ (by simp) rfl _ rfl
      refine fltR_cases h ?_
      clear h hk
      intro A3 c3 e h2
      go_simp
      exact ⟨rfl, rfl⟩
    · intro gg w' hw hk
      have h : FltR w q m' r w' (gg 11) := hk ⟨11, .data⟩ (by simp) rfl _ rfl
      refine fltR_cases h ?_
      clear h hk
      intro A3 c3 e h2
      go_simp
      exact ⟨rfl, rfl⟩
    · refine ⟨freshR_keeps _ _ _ (by simp), fun gg w' hw hk => ?_⟩
      have hsz := hw.size
      go_simp
      exact ⟨ba1 _ _, freshR_new w w' [.slice none 0 0, .int .i64 0, .int .i64 0, .int .i64 0, .int .i64 0, .slice none 0 0] 79 hsz⟩
    · refine ⟨freshR_keeps _ _ _ (by simp), fun gg w' hw hk => ?_⟩
      have hsz := hw.size
      go_simp
      exact ⟨ba1 _ _, freshR_new w w' [.int .i64 0, .int .i64 0, .int .i64 0, .int .i64 0] 44 hsz⟩
  · simp only [Hold.fill, Hold.Leave.value]
    intro i hi o v ho hv gg w' hw hk w1
    simp only [List.mem_cons, List.not_mem_nil, or_false] at hi
    rcases hi with rfl | rfl
    · obtain rfl := Option.some.inj (show some _ = some o from ho)
      have hv2 : Fl.box r = v := Hold.Leave.val.inj (Option.some.inj (show some (Hold.Leave.val (Fl.box r)) = some (Hold.Leave.val v) from hv))
      subst hv2
      have h : FltR w q m' r w' (gg 11) := hk ⟨11, .data⟩ (by simp) rfl _ rfl
      refine fltR_cases h ?_
      clear h hk
      intro A3 c3 e h2
      go_simp
    · obtain rfl := Option.some.inj (show some _ = some o from ho)
      have hv2 : Value.bool true = v := Hold.Leave.val.inj (Option.some.inj (show some (Hold.Leave.val (Value.bool true)) = some (Hold.Leave.val v) from hv))
      subst hv2
      have h : FltR w q m' r w' (gg 11) := hk ⟨11, .data⟩ (by simp) rfl _ rfl
      refine fltR_cases h ?_
      clear h hk
      intro A3 c3 e h2
      go_simp
  intro Q9 hQ9 gg w4 k4 hgg
  simp only [Hold.fill, Hold.Leave.value, List.length_cons, List.length_nil, List.drop_succ_cons, List.drop_zero]
  have h12 := hgg 12 _ rfl
  have h15 := hgg 15 _ rfl
  have h16 := hgg 16 _ rfl
  obtain ⟨A3, c3, e12, m12⟩ := h12
  obtain ⟨b15, e15, z15, g15, t15⟩ := h15
  obtain ⟨b16, e16, z16, g16, t16⟩ := h16
  rw [e12, e15, e16]
  generalize gg 10 = u10
  generalize gg 11 = u11
  clear hgg e12 e15 e16
  have hne : b16 ≠ b15 := types_ne t16 t15 (by decide)
  have hne2 : b15 ≠ b16 := fun e => hne e.symm
  have q0 : w4.cell? ⟨b15, 0, none⟩ = some (.slice none 0 0) := z15.at' 0
  have f0 : w4.frozen? ⟨b15, 0, none⟩ = false := z15.frz 0
  have q1 : w4.cell? ⟨b15, 1, none⟩ = some (.int .i64 0) := z15.at' 1
  have f1 : w4.frozen? ⟨b15, 1, none⟩ = false := z15.frz 1
  have q2 : w4.cell? ⟨b15, 2, none⟩ = some (.int .i64 0) := z15.at' 2
  have f2 : w4.frozen? ⟨b15, 2, none⟩ = false := z15.frz 2
  have q3 : w4.cell? ⟨b15, 3, none⟩ = some (.int .i64 0) := z15.at' 3
  have f3 : w4.frozen? ⟨b15, 3, none⟩ = false := z15.frz 3
  have q4 : w4.cell? ⟨b15, 4, none⟩ = some (.int .i64 0) := z15.at' 4
  have f4 : w4.frozen? ⟨b15, 4, none⟩ = false := z15.frz 4
  have q5 : w4.cell? ⟨b15, 5, none⟩ = some (.slice none 0 0) := z15.at' 5
  have f5 : w4.frozen? ⟨b15, 5, none⟩ = false := z15.frz 5
  have p0 : w4.cell? ⟨b16, 0, none⟩ = some (.int .i64 0) := z16.at' 0
  have g0 : w4.frozen? ⟨b16, 0, none⟩ = false := z16.frz 0
  have p1 : w4.cell? ⟨b16, 1, none⟩ = some (.int .i64 0) := z16.at' 1
  have g1 : w4.frozen? ⟨b16, 1, none⟩ = false := z16.frz 1
  have p2 : w4.cell? ⟨b16, 2, none⟩ = some (.int .i64 0) := z16.at' 2
  have g2 : w4.frozen? ⟨b16, 2, none⟩ = false := z16.frz 2
  have p3 : w4.cell? ⟨b16, 3, none⟩ = some (.int .i64 0) := z16.at' 3
  have g3 : w4.frozen? ⟨b16, 3, none⟩ = false := z16.frz 3
  have v15 := row_six z15 (.slice A3 (q.nF + 1) c3) (.int .i64 m'.f) (.int .i64 m'.t) (.int .i64 m'.y) (.int .i64 m'.top) (.slice q.AZ q.nZ q.cZ)
  have z16' : RowAt (World.setCell (World.setCell (World.setCell (World.setCell (World.setCell (World.setCell w4 ⟨b15, 0, none⟩ (.slice A3 (q.nF + 1) c3)) ⟨b15, 1, none⟩ (.int .i64 m'.f)) ⟨b15, 2, none⟩ (.int .i64 m'.t)) ⟨b15, 3, none⟩ (.int .i64 m'.y)) ⟨b15, 4, none⟩ (.int .i64 m'.top)) ⟨b15, 5, none⟩ (.slice q.AZ q.nZ q.cZ)) b16 [.int .i64 0, .int .i64 0, .int .i64 0, .int .i64 0] := z16.kept (v15.2.block b16 hne)
  have v16 := row_four z16' (.int .i64 r.l) (.int .i64 r.t) (.int .i64 r.r) (.int .i64 r.b)
  have kV : But (fun j => j = b15 ∨ j = b16) w4 (World.setCell (World.setCell (World.setCell (World.setCell (World.setCell (World.setCell (World.setCell (World.setCell (World.setCell (World.setCell w4 ⟨b15, 0, none⟩ (.slice A3 (q.nF + 1) c3)) ⟨b15, 1, none⟩ (.int .i64 m'.f)) ⟨b15, 2, none⟩ (.int .i64 m'.t)) ⟨b15, 3, none⟩ (.int .i64 m'.y)) ⟨b15, 4, none⟩ (.int .i64 m'.top)) ⟨b15, 5, none⟩ (.slice q.AZ q.nZ q.cZ)) ⟨b16, 0, none⟩ (.int .i64 r.l)) ⟨b16, 1, none⟩ (.int .i64 r.t)) ⟨b16, 2, none⟩ (.int .i64 r.r)) ⟨b16, 3, none⟩ (.int .i64 r.b)) := (but_more (but_only v15.2) (fun _ e => .inl e)).trans (but_only v16.2) (fun _ _ e => .inr e)
  have mV := mineE_but m12 kV (fun j e g => g.elim (types_ne (mine_type m12 (Nat.succ_pos _) e) t15 (by decide)) (types_ne (mine_type m12 (Nat.succ_pos _) e) t16 (by decide)))
  have bV := k4.trans (kV.below k4.size (fun j e => e.elim (fun e => by rw [e]; exact g15) (fun e => by rw [e]; exact g16)))
  have HS := Lib.hid (⟨HD.out.1.below bV, HD.out.2.trans (bV.mono HD.out.2.size), v15.1.kept (v16.2.block b15 hne2), v16.1, mV, g16⟩ : Dat (World.setCell (World.setCell (World.setCell (World.setCell (World.setCell (World.setCell (World.setCell (World.setCell (World.setCell (World.setCell w4 ⟨b15, 0, none⟩ (.slice A3 (q.nF + 1) c3)) ⟨b15, 1, none⟩ (.int .i64 m'.f)) ⟨b15, 2, none⟩ (.int .i64 m'.t)) ⟨b15, 3, none⟩ (.int .i64 m'.y)) ⟨b15, 4, none⟩ (.int .i64 m'.top)) ⟨b15, 5, none⟩ (.slice q.AZ q.nZ q.cZ)) ⟨b16, 0, none⟩ (.int .i64 r.l)) ⟨b16, 1, none⟩ (.int .i64 r.t)) ⟨b16, 2, none⟩ (.int .i64 r.r)) ⟨b16, 3, none⟩ (.int .i64 r.b)) P q s ∧ Below w0.heap.size w0 _ ∧ RowAt _ b15 (mrow A3 (q.nF + 1) c3 q.AZ q.nZ q.cZ m') ∧ RowAt _ b16 (frow r) ∧ MineE encF 56 _ w.heap.size A3 (q.nF + 1) c3 m'.fs ∧ w.heap.size ≤ b16)
  clear v15 z16' v16 kV mV bV z15 z16 g15 t15 g16 t16 m12 k4 HC HFl
  have HQ9 := Lib.hid hQ9
  clear hQ9
  go_wp2_with fail
  refine HQ9.out _ _ ?_
  clear HQ9
  go_upto_region 21 with fail
  clear q0 q1 q2 q3 q4 q5 f0 f1 f2 f3 f4 f5 p0 p1 p2 p3 g0 g1 g2 g3 hne hne2
  generalize (World.setCell (World.setCell (World.setCell (World.setCell (World.setCell (World.setCell (World.setCell (World.setCell (World.setCell (World.setCell w4 ⟨b15, 0, none⟩ (.slice A3 (q.nF + 1) c3)) ⟨b15, 1, none⟩ (.int .i64 m'.f)) ⟨b15, 2, none⟩ (.int .i64 m'.t)) ⟨b15, 3, none⟩ (.int .i64 m'.y)) ⟨b15, 4, none⟩ (.int .i64 m'.top)) ⟨b15, 5, none⟩ (.slice q.AZ q.nZ q.cZ)) ⟨b16, 0, none⟩ (.int .i64 r.l)) ⟨b16, 1, none⟩ (.int .i64 r.t)) ⟨b16, 2, none⟩ (.int .i64 r.r)) ⟨b16, 3, none⟩ (.int .i64 r.b)) = V at *
  have r0 : V.cell? ⟨b15, 0, none⟩ = some (.slice A3 (q.nF + 1) c3) := HS.out.2.2.1.at' 0
  have r1 : V.cell? ⟨b15, 1, none⟩ = some (.int .i64 m'.f) := HS.out.2.2.1.at' 1
  have r2 : V.cell? ⟨b15, 2, none⟩ = some (.int .i64 m'.t) := HS.out.2.2.1.at' 2
  have r3 : V.cell? ⟨b15, 3, none⟩ = some (.int .i64 m'.y) := HS.out.2.2.1.at' 3
  have r4 : V.cell? ⟨b15, 4, none⟩ = some (.int .i64 m'.top) := HS.out.2.2.1.at' 4
  have r5 : V.cell? ⟨b15, 5, none⟩ = some (.slice q.AZ q.nZ q.cZ) := HS.out.2.2.1.at' 5
  have q0 : V.cell? ⟨P.m, 0, none⟩ = some (.slice q.AF q.nF q.cF) := HS.out.1.m.at' 0
  have f0 : V.frozen? ⟨P.m, 0, none⟩ = false := HS.out.1.m.frz 0
  have q1 : V.cell? ⟨P.m, 1, none⟩ = some (.int .i64 s.m.f) := HS.out.1.m.at' 1
  have f1 : V.frozen? ⟨P.m, 1, none⟩ = false := HS.out.1.m.frz 1
  have q2 : V.cell? ⟨P.m, 2, none⟩ = some (.int .i64 s.m.t) := HS.out.1.m.at' 2
  have f2 : V.frozen? ⟨P.m, 2, none⟩ = false := HS.out.1.m.frz 2
  have q3 : V.cell? ⟨P.m, 3, none⟩ = some (.int .i64 s.m.y) := HS.out.1.m.at' 3
  have f3 : V.frozen? ⟨P.m, 3, none⟩ = false := HS.out.1.m.frz 3
  have q4 : V.cell? ⟨P.m, 4, none⟩ = some (.int .i64 s.m.top) := HS.out.1.m.at' 4
  have f4 : V.frozen? ⟨P.m, 4, none⟩ = false := HS.out.1.m.frz 4
  have q5 : V.cell? ⟨P.m, 5, none⟩ = some (.slice q.AZ q.nZ q.cZ) := HS.out.1.m.at' 5
  have f5 : V.frozen? ⟨P.m, 5, none⟩ = false := HS.out.1.m.frz 5
  have v6 := row_six HS.out.1.m (.slice A3 (q.nF + 1) c3) (.int .i64 m'.f) (.int .i64 m'.t) (.int .i64 m'.y) (.int .i64 m'.top) (.slice q.AZ q.nZ q.cZ)
  have HU := Lib.hid (⟨HD.out.1.floated6 HS.out.1 HM'.out HS.out.2.2.2.2.1 (but_only v6.2) v6.1, HS.out.2.1.trans ((but_only v6.2).below HS.out.2.1.size (fun j e => by rw [e, ← HE.out.hB]; exact HD.out.1.b2)), HS.out.2.2.2.1.but (by simp) (but_only v6.2) (fun e => by have := HD.out.1.low 1 P.m rfl; have := HS.out.2.2.2.2.2; omega)⟩ : Dat _ P { q with AF := A3, nF := q.nF + 1, cF := c3 } { s with m := m' } ∧ Below w0.heap.size w0 (World.setCell (World.setCell (World.setCell (World.setCell (World.setCell (World.setCell V ⟨P.m, 0, none⟩ (.slice A3 (q.nF + 1) c3)) ⟨P.m, 1, none⟩ (.int .i64 m'.f)) ⟨P.m, 2, none⟩ (.int .i64 m'.t)) ⟨P.m, 3, none⟩ (.int .i64 m'.y)) ⟨P.m, 4, none⟩ (.int .i64 m'.top)) ⟨P.m, 5, none⟩ (.slice q.AZ q.nZ q.cZ)) ∧ RowAt _ b16 (frow r))
  clear v6
  go_upto_region 22 with fail
  clear r0 r1 r2 r3 r4 r5 q0 q1 q2 q3 q4 q5 f0 f1 f2 f3 f4 f5
  generalize (World.setCell (World.setCell (World.setCell (World.setCell (World.setCell (World.setCell V ⟨P.m, 0, none⟩ (.slice A3 (q.nF + 1) c3)) ⟨P.m, 1, none⟩ (.int .i64 m'.f)) ⟨P.m, 2, none⟩ (.int .i64 m'.t)) ⟨P.m, 3, none⟩ (.int .i64 m'.y)) ⟨P.m, 4, none⟩ (.int .i64 m'.top)) ⟨P.m, 5, none⟩ (.slice q.AZ q.nZ q.cZ)) = U at *
  have hkb : (k : Int) < (s.box.length : Int) := by have := HBl.out; have := HK.out.1; omega
  obtain ⟨bo, hbo, d0, d1, d2, d3, fz⟩ := box_cells HU.out.1.bo (k := k) (by show k < s.box.length; have := HBl.out; have := HK.out.1; omega)
  have f0 := fz (k * 4)
  have f1 := fz (k * 4 + 1)
  have f2 := fz (k * 4 + 2)
  have f3 := fz (k * 4 + 3)
  have o0 : U.cell? ⟨P.o, 0, none⟩ = some (.slice (some ⟨P.bx, 0, none⟩) s.box.length s.box.length) := HU.out.1.o.at' 0
  have r0 : U.cell? ⟨b16, 0, none⟩ = some (.int .i64 r.l) := HU.out.2.2.at' 0
  have r1 : U.cell? ⟨b16, 1, none⟩ = some (.int .i64 r.t) := HU.out.2.2.at' 1
  have r2 : U.cell? ⟨b16, 2, none⟩ = some (.int .i64 r.r) := HU.out.2.2.at' 2
  have r3 : U.cell? ⟨b16, 3, none⟩ = some (.int .i64 r.b) := HU.out.2.2.at' 3
  clear hbo fz
  go_wp2_with fail
  clear d0 d1 d2 d3 f0 f1 f2 f3 o0 r0 r1 r2 r3 hkb
  have hb8 : MineE encB 44 (World.setCell (World.setCell (World.setCell (World.setCell U ⟨P.bx, k * 4, none⟩ (.int .i64 r.l)) ⟨P.bx, k * 4 + 1, none⟩ (.int .i64 r.t)) ⟨P.bx, k * 4 + 2, none⟩ (.int .i64 r.r)) ⟨P.bx, k * 4 + 3, none⟩ (.int .i64 r.b)) P.B (some ⟨P.bx, 0, none⟩) s.box.length s.box.length (s.box.set k (bxOf r)) ∧ But (fun j => j = P.bx) U (World.setCell (World.setCell (World.setCell (World.setCell U ⟨P.bx, k * 4, none⟩ (.int .i64 r.l)) ⟨P.bx, k * 4 + 1, none⟩ (.int .i64 r.t)) ⟨P.bx, k * 4 + 2, none⟩ (.int .i64 r.r)) ⟨P.bx, k * 4 + 3, none⟩ (.int .i64 r.b)) := mineB_put HU.out.1.bo (k := k) (by show k < s.box.length; have := HBl.out; have := HK.out.1; omega) (bxOf r)
  refine HQ.out _ _ ?_
  rw [HP.out]
  exact ⟨{ q with AF := A3, nF := q.nF + 1, cF := c3 }, ⟨⟨rfl, rfl, rfl, rfl, rfl, rfl, rfl, rfl, rfl, rfl, rfl⟩, HU.out.1.boxed (bs := s.box.set k (bxOf r)) List.length_set hb8.1 hb8.2, HU.out.2.1.trans (hb8.2.below HU.out.2.1.size (fun j e => by rw [e, ← HE.out.hB]; exact HU.out.1.high 2 P.bx (by decide) rfl))⟩⟩

end Go.Proofs.YtdibdfalahjmbaaGreat.Text
