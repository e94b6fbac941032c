/- Texts of this proof that follow each other, in one file. -/
import Derived.Test.YtdibdfalahjmbaaGreatPart19
import Derived.Test.YtdibdfalahjmbaaGreatPart10
import Derived.Test.YtdibdfalahjmbaaGreatPart40
import Derived.Test.YtdibdfalahjmbaaGreatPart41
import Derived.Test.YtdibdfalahjmbaaGreatPart32
import Derived.Test.YtdibdfalahjmbaaGreatPart30
namespace Go.Proofs.YtdibdfalahjmbaaGreat.Text

open Go.RowKit Go.Sort Go.Proofs.YtdibdfalahjmbaaGreat.Rect Go.Proofs.YtdibdfalahjmbaaGreat.More Go.Proofs.YtdibdfalahjmbaaGreat.Shelf Go.Proofs.YtdibdfalahjmbaaGreat.Space Go.Proofs.YtdibdfalahjmbaaGreat.Place Go.Proofs.YtdibdfalahjmbaaGreat.Line

set_option linter.unusedVariables false

set_option linter.unusedSimpArgs false

abbrev It.v (x : It) : Value := .agg #[.int .i64 x.sd, .int .i64 x.cl, .int .i64 x.wd, .int .i64 x.ht]

set_option maxRecDepth 100000 in
set_option maxHeartbeats 1000000 in
theorem rwant_any (x : It) (f t y : Int) (w : World) : Calls Tryz.prog 21 #[x.v, .int .i64 f, .int .i64 t, .int .i64 y] w fun e w' => e = .returned (x.want f t y).v ∧ Below w.heap.size w w' := by
  go_enter Tryz.func21, Tryz.ntmps21
  go_wp2
  all_goals exact bodyPost_ret (v := (x.want f t y).v) (by simp [results, Tryz.results21, go_sem, It.want]) rfl ⟨rfl, by first | exact ba1 _ _ | exact ba2 _ _ _ | exact ba3 _ _ _ _⟩

end Go.Proofs.YtdibdfalahjmbaaGreat.Text

namespace Go.Proofs.YtdibdfalahjmbaaGreat.Text

open Go.RowKit Go.Sort Go.Proofs.YtdibdfalahjmbaaGreat.Rect Go.Proofs.YtdibdfalahjmbaaGreat.More Go.Proofs.YtdibdfalahjmbaaGreat.Shelf Go.Proofs.YtdibdfalahjmbaaGreat.Space Go.Proofs.YtdibdfalahjmbaaGreat.Place Go.Proofs.YtdibdfalahjmbaaGreat.Line

set_option linter.unusedVariables false

set_option linter.unusedSimpArgs false

theorem dat_ap {o m bx r e1 e2 B n c : Nat} {A : Option Addr} (h1 : bx < o) (h2 : o < m) (h3 : m < e1) (h4 : e1 < e2) (h5 : B ≤ r) (h6 : r < bx) (hA : ∀ k, 0 < n → blk A = some k → k < B) :
    ∀ i j k, i < 6 → rpart ⟨o, m, bx, r, B⟩ ⟨A, n, c, none, 0, 0, some ⟨e1, 0, none⟩, 0, some ⟨e2, 0, none⟩, 0, none, 0⟩ i k → rpart ⟨o, m, bx, r, B⟩ ⟨A, n, c, none, 0, 0, some ⟨e1, 0, none⟩, 0, some ⟨e2, 0, none⟩, 0, none, 0⟩ j k → i = j := by
  have ev : ∀ i k, rpart ⟨o, m, bx, r, B⟩ ⟨A, n, c, none, 0, 0, some ⟨e1, 0, none⟩, 0, some ⟨e2, 0, none⟩, 0, none, 0⟩ i k → (i = 0 ∧ k = o) ∨ (i = 1 ∧ k = m) ∨ (i = 2 ∧ k = bx) ∨ (i = 4 ∧ k = e1) ∨ (i = 5 ∧ k = e2) ∨ (i = 6 ∧ k < B) ∨ (i = 8 ∧ k = r) := fun i k e => by
    match i, e with
    | 0, e => exact .inl ⟨rfl, e⟩
    | 1, e => exact .inr (.inl ⟨rfl, e⟩)
    | 2, e => exact .inr (.inr (.inl ⟨rfl, e⟩))
    | 3, e => cases e
    | 4, e => exact .inr (.inr (.inr (.inl ⟨rfl, (Option.some.inj e).symm⟩)))
    | 5, e => exact .inr (.inr (.inr (.inr (.inl ⟨rfl, (Option.some.inj e).symm⟩))))
    | 6, e => exact .inr (.inr (.inr (.inr (.inr (.inl ⟨rfl, hA k e.1 e.2⟩)))))
    | 7, e => cases e
    | 8, e => exact .inr (.inr (.inr (.inr (.inr (.inr ⟨rfl, e⟩)))))
    | _ + 9, e => exact e.elim
  intro i j k hi e1 e2
  have := ev i k e1
  have := ev j k e2
  omega

theorem ref_boxes (w : World) (n : Nat) (hn : n ≤ 1000) : ∃ w', (Instr.makeSlice 36 (.int .i64 (n : Int)) (.int .i64 (n : Int))).run Tryz.prog w = .ok (.slice (some ⟨w.heap.size, 0, none⟩) n n) w' ∧
    MineE encB 44 w' w.heap.size (some ⟨w.heap.size, 0, none⟩) n n (List.replicate n noBx) ∧ Below w.heap.size w w' :=
  run_make_E encB (bytes := 32) noBx (.agg #[.int .i64 0, .int .i64 0, .int .i64 0, .int .i64 0]) rfl Tryz.underlying36 (by kernel_rfl) (by omega) w n (by omega)

section

variable {w w5 : World} {P : RFast} {q : RLoose} {s : Ly}

theorem Dat.onrow {o : Obj} (h : Dat (w.alloc o) P q s) {A' : Option Addr} {c' : Nat} (k : Nat) (hA : AppendedE encN 3 (w.alloc o) P.B q.A1 s.row.length s.row [k] 1 A' c' w5) :
    Dat w5 P { q with A1 := A', c1 := c' } { s with row := s.row ++ [k] } ∧ Below P.B (w.alloc o) w5 := by
  have g := hA.2.1
  have kA : But (rpart P q 4) (w.alloc o) w5 := ⟨g.os, g.tape, g.output, g.size, fun j hj hn => g.block j hj (fun e => hn e.symm)⟩
  refine ⟨h.places (A2 := q.A2) (c2 := q.c2) (wait := s.wait) (i := 4) (.inl rfl) kA (fun e => absurd rfl e) (fun _ => ⟨?_, ?_⟩) (fun _ => ⟨rfl, rfl, rfl⟩) (fun e => by omega), AppendedE.below hA h.ro (Below.refl _ _) (Nat.le_refl _) h.hB⟩
  · rw [List.length_append]; exact hA.1
  · rcases hA.2.2 with x | x
    · exact .inl x
    · exact .inr fun j e => by rw [x] at e; injection e with e; omega

theorem Dat.onwait {o : Obj} (h : Dat (w.alloc o) P q s) {A' : Option Addr} {c' : Nat} (k : Nat) (hA : AppendedE encN 3 (w.alloc o) P.B q.A2 s.wait.length s.wait [k] 1 A' c' w5) :
    Dat w5 P { q with A2 := A', c2 := c' } { s with wait := s.wait ++ [k] } ∧ Below P.B (w.alloc o) w5 := by
  have g := hA.2.1
  have kA : But (rpart P q 5) (w.alloc o) w5 := ⟨g.os, g.tape, g.output, g.size, fun j hj hn => g.block j hj (fun e => hn e.symm)⟩
  refine ⟨h.places (A1 := q.A1) (c1 := q.c1) (row := s.row) (i := 5) (.inr rfl) kA (fun _ => ⟨rfl, rfl, rfl⟩) (fun e => by omega) (fun e => absurd rfl e) (fun _ => ⟨?_, ?_⟩), AppendedE.below hA h.wa (Below.refl _ _) (Nat.le_refl _) h.hB⟩
  · rw [List.length_append]; exact hA.1
  · rcases hA.2.2 with x | x
    · exact .inl x
    · exact .inr fun j e => by rw [x] at e; injection e with e; omega

theorem Dat.norow (h : Dat w P q s) {w' : World} {g : Nat} (k : Below w.heap.size w w') (hg : w.heap.size ≤ g) (hm : MineE encN 3 w' P.B (some ⟨g, 0, none⟩) 0 0 []) : Dat w' P { q with A1 := some ⟨g, 0, none⟩, c1 := 0 } { s with row := [] } :=
  h.places (A2 := q.A2) (c2 := q.c2) (wait := s.wait) (row := []) (i := 4) (.inl rfl) (But.of_below k) (fun e => absurd rfl e) (fun _ => ⟨hm, .inr fun j e => by have e : g = j := Option.some.inj e; omega⟩) (fun _ => ⟨rfl, rfl, rfl⟩) (fun e => by omega)

theorem Dat.nowait (h : Dat w P q s) {w' : World} {g : Nat} (k : Below w.heap.size w w') (hg : w.heap.size ≤ g) (hm : MineE encN 3 w' P.B (some ⟨g, 0, none⟩) 0 0 []) : Dat w' P { q with A2 := some ⟨g, 0, none⟩, c2 := 0 } { s with wait := [] } :=
  h.places (A1 := q.A1) (c1 := q.c1) (row := s.row) (wait := []) (i := 5) (.inr rfl) (But.of_below k) (fun _ => ⟨rfl, rfl, rfl⟩) (fun e => by omega) (fun e => absurd rfl e) (fun _ => ⟨hm, .inr fun j e => by have e : g = j := Option.some.inj e; omega⟩)

theorem Dat.online {o : Obj} (h : Dat (w.alloc o) P q s) {A' : Option Addr} {c' : Nat} (e : Mk × List Nat) (hA : AppendedE encL 49 (w.alloc o) P.B q.A3 s.out.length (s.out.map fun e => lnOf e.1) [lnOf e.1] 1 A' c' w5) :
    Dat (w5.setCell ⟨P.o, 1, none⟩ (.slice A' (s.out.length + 1) c')) P { q with A3 := A', c3 := c' } { s with out := s.out ++ [e] } ∧ Below P.B (w.alloc o) (w5.setCell ⟨P.o, 1, none⟩ (.slice A' (s.out.length + 1) c')) := by
  have g := hA.2.1
  have hno : blk q.A3 ≠ some P.o := fun x => by have := h.ap 3 0 P.o (by decide) x rfl; omega
  have kA : But (fun j => rpart P q 3 j ∨ j = P.o) (w.alloc o) (w5.setCell ⟨P.o, 1, none⟩ (.slice A' (s.out.length + 1) c')) := app_but hA (fun j x => .inl x) (.inr rfl)
  refine ⟨h.lined kA ?_ ?_ ?_, (AppendedE.below hA h.li (Below.refl _ _) (Nat.le_refl _) h.hB).trans ((but_one w5 P.o 1 _).below (Nat.le_trans h.hB g.size) (fun k e => by have := h.b1; omega))⟩
  · have := app_row hA h.o (by simp) (by show 1 < 4; omega) hno (v := .slice A' (s.out.length + 1) c')
    unfold orow at this ⊢
    rw [List.length_append]
    exact this
  · have := app_own hA (kb := P.o) (o := 1) (v := .slice A' (s.out.length + 1) c') (h.o.lt (by simp)) hno
    rw [List.length_append, List.map_append]
    exact this
  · rcases hA.2.2 with x | x
    · exact .inl x
    · exact .inr fun j e => by rw [x] at e; injection e with e; omega

def NewOr (W : World) (T : TypeId) (A : Option Addr) (w : World) (A3 : Option Addr) : Prop := (∀ ad, A3 = some ad → W.heap.size ≤ ad.block ∧ ∃ cur fz, w.heap[ad.block]? = some (.cells cur T fz)) ∨ A3 = A

theorem NewOr.below {W : World} {T : TypeId} {A A3 : Option Addr} (h : NewOr W T A w A3) {w' : World} (k : Below w.heap.size w w') : NewOr W T A w' A3 := h.imp (fun h ad e => by
  obtain ⟨h1, cur, fz, h2⟩ := h ad e
  exact ⟨h1, cur, fz, (k.block _ (lt_of_block h2)).trans h2⟩) id

theorem newOr_mine {α : Type} {E : Enc α} {W : World} {T : TypeId} {A A3 : Option Addr} {B n c : Nat} {xs : List α} (h : MineE E T w B A3 n c xs) (hn : 0 < n) (hW : W.heap.size ≤ B) : NewOr W T A w A3 := .inl fun ad e => by
  rcases h.2 with ⟨_, h0⟩ | ⟨g, cap, cur, e2, hb, hg, -⟩
  · omega
  · injection e2 with e2 e3 e4
    rw [e] at e2
    have e5 : ad = ⟨g, 0, none⟩ := Option.some.inj e2
    rw [e5]
    exact ⟨Nat.le_trans hW hb, cur, _, hg⟩

def AddR (W : World) (n : Nat) (q : RLoose) (m' : Mk) (v : Bool) (w : World) (u : Value) : Prop := ∃ A3 n3 c3, u = .tuple #[Mv q.AF q.nF q.cF A3 n3 c3 m', .bool v] ∧ RefIn n w q.AF q.nF q.cF A3 n3 c3 m' ∧ NewOr W 82 q.AZ w A3

def AddM (W : World) (n : Nat) (q : RLoose) (m' : Mk) (w : World) (u : Value) : Prop := ∃ A3 n3 c3, u = Mv q.AF q.nF q.cF A3 n3 c3 m' ∧ RefIn n w q.AF q.nF q.cF A3 n3 c3 m' ∧ NewOr W 82 q.AZ w A3

def FreshR (W : World) (xs : List Value) (T : TypeId) (w : World) (u : Value) : Prop := ∃ b, u = .pointer (some ⟨b, 0, none⟩) ∧ RowAt w b xs ∧ W.heap.size ≤ b ∧ ∃ cur fz, w.heap[b]? = some (.cells cur T fz)

theorem addR_keeps (W : World) (n : Nat) (q : RLoose) (m' : Mk) (v : Bool) : Hold.Keeps (AddR W n q m' v) := fun w w' u k ⟨A3, n3, c3, e, h1, h2⟩ => ⟨A3, n3, c3, e, h1.thru k, h2.below k⟩

theorem addM_keeps (W : World) (n : Nat) (q : RLoose) (m' : Mk) : Hold.Keeps (AddM W n q m') := fun w w' u k ⟨A3, n3, c3, e, h1, h2⟩ => ⟨A3, n3, c3, e, h1.thru k, h2.below k⟩

theorem freshR_keeps (W : World) (xs : List Value) (T : TypeId) (hx : 0 < xs.length) : Hold.Keeps (FreshR W xs T) := fun w w' u k ⟨b, e, h1, h2, cur, fz, h3⟩ => ⟨b, e, h1.below hx k, h2, cur, fz, (k.block _ (lt_of_block h3)).trans h3⟩

theorem freshR_new (W w : World) (xs : List Value) (T : TypeId) (h : W.heap.size ≤ w.heap.size) : FreshR W xs T (w.alloc (.cells xs.toArray T)) (.pointer (some ⟨w.heap.size, 0, none⟩)) := ⟨_, rfl, RowAt.new w xs T, h, _, _, heap_alloc_new w _⟩

theorem refadd_new {n : Nat} {A : Option Addr} {nF cF : Nat} {A2 : Option Addr} {n2 c2 : Nat} {m : Mk} {z : Sz} {W : World} (h : RefIn n w A nF cF A2 n2 c2 m) (hz : RightS z) (hk : n ≤ 90000) (hW : W.heap.size ≤ w.heap.size) :
    Calls Tryz.prog 20 #[Mv A nF cF A2 n2 c2 m, .agg #[.int .i64 z.wd, .int .i64 z.ht]] w fun e w' => (∃ A3 n3 c3, e = .returned (.tuple #[Mv A nF cF A3 n3 c3 (m.add z).1, .bool (m.add z).2]) ∧ RefIn (n + 1) w' A nF cF A3 n3 c3 (m.add z).1 ∧ NewOr W 82 A2 w' A3) ∧ Below w.heap.size w w' := by
  have hn2 : n2 ≤ 100000 := by rw [h.i.hn2]; have := h.d.hl; omega
  have hti := h.d.tidy (by omega)
  have hp := h.p
  have hd := h.d.add hz
  by_cases hm : m.az = []
  · rw [add_nil hm] at hd
    refine (refadd_begin A nF cF A2 n2 c2 m z w h.i h.e hz hn2 hti hm).mono ?_
    rintro e w' ⟨⟨A3, c3, rfl, B0, hB, hs⟩, kb⟩
    rw [add_nil hm]
    have p1 := hd.p1 (by show [z] ≠ []; simp)
    have p2 := hd.p2 (by show [z] ≠ []; simp)
    obtain ⟨q1, q2, q3⟩ := mineZ_some hs (by omega)
    exact ⟨⟨A3, 1, c3, rfl, ⟨⟨h.i.hn, h.i.hlen, h.i.hx.thru kb, rfl, by omega, sizes_mine hs, hd.ha, by omega⟩, q1, hd, ⟨p1, p2⟩, q2⟩, newOr_mine hs (by omega) (Nat.le_trans hW hB)⟩, kb⟩
  · cases hf : m.fits z with
    | true =>
      rw [add_fits hm hf] at hd
      refine (refadd_fits A nF cF A2 n2 c2 m z w h.i h.e hz hn2 hti hm h.i.ht hf).mono ?_
      rintro e w' ⟨⟨A3, c3, rfl, B0, hB, hs⟩, kb⟩
      rw [add_fits hm hf]
      have p1 := hd.p1 (more_ne m z)
      have p2 := hd.p2 (more_ne m z)
      obtain ⟨q1, q2, q3⟩ := mineZ_some hs (by omega)
      exact ⟨⟨A3, n2 + 1, c3, rfl, ⟨⟨h.i.hn, h.i.hlen, h.i.hx.thru kb, by show n2 + 1 = (m.az ++ [z]).length; rw [List.length_append, h.i.hn2]; rfl, by omega, sizes_mine hs, hd.ha, h.i.ht⟩, q1, hd, ⟨p1, p2⟩, q2⟩, newOr_mine hs (by omega) (Nat.le_trans hW hB)⟩, kb⟩
    | false =>
      rw [add_not hm hf] at hd
      refine (refadd_not A nF cF A2 n2 c2 m z w h.i h.e hz hn2 hti hm h.i.ht hf).mono ?_
      rintro e w' ⟨rfl, kb⟩
      rw [add_not hm hf]
      exact ⟨⟨A2, n2, c2, rfl, (h.thru kb).mono (Nat.le_succ n), .inr rfl⟩, kb⟩

theorem addR_call {W w : World} {n : Nat} {q : RLoose} {m : Mk} {z : Sz} (h : RefIn n w q.AF q.nF q.cF q.AZ q.nZ q.cZ m) (hz : RightS z) (hn : n ≤ 1000) (hW : W.heap.size ≤ w.heap.size) :
    Calls Tryz.prog 20 #[Mv q.AF q.nF q.cF q.AZ q.nZ q.cZ m, .agg #[.int .i64 z.wd, .int .i64 z.ht]] w fun e w'' => ∃ u, e = .returned u ∧ AddR W (n + 1) q (m.add z).1 (m.add z).2 w'' u ∧ Below w.heap.size w w'' := by
  refine (refadd_new (W := W) h hz (by omega) hW).mono ?_
  rintro e w'' ⟨⟨A3, n3, c3, rfl, h1, h2⟩, k⟩
  exact ⟨_, rfl, ⟨A3, n3, c3, rfl, h1, h2⟩, k⟩

theorem Dat.added {W w w' : World} (h : Dat w P q s) {n : Nat} {A3 : Option Addr} {n3 c3 : Nat} {m' : Mk} (k : But (fun j => j = P.m) w w') (hr : RowAt w' P.m (mrow q.AF q.nF q.cF A3 n3 c3 m')) (hi : RefIn n w q.AF q.nF q.cF A3 n3 c3 m') (hfs : m'.fs = s.m.fs) (htp : -281474976710656 ≤ m'.top ∧ m'.top ≤ 562949953421312)
    (hA : NewOr W 82 q.AZ w A3) (hW : ∀ i j, i < 6 → rpart P q i j → j < W.heap.size) :
    Dat w' P { q with AZ := A3, nZ := n3, cZ := c3 } { s with m := m' } := by
  refine h.maker (AF := q.AF) (nF := q.nF) (cF := q.cF) k hr hi.i.hn (by rw [hfs]; exact h.hx) h.fn hi.i.hn2 hi.i.hx2 hi.e hi.b htp ?_ ?_
  · intro i ad hi6 h0 e g
    have := h.ap i 6 ad.block hi6 g ⟨h0, by rw [e]; rfl⟩
    omega
  · intro i ad hi6 e g
    rcases hA with x | x
    · have := (x ad e).1; have := hW i _ hi6 g; omega
    · have := h.ap i 7 ad.block hi6 g (by show blk q.AZ = _; rw [← x, e]; rfl)
      omega

theorem RefIn.other {n : Nat} {W w' : World} {q : RLoose} {A3 : Option Addr} {n3 c3 : Nat} {m' : Mk} (h : RefIn n w q.AF q.nF q.cF A3 n3 c3 m') (hA : NewOr W 82 q.AZ w A3) {b : Nat} (hb : W.heap.size ≤ b) {T : TypeId} (hT : T ≠ 82) (hbt : ∃ cur fz, w.heap[b]? = some (.cells cur T fz)) (hz : ∀ ad, q.AZ = some ad → ad.block < W.heap.size)
    (hx : Floats w' w'.heap.size q.AF m'.fs) (k : Draw.Only b w w') : RefIn n w' q.AF q.nF q.cF A3 n3 c3 m' ∧ NewOr W 82 q.AZ w' A3 := by
  have hne : ∀ ad, A3 = some ad → ad.block ≠ b := fun ad e g => by
    rcases hA with x | x
    · obtain ⟨-, c1, f1, h1⟩ := x ad e
      obtain ⟨c2, f2, h2⟩ := hbt
      rw [g, h2] at h1
      have := Option.some.inj h1
      injection this with _ e2 _
      exact hT e2
    · have := hz ad (by rw [← x]; exact e); omega
  refine ⟨⟨⟨h.i.hn, h.i.hlen, hx, h.i.hn2, h.i.hlen2, sizes_but h.i.hx2 (Nat.le_refl _) (but_only k) hne, h.i.ha, h.i.ht⟩, h.e, h.d, h.p, fun ad e => by rw [k.size]; exact h.b ad e⟩, hA.imp (fun x ad e => ?_) id⟩
  obtain ⟨h1, cur, fz, h2⟩ := x ad e
  exact ⟨h1, cur, fz, (k.block _ (hne ad e)).trans h2⟩

end

theorem add_ne (m : Mk) (z : Sz) : (m.add z).1.az ≠ [] := by
  unfold Mk.add
  split
  · exact List.cons_ne_nil _ _
  · rename_i a l q
    split
    · show m.az ++ [z] ≠ []; simp
    · rw [q]; exact List.cons_ne_nil _ _

theorem add_tp {Z : Int} {m : Mk} {z : Sz} (h : Lo Z m) (hz : Z ≤ 140737488355328 + 140000000000000) (hs : RightS z) : -281474976710656 ≤ (m.add z).1.top ∧ (m.add z).1.top ≤ 562949953421312 := by
  have h1 := lo_add h hz hs
  have h2 := h1.p1 (add_ne m z)
  have h3 := h1.p2 (add_ne m z)
  have h4 := h1.y1
  omega

theorem Able.low {its : List It} {Z : Int} {k : Nat} {s : Ly} (h : Able its Z k s) : Lo (Z + 2147483648 * (its.length : Int)) s.m := h.kp.lo.up (by have := h.hk; have := h.kp.wl; omega)

theorem Able.azl {its : List It} {Z : Int} {k : Nat} {s : Ly} (h : Able its Z k s) : s.m.az.length = s.row.length := by rw [h.kp.az, List.length_map]

theorem Dat.refA {w : World} {P : RFast} {q : RLoose} {s : Ly} {its : List It} {Z : Int} {k : Nat} (h : Dat w P q s) (hA : Able its Z k s) (hi : its.length ≤ 30) : RefIn 30 w q.AF q.nF q.cF q.AZ q.nZ q.cZ s.m :=
  h.refin hA.low hA.hz (by have := hA.fs; omega) (by rw [hA.azl]; have := hA.row; omega) (by omega)

theorem step_fits {its : List It} {s : Ly} {k : Nat} (h0 : (itAt its k).sd = 0) (h : (s.m.add (itAt its k).z).2 = true) : s.step its k = { s with m := (s.m.add (itAt its k).z).1, row := s.row ++ [k] } := by
  unfold Ly.step Ly.atom
  rw [if_pos h0, if_pos h]

theorem step_ends {its : List It} {s : Ly} {k : Nat} (h0 : (itAt its k).sd = 0) (h : (s.m.add (itAt its k).z).2 = false) : s.step its k = { s.fin its with m := ((s.fin its).m.add (itAt its k).z).1, row := [k] } := by
  unfold Ly.step Ly.atom
  rw [if_pos h0, if_neg (by rw [h]; decide)]

theorem step_put {its : List It} {s : Ly} {k : Nat} (h0 : (itAt its k).sd ≠ 0) (h : s.m.az = []) : s.step its k = s.putN its k := by
  unfold Ly.step Ly.float Ly.putN
  rw [if_neg h0, h]

theorem step_side {its : List It} {s : Ly} {k : Nat} {r : Fl} (h0 : (itAt its k).sd ≠ 0) (h : s.m.az ≠ []) (hw : s.wait = []) (hb : (s.m.beside (wantAt its s.m k s.m.top)).2 = some r) : s.step its k = s.side its k r := by
  unfold Ly.step Ly.float Ly.side
  rw [if_neg h0]
  split
  · rename_i q; exact absurd q h
  · rw [hw]; dsimp only; rw [hb]

theorem step_waits {its : List It} {s : Ly} {k : Nat} (h0 : (itAt its k).sd ≠ 0) (h : s.m.az ≠ []) (hb : s.wait ≠ [] ∨ (s.m.beside (wantAt its s.m k s.m.top)).2 = none) : s.step its k = s.waits k := by
  unfold Ly.step Ly.float Ly.waits
  rw [if_neg h0]
  split
  · rename_i q; exact absurd q h
  · cases hw : s.wait with
    | nil =>
      dsimp only
      rcases hb with g | g
      · exact absurd hw g
      · rw [g]; rfl
    | cons a l => rfl

end Go.Proofs.YtdibdfalahjmbaaGreat.Text

namespace Go.Proofs.YtdibdfalahjmbaaGreat.Text

open Go.RowKit Go.Sort Go.Proofs.YtdibdfalahjmbaaGreat.Rect Go.Proofs.YtdibdfalahjmbaaGreat.More Go.Proofs.YtdibdfalahjmbaaGreat.Shelf Go.Proofs.YtdibdfalahjmbaaGreat.Space Go.Proofs.YtdibdfalahjmbaaGreat.Place Go.Proofs.YtdibdfalahjmbaaGreat.Line

set_option linter.unusedVariables false

set_option linter.unusedSimpArgs false

def kid : Code → Nat → Code
  | .seq a b, n => match n with | 0 => a | _ => b
  | .cond _ a b, n => match n with | 0 => a | _ => b
  | .block _ c, _ => c
  | .loop c, _ => c
  | c, _ => c

def pick : Code → List Nat → Code
  | c, [] => c
  | c, n :: l => pick (kid c n) l

noncomputable def layC : Code := Tryz.f8.body.getD .skip

noncomputable def cRound : Code := pick layC [1, 1, 1, 1, 0, 1, 0, 0]

noncomputable def c5 : Code := pick layC [1, 1, 1, 1, 0, 1, 0, 0, 0]

noncomputable def cIn : Code := pick layC [1, 1, 1, 1, 0, 1, 0, 0, 1, 0, 0]

noncomputable def cA : Code := pick layC [1, 1, 1, 1, 0, 1, 0, 0, 1, 0, 0, 0]

noncomputable def cB : Code := pick layC [1, 1, 1, 1, 0, 1, 0, 0, 1, 0, 0, 1, 0]

noncomputable def cC : Code := pick layC [1, 1, 1, 1, 0, 1, 0, 0, 1, 0, 0, 1, 1, 0]

noncomputable def cD : Code := pick layC [1, 1, 1, 1, 0, 1, 0, 0, 1, 0, 0, 1, 1, 1, 0]

noncomputable def c42 : Code := pick layC [1, 1, 1, 1, 0, 1, 0, 0, 1, 0, 0, 1, 1, 1, 1, 0]

noncomputable def cE : Code := pick layC [1, 1, 1, 1, 0, 1, 0, 0, 1, 0, 0, 1, 1, 1, 1, 1]

noncomputable def c6 : Code := pick layC [1, 1, 1, 1, 0, 1, 0, 0, 1, 1]

theorem cRound_is : cRound = .seq c5 (.seq (.block 1 cIn) c6) := by kernel_rfl

theorem cIn_is : cIn = .seq cA (.seq cB (.seq cC (.seq cD (.seq c42 cE)))) := by kernel_rfl

structure Fr (v1 v2 v4 v10 v11 v12 v13 v14 v15 : Value) (a : Act) : Prop where
  df : a.defers = []
  len : a.tmps.toList.length = 285
  s1 : a.tmps.toList[1]? = some v1
  s2 : a.tmps.toList[2]? = some v2
  s4 : a.tmps.toList[4]? = some v4
  s10 : a.tmps.toList[10]? = some v10
  s11 : a.tmps.toList[11]? = some v11
  s12 : a.tmps.toList[12]? = some v12
  s13 : a.tmps.toList[13]? = some v13
  s14 : a.tmps.toList[14]? = some v14
  s15 : a.tmps.toList[15]? = some v15

theorem list_lit (L : List Value) (n : Nat) (h : L.length = n) : L = (List.range n).map fun i => L.getD i undef := by
  refine List.ext_getElem (by simp [h]) fun i h1 h2 => ?_
  simp [h1]

set_option maxRecDepth 100000 in
set_option maxHeartbeats 4000000 in
theorem Fr.lit {v1 v2 v4 v10 v11 v12 v13 v14 v15 : Value} {a : Act} (h : Fr v1 v2 v4 v10 v11 v12 v13 v14 v15 a) : ∃ x : Nat → Value, a = ⟨#[x 0, v1, v2, x 3, v4, x 5, x 6, x 7, x 8, x 9, v10, v11, v12, v13, v14, v15, x 16, x 17, x 18, x 19, x 20, x 21, x 22, x 23, x 24, x 25, x 26, x 27, x 28, x 29, x 30, x 31, x 32, x 33, x 34, x 35, x 36, x 37, x 38, x 39, x 40, x 41, x 42, x 43, x 44, x 45, x 46, x 47, x 48, x 49, x 50, x 51, x 52, x 53, x 54, x 55, x 56, x 57, x 58, x 59, x 60, x 61, x 62, x 63, x 64, x 65, x 66, x 67, x 68, x 69, x 70, x 71, x 72, x 73, x 74, x 75, x 76, x 77, x 78, x 79, x 80, x 81, x 82, x 83, x 84, x 85, x 86, x 87, x 88, x 89, x 90, x 91, x 92, x 93, x 94, x 95, x 96, x 97, x 98, x 99, x 100, x 101, x 102, x 103, x 104, x 105, x 106, x 107, x 108, x 109, x 110, x 111, x 112, x 113, x 114, x 115, x 116, x 117, x 118, x 119, x 120, x 121, x 122, x 123, x 124, x 125, x 126, x 127, x 128, x 129, x 130, x 131, x 132, x 133, x 134, x 135, x 136, x 137, x 138, x 139, x 140, x 141, x 142, x 143, x 144, x 145, x 146, x 147, x 148, x 149, x 150, x 151, x 152, x 153, x 154, x 155, x 156, x 157, x 158, x 159, x 160, x 161, x 162, x 163, x 164, x 165, x 166, x 167, x 168, x 169, x 170, x 171, x 172, x 173, x 174, x 175, x 176, x 177, x 178, x 179, x 180, x 181, x 182, x 183, x 184, x 185, x 186, x 187, x 188, x 189, x 190, x 191, x 192, x 193, x 194, x 195, x 196, x 197, x 198, x 199, x 200, x 201, x 202, x 203, x 204, x 205, x 206, x 207, x 208, x 209, x 210, x 211, x 212, x 213, x 214, x 215, x 216, x 217, x 218, x 219, x 220, x 221, x 222, x 223, x 224, x 225, x 226, x 227, x 228, x 229, x 230, x 231, x 232, x 233, x 234, x 235, x 236, x 237, x 238, x 239, x 240, x 241, x 242, x 243, x 244, x 245, x 246, x 247, x 248, x 249, x 250, x 251, x 252, x 253, x 254, x 255, x 256, x 257, x 258, x 259, x 260, x 261, x 262, x 263, x 264, x 265, x 266, x 267, x 268, x 269, x 270, x 271, x 272, x 273, x 274, x 275, x 276, x 277, x 278, x 279, x 280, x 281, x 282, x 283, x 284], []⟩ := by
  obtain ⟨⟨L⟩, df⟩ := a
  obtain ⟨h0, h1, s1, s2, s4, s10, s11, s12, s13, s14, s15⟩ := h
  dsimp only at *
  subst h0
  have e := list_lit L _ h1
  have g : ∀ i v, L[i]? = some v → L.getD i undef = v := fun i v q => by rw [List.getD_eq_getElem?_getD, q]; rfl
  have g1 := g 1 _ s1
  have g2 := g 2 _ s2
  have g4 := g 4 _ s4
  have g10 := g 10 _ s10
  have g11 := g 11 _ s11
  have g12 := g 12 _ s12
  have g13 := g 13 _ s13
  have g14 := g 14 _ s14
  have g15 := g 15 _ s15
  generalize hx : (fun i => L.getD i undef) = x at e
  have x1 : x 1 = v1 := by rw [← hx]; exact g1
  have x2 : x 2 = v2 := by rw [← hx]; exact g2
  have x4 : x 4 = v4 := by rw [← hx]; exact g4
  have x10 : x 10 = v10 := by rw [← hx]; exact g10
  have x11 : x 11 = v11 := by rw [← hx]; exact g11
  have x12 : x 12 = v12 := by rw [← hx]; exact g12
  have x13 : x 13 = v13 := by rw [← hx]; exact g13
  have x14 : x 14 = v14 := by rw [← hx]; exact g14
  have x15 : x 15 = v15 := by rw [← hx]; exact g15
  have e2 : (List.range 285).map x = [x 0, x 1, x 2, x 3, x 4, x 5, x 6, x 7, x 8, x 9, x 10, x 11, x 12, x 13, x 14, x 15, x 16, x 17, x 18, x 19, x 20, x 21, x 22, x 23, x 24, x 25, x 26, x 27, x 28, x 29, x 30, x 31, x 32, x 33, x 34, x 35, x 36, x 37, x 38, x 39, x 40, x 41, x 42, x 43, x 44, x 45, x 46, x 47, x 48, x 49, x 50, x 51, x 52, x 53, x 54, x 55, x 56, x 57, x 58, x 59, x 60, x 61, x 62, x 63, x 64, x 65, x 66, x 67, x 68, x 69, x 70, x 71, x 72, x 73, x 74, x 75, x 76, x 77, x 78, x 79, x 80, x 81, x 82, x 83, x 84, x 85, x 86, x 87, x 88, x 89, x 90, x 91, x 92, x 93, x 94, x 95, x 96, x 97, x 98, x 99, x 100, x 101, x 102, x 103, x 104, x 105, x 106, x 107, x 108, x 109, x 110, x 111, x 112, x 113, x 114, x 115, x 116, x 117, x 118, x 119, x 120, x 121, x 122, x 123, x 124, x 125, x 126, x 127, x 128, x 129, x 130, x 131, x 132, x 133, x 134, x 135, x 136, x 137, x 138, x 139, x 140, x 141, x 142, x 143, x 144, x 145, x 146, x 147, x 148, x 149, x 150, x 151, x 152, x 153, x 154, x 155, x 156, x 157, x 158, x 159, x 160, x 161, x 162, x 163, x 164, x 165, x 166, x 167, x 168, x 169, x 170, x 171, x 172, x 173, x 174, x 175, x 176, x 177, x 178, x 179, x 180, x 181, x 182, x 183, x 184, x 185, x 186, x 187, x 188, x 189, x 190, x 191, x 192, x 193, x 194, x 195, x 196, x 197, x 198, x 199, x 200, x 201, x 202, x 203, x 204, x 205, x 206, x 207, x 208, x 209, x 210, x 211, x 212, x 213, x 214, x 215, x 216, x 217, x 218, x 219, x 220, x 221, x 222, x 223, x 224, x 225, x 226, x 227, x 228, x 229, x 230, x 231, x 232, x 233, x 234, x 235, x 236, x 237, x 238, x 239, x 240, x 241, x 242, x 243, x 244, x 245, x 246, x 247, x 248, x 249, x 250, x 251, x 252, x 253, x 254, x 255, x 256, x 257, x 258, x 259, x 260, x 261, x 262, x 263, x 264, x 265, x 266, x 267, x 268, x 269, x 270, x 271, x 272, x 273, x 274, x 275, x 276, x 277, x 278, x 279, x 280, x 281, x 282, x 283, x 284] := rfl
  rw [e2, x1, x2, x4, x10, x11, x12, x13, x14, x15] at e
  exact ⟨x, by rw [e]⟩

theorem Fr.open {v1 v2 v4 v10 v11 v12 v13 v14 v15 : Value} {a : Act} (h : Fr v1 v2 v4 v10 v11 v12 v13 v14 v15 a) {C : Act → Prop} (k : ∀ y0 y3 y5 y6 y7 y8 y9 y16 y17 y18 y19 y20 y21 y22 y23 y24 y25 y26 y27 y28 y29 y30 y31 y32 y33 y34 y35 y36 y37 y38 y39 y40 y41 y42 y43 y44 y45 y46 y47 y48 y49 y50 y51 y52 y53 y54 y55 y56 y57 y58 y59 y60 y61 y62 y63 y64 y65 y66 y67 y68 y69 y70 y71 y72 y73 y74 y75 y76 y77 y78 y79 y80 y81 y82 y83 y84 y85 y86 y87 y88 y89 y90 y91 y92 y93 y94 y95 y96 y97 y98 y99 y100 y101 y102 y103 y104 y105 y106 y107 y108 y109 y110 y111 y112 y113 y114 y115 y116 y117 y118 y119 y120 y121 y122 y123 y124 y125 y126 y127 y128 y129 y130 y131 y132 y133 y134 y135 y136 y137 y138 y139 y140 y141 y142 y143 y144 y145 y146 y147 y148 y149 y150 y151 y152 y153 y154 y155 y156 y157 y158 y159 y160 y161 y162 y163 y164 y165 y166 y167 y168 y169 y170 y171 y172 y173 y174 y175 y176 y177 y178 y179 y180 y181 y182 y183 y184 y185 y186 y187 y188 y189 y190 y191 y192 y193 y194 y195 y196 y197 y198 y199 y200 y201 y202 y203 y204 y205 y206 y207 y208 y209 y210 y211 y212 y213 y214 y215 y216 y217 y218 y219 y220 y221 y222 y223 y224 y225 y226 y227 y228 y229 y230 y231 y232 y233 y234 y235 y236 y237 y238 y239 y240 y241 y242 y243 y244 y245 y246 y247 y248 y249 y250 y251 y252 y253 y254 y255 y256 y257 y258 y259 y260 y261 y262 y263 y264 y265 y266 y267 y268 y269 y270 y271 y272 y273 y274 y275 y276 y277 y278 y279 y280 y281 y282 y283 y284 : Value, C ⟨#[y0, v1, v2, y3, v4, y5, y6, y7, y8, y9, v10, v11, v12, v13, v14, v15, y16, y17, y18, y19, y20, y21, y22, y23, y24, y25, y26, y27, y28, y29, y30, y31, y32, y33, y34, y35, y36, y37, y38, y39, y40, y41, y42, y43, y44, y45, y46, y47, y48, y49, y50, y51, y52, y53, y54, y55, y56, y57, y58, y59, y60, y61, y62, y63, y64, y65, y66, y67, y68, y69, y70, y71, y72, y73, y74, y75, y76, y77, y78, y79, y80, y81, y82, y83, y84, y85, y86, y87, y88, y89, y90, y91, y92, y93, y94, y95, y96, y97, y98, y99, y100, y101, y102, y103, y104, y105, y106, y107, y108, y109, y110, y111, y112, y113, y114, y115, y116, y117, y118, y119, y120, y121, y122, y123, y124, y125, y126, y127, y128, y129, y130, y131, y132, y133, y134, y135, y136, y137, y138, y139, y140, y141, y142, y143, y144, y145, y146, y147, y148, y149, y150, y151, y152, y153, y154, y155, y156, y157, y158, y159, y160, y161, y162, y163, y164, y165, y166, y167, y168, y169, y170, y171, y172, y173, y174, y175, y176, y177, y178, y179, y180, y181, y182, y183, y184, y185, y186, y187, y188, y189, y190, y191, y192, y193, y194, y195, y196, y197, y198, y199, y200, y201, y202, y203, y204, y205, y206, y207, y208, y209, y210, y211, y212, y213, y214, y215, y216, y217, y218, y219, y220, y221, y222, y223, y224, y225, y226, y227, y228, y229, y230, y231, y232, y233, y234, y235, y236, y237, y238, y239, y240, y241, y242, y243, y244, y245, y246, y247, y248, y249, y250, y251, y252, y253, y254, y255, y256, y257, y258, y259, y260, y261, y262, y263, y264, y265, y266, y267, y268, y269, y270, y271, y272, y273, y274, y275, y276, y277, y278, y279, y280, y281, y282, y283, y284], []⟩) : C a := by
  obtain ⟨x, rfl⟩ := h.lit
  exact k (x 0) (x 3) (x 5) (x 6) (x 7) (x 8) (x 9) (x 16) (x 17) (x 18) (x 19) (x 20) (x 21) (x 22) (x 23) (x 24) (x 25) (x 26) (x 27) (x 28) (x 29) (x 30) (x 31) (x 32) (x 33) (x 34) (x 35) (x 36) (x 37) (x 38) (x 39) (x 40) (x 41) (x 42) (x 43) (x 44) (x 45) (x 46) (x 47) (x 48) (x 49) (x 50) (x 51) (x 52) (x 53) (x 54) (x 55) (x 56) (x 57) (x 58) (x 59) (x 60) (x 61) (x 62) (x 63) (x 64) (x 65) (x 66) (x 67) (x 68) (x 69) (x 70) (x 71) (x 72) (x 73) (x 74) (x 75) (x 76) (x 77) (x 78) (x 79) (x 80) (x 81) (x 82) (x 83) (x 84) (x 85) (x 86) (x 87) (x 88) (x 89) (x 90) (x 91) (x 92) (x 93) (x 94) (x 95) (x 96) (x 97) (x 98) (x 99) (x 100) (x 101) (x 102) (x 103) (x 104) (x 105) (x 106) (x 107) (x 108) (x 109) (x 110) (x 111) (x 112) (x 113) (x 114) (x 115) (x 116) (x 117) (x 118) (x 119) (x 120) (x 121) (x 122) (x 123) (x 124) (x 125) (x 126) (x 127) (x 128) (x 129) (x 130) (x 131) (x 132) (x 133) (x 134) (x 135) (x 136) (x 137) (x 138) (x 139) (x 140) (x 141) (x 142) (x 143) (x 144) (x 145) (x 146) (x 147) (x 148) (x 149) (x 150) (x 151) (x 152) (x 153) (x 154) (x 155) (x 156) (x 157) (x 158) (x 159) (x 160) (x 161) (x 162) (x 163) (x 164) (x 165) (x 166) (x 167) (x 168) (x 169) (x 170) (x 171) (x 172) (x 173) (x 174) (x 175) (x 176) (x 177) (x 178) (x 179) (x 180) (x 181) (x 182) (x 183) (x 184) (x 185) (x 186) (x 187) (x 188) (x 189) (x 190) (x 191) (x 192) (x 193) (x 194) (x 195) (x 196) (x 197) (x 198) (x 199) (x 200) (x 201) (x 202) (x 203) (x 204) (x 205) (x 206) (x 207) (x 208) (x 209) (x 210) (x 211) (x 212) (x 213) (x 214) (x 215) (x 216) (x 217) (x 218) (x 219) (x 220) (x 221) (x 222) (x 223) (x 224) (x 225) (x 226) (x 227) (x 228) (x 229) (x 230) (x 231) (x 232) (x 233) (x 234) (x 235) (x 236) (x 237) (x 238) (x 239) (x 240) (x 241) (x 242) (x 243) (x 244) (x 245) (x 246) (x 247) (x 248) (x 249) (x 250) (x 251) (x 252) (x 253) (x 254) (x 255) (x 256) (x 257) (x 258) (x 259) (x 260) (x 261) (x 262) (x 263) (x 264) (x 265) (x 266) (x 267) (x 268) (x 269) (x 270) (x 271) (x 272) (x 273) (x 274) (x 275) (x 276) (x 277) (x 278) (x 279) (x 280) (x 281) (x 282) (x 283) (x 284)

structure AtS (w0 : World) (f t : Int) (AI : Option Addr) (ni ci : Nat) (P : RFast) (q : RLoose) (s : Ly) (k : Int) (a : Act) (w : World) : Prop where
  fr : Fr (.int .i64 f) (.int .i64 t) (.slice AI ni ci) (.pointer (some ⟨P.r, 0, none⟩)) (.pointer (some ⟨P.o, 0, none⟩)) (.pointer (some ⟨P.m, 0, none⟩)) (.slice q.A1 s.row.length q.c1) (.slice q.A2 s.wait.length q.c2) (.int .i64 k) a
  d : Dat w P q s
  b : Below w0.heap.size w0 w

structure Env (w0 : World) (AI : Option Addr) (ni : Nat) (P : RFast) (its : List It) : Prop where
  hB : P.B = w0.heap.size
  hI : Items w0 w0.heap.size AI its
  hn : ni = its.length
  n30 : its.length ≤ 30
  ri : ∀ x ∈ its, RightI x

theorem Env.item {w0 : World} {AI : Option Addr} {ni : Nat} {P : RFast} {its : List It} (E : Env w0 AI ni P its) {k : Nat} (hk : k < its.length) {w : World} (b : Below w0.heap.size w0 w) : ∃ ad, AI = some ad ∧ ad.block < w.heap.size ∧ AtI w (ad.add (k * 4)) (itAt its k) := by
  have hz : its[k]? = some its[k] := List.getElem?_eq_getElem hk
  rw [itAt_is hz]
  exact E.hI.thru b k _ hz

theorem Env.right {w0 : World} {AI : Option Addr} {ni : Nat} {P : RFast} {its : List It} (E : Env w0 AI ni P its) {k : Nat} (hk : k < its.length) {x : It} (hx : itAt its k = x) : RightI x := hx ▸ itAt_right E.ri hk

theorem addR_cases {W w : World} {n : Nat} {q : RLoose} {m' : Mk} {v : Bool} {u : Value} (h : AddR W n q m' v w u) {C : Prop} (k : ∀ A3 n3 c3, u = .tuple #[Mv q.AF q.nF q.cF A3 n3 c3 m', .bool v] → Hid (RefIn n w q.AF q.nF q.cF A3 n3 c3 m' ∧ NewOr W 82 q.AZ w A3) → C) : C := by
  obtain ⟨A3, n3, c3, e, h1, h2⟩ := h
  exact k A3 n3 c3 e (Lib.hid ⟨h1, h2⟩)

theorem row_seven {w : World} {b : Nat} {x0 x1 x2 x3 x4 x5 x6 : Value} (h : RowAt w b [x0, x1, x2, x3, x4, x5, x6]) (c0 c1 c2 c3 c4 c5 c6 : Value) :
    RowAt (((((((w.setCell ⟨b, 0, none⟩ c0).setCell ⟨b, 1, none⟩ c1).setCell ⟨b, 2, none⟩ c2).setCell ⟨b, 3, none⟩ c3).setCell ⟨b, 4, none⟩ c4).setCell ⟨b, 5, none⟩ c5).setCell ⟨b, 6, none⟩ c6) b [c0, c1, c2, c3, c4, c5, c6] ∧
    Draw.Only b w (((((((w.setCell ⟨b, 0, none⟩ c0).setCell ⟨b, 1, none⟩ c1).setCell ⟨b, 2, none⟩ c2).setCell ⟨b, 3, none⟩ c3).setCell ⟨b, 4, none⟩ c4).setCell ⟨b, 5, none⟩ c5).setCell ⟨b, 6, none⟩ c6) :=
  ⟨((((((h.set 0 c0 (by simp)).set 1 c1 (by simp)).set 2 c2 (by simp)).set 3 c3 (by simp)).set 4 c4 (by simp)).set 5 c5 (by simp)).set 6 c6 (by simp), ((((((Draw.Only.set b w 0 c0).trans (Draw.Only.set b _ 1 c1)).trans (Draw.Only.set b _ 2 c2)).trans (Draw.Only.set b _ 3 c3)).trans (Draw.Only.set b _ 4 c4)).trans (Draw.Only.set b _ 5 c5)).trans (Draw.Only.set b _ 6 c6)⟩

theorem Dat.floated {W w : World} {P : RFast} {q : RLoose} {s : Ly} (h : Dat W P q s) {r : Fl} {A3 : Option Addr} {c3 : Nat} (M : MineE encF 56 w W.heap.size A3 (q.nF + 1) c3 (s.m.fs ++ [r])) (k : Below W.heap.size W w) :
    Dat (w.setCell ⟨P.m, 0, none⟩ (.slice A3 (q.nF + 1) c3)) P { q with AF := A3, nF := q.nF + 1, cF := c3 } { s with m := { s.m with fs := s.m.fs ++ [r] } } ∧ Below P.B W (w.setCell ⟨P.m, 0, none⟩ (.slice A3 (q.nF + 1) c3)) := by
  have D := h.below k
  refine ⟨D.maker (m' := { s.m with fs := s.m.fs ++ [r] }) (AZ := q.AZ) (nZ := q.nZ) (cZ := q.cZ) (but_one w P.m 0 _) (D.m.set 0 _ (by simp)) ?_ (floats_mine M) (fun e => ?_) D.hn2 D.hx2 D.zn D.zl D.tp (fun i ad hi _ e g => ?_) (fun i ad hi e g => ?_), (k.mono h.hB).trans ((but_one w P.m 0 _).below (Nat.le_trans h.hB k.size) fun j e => by rw [e]; exact h.b2)⟩
  · show q.nF + 1 = (s.m.fs ++ [r]).length
    rw [List.length_append, h.hn]; rfl
  · obtain ⟨g, e2, -⟩ := M.form (Nat.succ_pos _)
    rw [e] at e2; cases e2
  · have h1 := (M.lt ad.block (by rw [e]; rfl)).1
    have h2 := h.low i _ g
    omega
  · have := D.ap i 7 ad.block hi g (by show blk q.AZ = _; rw [e]; rfl)
    omega

def Goes (e0 : Exit) (J : Act → World → Prop) (e : Exit) (a : Act) (w : World) : Prop := e = e0 ∧ J a w

theorem wp_goes {c : Code} {e0 : Exit} {J : Act → World → Prop} {a : Act} {w : World} (h : ∀ Q : Exit → Act → World → Prop, (∀ a w, J a w → Q e0 a w) → c.wp Tryz.prog Q a w) : c.wp Tryz.prog (Goes e0 J) a w := h _ fun _ _ j => ⟨rfl, j⟩

theorem wp_first {x y : Code} {J : Act → World → Prop} {Q : Exit → Act → World → Prop} {a : Act} {w : World} (hx : x.wp Tryz.prog (Goes .normal J) a w) (hy : ∀ a w, J a w → y.wp Tryz.prog Q a w) : (Code.seq x y).wp Tryz.prog Q a w := by
  refine wp_seq (wp_mono hx ?_)
  rintro e a w ⟨rfl, j⟩
  exact hy a w j

theorem wp_leaves {x y : Code} {n : Nat} {J : Act → World → Prop} {a : Act} {w : World} (hx : x.wp Tryz.prog (Goes (.exit n) J) a w) : (Code.seq x y).wp Tryz.prog (Goes (.exit n) J) a w := by
  refine wp_seq (wp_mono hx ?_)
  rintro e a w ⟨rfl, j⟩
  exact ⟨rfl, j⟩

end Go.Proofs.YtdibdfalahjmbaaGreat.Text
