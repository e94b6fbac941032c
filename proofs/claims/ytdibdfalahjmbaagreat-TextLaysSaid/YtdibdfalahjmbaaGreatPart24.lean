/- Texts of this proof that follow each other, in one file. -/
import Derived.Test.YtdibdfalahjmbaaGreatPart19
import Derived.Test.YtdibdfalahjmbaaGreatPart22
import Derived.Test.YtdibdfalahjmbaaGreatPart7
import Derived.Test.YtdibdfalahjmbaaGreatPart23
namespace Go.Proofs.YtdibdfalahjmbaaGreat.Text

open Go.RowKit Go.Sort Go.Proofs.YtdibdfalahjmbaaGreat.Rect Go.Proofs.YtdibdfalahjmbaaGreat.More Go.Proofs.YtdibdfalahjmbaaGreat.Shelf Go.Proofs.YtdibdfalahjmbaaGreat.Space Go.Proofs.YtdibdfalahjmbaaGreat.Place Go.Proofs.YtdibdfalahjmbaaGreat.Line

set_option linter.unusedVariables false

set_option linter.unusedSimpArgs false

def encN : Enc Nat := ⟨1, fun k => [.int .i64 (k : Int)], fun _ => rfl, fun x u h => by
  rw [List.mem_singleton.1 h]; rfl, by omega⟩

def encB : Enc Bx := ⟨4, fun x => [.int .i64 x.l, .int .i64 x.t, .int .i64 x.r, .int .i64 x.b], fun _ => rfl, fun x u h => by
  simp only [List.mem_cons, List.not_mem_nil, or_false] at h
  rcases h with h | h | h | h <;> (subst h; rfl), by omega⟩

def encI : Enc It := ⟨4, fun x => [.int .i64 x.sd, .int .i64 x.cl, .int .i64 x.wd, .int .i64 x.ht], fun _ => rfl, fun x u h => by
  simp only [List.mem_cons, List.not_mem_nil, or_false] at h
  rcases h with h | h | h | h <;> (subst h; rfl), by omega⟩

theorem infoN : InfoE encN 3 69 8 := ⟨Tryz.underlying69, .int .i64 0, rfl, by kernel_rfl⟩

abbrev Bx.v (x : Bx) : Value := .agg #[.int .i64 x.l, .int .i64 x.t, .int .i64 x.r, .int .i64 x.b]

structure Fast where
  p : Addr
  bb : Nat
  kb : Nat
  bx : Nat
  A0 : Option Addr
  c0 : Nat
  B : Nat

structure Loose where
  F : Nat → Prop
  A1 : Option Addr
  c1 : Nat
  A2 : Option Addr
  c2 : Nat
  A3 : Option Addr
  c3 : Nat

def part (P : Fast) (q : Loose) : Nat → Nat → Prop
  | 0, k => q.F k
  | 1, k => k = P.bb
  | 2, k => k = P.kb
  | 3, k => k = P.bx
  | 4, k => blk q.A1 = some k
  | 5, k => blk q.A2 = some k
  | 6, k => blk q.A3 = some k
  | 7, k => blk P.A0 = some k
  | _, _ => False

def owns (P : Fast) (q : Loose) (k : Nat) : Prop := ∃ i, i < 7 ∧ part P q i k

abbrev krow (P : Fast) (q : Loose) (n : Nat) (s : Ly) (bot : Int) : List Value :=
  [.pointer (some ⟨P.bb, 0, none⟩), .pointer (some P.p), .int .i64 s.m.f, .int .i64 s.m.t, .slice P.A0 n P.c0, .slice q.A1 s.row.length q.c1, .slice q.A2 s.wait.length q.c2,
   .slice (some ⟨P.bx, 0, none⟩) s.box.length s.box.length, .slice q.A3 s.out.length q.c3, .int .i64 bot]

structure Kat (S : World → (Nat → Prop) → Addr → List Fl → Prop) (w : World) (P : Fast) (q : Loose) (its : List It) (s : Ly) : Prop where
  sp : S w q.F P.p s.m.fs
  bl : Bl w P.p P.bb s.m
  kr : RowAt w P.kb (krow P q its.length s 0)
  it : MineE encI 65 w 0 P.A0 its.length P.c0 its
  ro : MineE encN 3 w P.B q.A1 s.row.length q.c1 s.row
  wa : MineE encN 3 w P.B q.A2 s.wait.length q.c2 s.wait
  bo : MineE encB 42 w P.B (some ⟨P.bx, 0, none⟩) s.box.length s.box.length s.box
  li : MineE encL 47 w P.B q.A3 s.out.length q.c3 (s.out.map fun e => lnOf e.1)
  ap : ∀ i j k, part P q i k → part P q j k → i = j
  b1 : P.B ≤ P.bb
  b2 : P.B ≤ P.kb
  hB : P.B ≤ w.heap.size

structure Grew (P : Fast) (q q' : Loose) (w w' : World) : Prop where
  but : But (owns P q) w w'
  own : ∀ k, owns P q' k → owns P q k ∨ w.heap.size ≤ k

theorem Grew.refl (P : Fast) (q : Loose) (w : World) : Grew P q q w w := ⟨⟨rfl, rfl, rfl, Nat.le_refl _, fun _ _ _ => rfl⟩, fun _ h => .inl h⟩

theorem Grew.trans {P : Fast} {q q' q'' : Loose} {w w' w'' : World} (h : Grew P q q' w w') (k : Grew P q' q'' w' w'') : Grew P q q'' w w'' :=
  ⟨h.but.trans k.but (fun j hj e => (h.own j e).elim id (fun g => by omega)), fun j e => (k.own j e).elim (h.own j) (fun g => .inr (Nat.le_trans h.but.size g))⟩

theorem Grew.of_below {P : Fast} {q : Loose} {w w' : World} (h : Below w.heap.size w w') : Grew P q q w w' := ⟨But.of_below h, fun _ e => .inl e⟩

theorem Grew.of_part {P : Fast} {q q' : Loose} {w w' : World} {i : Nat} (hi : i < 7) (h : But (part P q i) w w') (hs : ∀ j k, j ≠ i → part P q' j k → part P q j k) (hn : ∀ k, part P q' i k → part P q i k ∨ w.heap.size ≤ k) : Grew P q q' w w' :=
  ⟨but_wide h fun k e => ⟨i, hi, e⟩, fun k ⟨j, hj, e⟩ => by
    by_cases g : j = i
    · subst g
      exact (hn k e).imp (fun e => ⟨j, hj, e⟩) id
    · exact .inl ⟨j, hj, hs j k g e⟩⟩

section

variable {S : World → (Nat → Prop) → Addr → List Fl → Prop} {w w' : World} {P : Fast} {q : Loose} {its : List It} {s : Ly}

theorem Kat.blt (h : Kat S w P q its s) : P.bb < w.heap.size := h.bl.lt

theorem Kat.klt (h : Kat S w P q its s) : P.kb < w.heap.size := h.kr.lt (by simp)

theorem Kat.xlt (h : Kat S w P q its s) : P.B ≤ P.bx ∧ P.bx < w.heap.size := h.bo.lt P.bx rfl

theorem Kat.low (hO : SpaceOk S) (h : Kat S w P q its s) : ∀ i k, part P q i k → k < w.heap.size
  | 0, k, e => hO.lt _ _ _ _ h.sp k e
  | 1, k, e => by rw [show k = P.bb from e]; exact h.blt
  | 2, k, e => by rw [show k = P.kb from e]; exact h.klt
  | 3, k, e => by rw [show k = P.bx from e]; exact h.xlt.2
  | 4, k, e => (h.ro.lt k e).2
  | 5, k, e => (h.wa.lt k e).2
  | 6, k, e => (h.li.lt k e).2
  | 7, k, e => (h.it.lt k e).2
  | _ + 8, _, e => False.elim e

theorem Kat.apart (hO : SpaceOk S) (h : Kat S w P q its s) {q' : Loose} {i : Nat} (hs : ∀ j k, j ≠ i → part P q' j k → part P q j k) (hn : ∀ k, part P q' i k → part P q i k ∨ w.heap.size ≤ k) : ∀ a b k, part P q' a k → part P q' b k → a = b := by
  intro a b k ha hb
  by_cases ea : a = i
  · by_cases eb : b = i
    · rw [ea, eb]
    · have h2 := hs b k eb hb
      subst ea
      rcases hn k ha with g | g
      · exact h.ap _ _ k g h2
      · have := h.low hO b k h2; omega
  · have h1 := hs a k ea ha
    by_cases eb : b = i
    · subst eb
      rcases hn k hb with g | g
      · exact h.ap _ _ k h1 g
      · have := h.low hO a k h1; omega
    · exact h.ap _ _ k h1 (hs b k eb hb)

theorem bl_same {m m' : Mk} {p : Addr} {b : Nat} (h : Bl w p b m) (h1 : m'.f = m.f) (h2 : m'.t = m.t) (h3 : m'.y = m.y) (h4 : m'.top = m.top) (h5 : m'.az = m.az) : Bl w p b m' := by
  obtain ⟨fs, f, t, y, top, az⟩ := m
  obtain ⟨fs', f', t', y', top', az'⟩ := m'
  dsimp only at h1 h2 h3 h4 h5
  subst h1 h2 h3 h4 h5
  exact h

theorem Kat.below (hO : SpaceOk S) (h : Kat S w P q its s) (k : Below w.heap.size w w') : Kat S w' P q its s :=
  ⟨thruS hO h.sp k, h.bl.below k, h.kr.below (by simp) k, h.it.below k, h.ro.below k, h.wa.below k, h.bo.below k, h.li.below k, h.ap, h.b1, h.b2, Nat.le_trans h.hB k.size⟩

theorem Kat.space (hO : SpaceOk S) (h : Kat S w P q its s) {F' : Nat → Prop} {m' : Mk} (hs : S w' F' P.p m'.fs) (hF : ∀ k, F' k → q.F k ∨ w.heap.size ≤ k) (k : But q.F w w') (h1 : m'.f = s.m.f) (h2 : m'.t = s.m.t) (h3 : m'.y = s.m.y) (h4 : m'.top = s.m.top) (h5 : m'.az = s.m.az) :
    Kat S w' P { q with F := F' } its { s with m := m' } ∧ Grew P q { q with F := F' } w w' := by
  have hs' : ∀ j k, j ≠ 0 → part P { q with F := F' } j k → part P q j k := fun j k hj e => by
    match j, hj, e with
    | 1, _, e => exact e
    | 2, _, e => exact e
    | 3, _, e => exact e
    | 4, _, e => exact e
    | 5, _, e => exact e
    | 6, _, e => exact e
    | 7, _, e => exact e
  have hno : ∀ i k, i ≠ 0 → part P q i k → ¬ q.F k := fun i k hi e g => hi (h.ap i 0 k e g)
  refine ⟨⟨hs, bl_same (h.bl.but k (hno 1 _ (by decide) rfl)) h1 h2 h3 h4 h5, ?_, mineE_but h.it k (fun j e => hno 7 j (by decide) e), mineE_but h.ro k (fun j e => hno 4 j (by decide) e), mineE_but h.wa k (fun j e => hno 5 j (by decide) e), mineE_but h.bo k (fun j e => hno 3 j (by decide) (by injection e with e; exact e.symm)), mineE_but h.li k (fun j e => hno 6 j (by decide) e),
    h.apart hO (i := 0) hs' hF, h.b1, h.b2, Nat.le_trans h.hB k.size⟩, Grew.of_part (i := 0) (by decide) k hs' hF⟩
  have := h.kr.but (by simp) k (hno 2 _ (by decide) rfl)
  unfold krow
  dsimp only
  rw [h1, h2]
  exact this

theorem Kat.maker (hO : SpaceOk S) (h : Kat S w P q its s) {m' : Mk} (hb : Bl w' P.p P.bb m') (k : But (fun j => j = P.bb) w w') (h0 : m'.fs = s.m.fs) (h1 : m'.f = s.m.f) (h2 : m'.t = s.m.t) :
    Kat S w' P q its { s with m := m' } ∧ Grew P q q w w' := by
  have hno : ∀ i k, i ≠ 1 → part P q i k → ¬ k = P.bb := fun i k hi e g => hi (h.ap i 1 k e g)
  refine ⟨⟨?_, hb, ?_, mineE_but h.it k (fun j e => hno 7 j (by decide) e), mineE_but h.ro k (fun j e => hno 4 j (by decide) e), mineE_but h.wa k (fun j e => hno 5 j (by decide) e), mineE_but h.bo k (fun j e => hno 3 j (by decide) (by injection e with e; exact e.symm)), mineE_but h.li k (fun j e => hno 6 j (by decide) e),
    h.ap, h.b1, h.b2, Nat.le_trans h.hB k.size⟩, Grew.of_part (i := 1) (by decide) k (fun _ _ _ e => e) (fun _ e => .inl e)⟩
  · dsimp only
    rw [h0]
    exact hO.keep _ _ _ _ _ _ h.sp k (fun j e => hno 0 j (by decide) e)
  · have := h.kr.but (by simp) k (hno 2 _ (by decide) rfl)
    unfold krow
    dsimp only
    rw [h1, h2]
    exact this

theorem Kat.boxed (hO : SpaceOk S) (h : Kat S w P q its s) {bs : List Bx} (hl : bs.length = s.box.length) (hb : MineE encB 42 w' P.B (some ⟨P.bx, 0, none⟩) s.box.length s.box.length bs) (k : But (fun j => j = P.bx) w w') :
    Kat S w' P q its { s with box := bs } ∧ Grew P q q w w' := by
  have hno : ∀ i k, i ≠ 3 → part P q i k → ¬ k = P.bx := fun i k hi e g => hi (h.ap i 3 k e g)
  refine ⟨⟨hO.keep _ _ _ _ _ _ h.sp k (fun j e => hno 0 j (by decide) e), h.bl.but k (hno 1 _ (by decide) rfl), ?_, mineE_but h.it k (fun j e => hno 7 j (by decide) e), mineE_but h.ro k (fun j e => hno 4 j (by decide) e), mineE_but h.wa k (fun j e => hno 5 j (by decide) e), ?_, mineE_but h.li k (fun j e => hno 6 j (by decide) e),
    h.ap, h.b1, h.b2, Nat.le_trans h.hB k.size⟩, Grew.of_part (i := 3) (by decide) k (fun _ _ _ e => e) (fun _ e => .inl e)⟩
  · have := h.kr.but (by simp) k (hno 2 _ (by decide) rfl)
    unfold krow
    dsimp only
    rw [hl]
    exact this
  · dsimp only
    rw [hl]
    exact hb

theorem Kat.listed (hO : SpaceOk S) (h : Kat S w P q its s) {q' : Loose} {s' : Ly} {i : Nat} (hi : i = 4 ∨ i = 5 ∨ i = 6) (hm : s'.m = s.m) (hbx : s'.box = s.box) (hF : q'.F = q.F)
    (k : But (fun j => part P q i j ∨ j = P.kb) w w') (hs : ∀ j k, j ≠ i → part P q' j k → part P q j k) (hn : ∀ k, part P q' i k → part P q i k ∨ w.heap.size ≤ k)
    (hr : RowAt w' P.kb (krow P q' its.length s' 0))
    (h4 : i ≠ 4 → s'.row = s.row ∧ q'.A1 = q.A1 ∧ q'.c1 = q.c1) (g4 : i = 4 → MineE encN 3 w' P.B q'.A1 s'.row.length q'.c1 s'.row)
    (h5 : i ≠ 5 → s'.wait = s.wait ∧ q'.A2 = q.A2 ∧ q'.c2 = q.c2) (g5 : i = 5 → MineE encN 3 w' P.B q'.A2 s'.wait.length q'.c2 s'.wait)
    (h6 : i ≠ 6 → s'.out = s.out ∧ q'.A3 = q.A3 ∧ q'.c3 = q.c3) (g6 : i = 6 → MineE encL 47 w' P.B q'.A3 s'.out.length q'.c3 (s'.out.map fun e => lnOf e.1)) :
    Kat S w' P q' its s' ∧ Grew P q q' w w' := by
  have hno : ∀ a k, a ≠ i → a ≠ 2 → part P q a k → ¬ (part P q i k ∨ k = P.kb) := fun a k h1 h2 e g => by
    rcases g with g | g
    · exact h1 (h.ap a i k e g)
    · exact h2 (h.ap a 2 k e g)
  have hi7 : i < 7 := by omega
  refine ⟨⟨?_, ?_, hr, mineE_but h.it k (fun j e => hno 7 j (by omega) (by decide) e), ?_, ?_, ?_, ?_, h.apart hO hs hn, h.b1, h.b2, Nat.le_trans h.hB k.size⟩, ⟨but_wide k fun j e => ?_, fun j ⟨a, ha, e⟩ => ?_⟩⟩
  · rw [hm, hF]
    exact hO.keep _ _ _ _ _ _ h.sp k (fun j e => hno 0 j (by omega) (by decide) e)
  · rw [hm]; exact h.bl.but k (hno 1 _ (by omega) (by decide) rfl)
  · by_cases e : i = 4
    · exact g4 e
    · obtain ⟨e1, e2, e3⟩ := h4 e
      rw [e1, e2, e3]
      exact mineE_but h.ro k (fun j g => hno 4 j (fun x => e x.symm) (by decide) g)
  · by_cases e : i = 5
    · exact g5 e
    · obtain ⟨e1, e2, e3⟩ := h5 e
      rw [e1, e2, e3]
      exact mineE_but h.wa k (fun j g => hno 5 j (fun x => e x.symm) (by decide) g)
  · rw [hbx]; exact mineE_but h.bo k (fun j e => hno 3 j (by omega) (by decide) (by injection e with e; exact e.symm))
  · by_cases e : i = 6
    · exact g6 e
    · obtain ⟨e1, e2, e3⟩ := h6 e
      rw [e1, e2, e3]
      exact mineE_but h.li k (fun j g => hno 6 j (fun x => e x.symm) (by decide) g)
  · rcases e with e | e
    · exact ⟨i, hi7, e⟩
    · exact ⟨2, by decide, e⟩
  · by_cases g : a = i
    · subst g
      exact (hn j e).imp (fun e => ⟨a, ha, e⟩) id
    · exact .inl ⟨a, ha, hs a j g e⟩

end

theorem mineB_put {T : TypeId} {w : World} {B g n c k : Nat} {xs : List Bx} (h : MineE encB T w B (some ⟨g, 0, none⟩) n c xs) (hk : k < n) (x : Bx) :
    MineE encB T ((((w.setCell ⟨g, k * 4, none⟩ (.int .i64 x.l)).setCell ⟨g, k * 4 + 1, none⟩ (.int .i64 x.t)).setCell ⟨g, k * 4 + 2, none⟩ (.int .i64 x.r)).setCell ⟨g, k * 4 + 3, none⟩ (.int .i64 x.b)) B (some ⟨g, 0, none⟩) n c (xs.set k x) ∧
    But (fun j => j = g) w ((((w.setCell ⟨g, k * 4, none⟩ (.int .i64 x.l)).setCell ⟨g, k * 4 + 1, none⟩ (.int .i64 x.t)).setCell ⟨g, k * 4 + 2, none⟩ (.int .i64 x.r)).setCell ⟨g, k * 4 + 3, none⟩ (.int .i64 x.b)) := by
  have hl := h.len
  obtain ⟨a, ha⟩ : ∃ a, xs[k]? = some a := ⟨_, List.getElem?_eq_getElem (by omega)⟩
  have h0 := (h.stored k a ⟨x.l, a.t, a.r, a.b⟩ ha 0 (by show 0 < 4; omega) (.int .i64 x.l) rfl).1
  have s0 : (xs.set k ⟨x.l, a.t, a.r, a.b⟩)[k]? = some ⟨x.l, a.t, a.r, a.b⟩ := List.getElem?_set_self (by omega)
  have h1 := (h0.stored k _ ⟨x.l, x.t, a.r, a.b⟩ s0 1 (by show 1 < 4; omega) (.int .i64 x.t) rfl).1
  rw [List.set_set] at h1
  have s1 : (xs.set k ⟨x.l, x.t, a.r, a.b⟩)[k]? = some ⟨x.l, x.t, a.r, a.b⟩ := List.getElem?_set_self (by omega)
  have h2 := (h1.stored k _ ⟨x.l, x.t, x.r, a.b⟩ s1 2 (by show 2 < 4; omega) (.int .i64 x.r) rfl).1
  rw [List.set_set] at h2
  have s2 : (xs.set k ⟨x.l, x.t, x.r, a.b⟩)[k]? = some ⟨x.l, x.t, x.r, a.b⟩ := List.getElem?_set_self (by omega)
  have h3 := (h2.stored k _ ⟨x.l, x.t, x.r, x.b⟩ s2 3 (by show 3 < 4; omega) (.int .i64 x.b) rfl).1
  rw [List.set_set] at h3
  exact ⟨h3, but_onto (but_onto (but_onto (but_one w g (k * 4) _) _ _) _ _) _ _⟩

end Go.Proofs.YtdibdfalahjmbaaGreat.Text

namespace Go.Proofs.YtdibdfalahjmbaaGreat.Text

open Go.RowKit Go.Sort Go.Proofs.YtdibdfalahjmbaaGreat.Rect Go.Proofs.YtdibdfalahjmbaaGreat.More Go.Proofs.YtdibdfalahjmbaaGreat.Shelf Go.Proofs.YtdibdfalahjmbaaGreat.Space Go.Proofs.YtdibdfalahjmbaaGreat.Place Go.Proofs.YtdibdfalahjmbaaGreat.Line

set_option linter.unusedVariables false

set_option linter.unusedSimpArgs false

theorem ly_any (w : World) (p : Addr) (b : Nat) (m : Mk) (hb : Bl w p b m) :
    Calls Tryz.prog 19 #[.pointer (some ⟨b, 0, none⟩)] w fun e w' => e = .returned (.int .i64 m.y) ∧ Below w.heap.size w w' := by
  obtain ⟨x, hx, -⟩ := hb
  obtain ⟨c0, c1, c2, c3, -⟩ := bat_of hx
  clear hx
  go_enter Tryz.func19, Tryz.ntmps19
  go_wp2
  go_ret
  exact ⟨rfl, Below.refl _ _⟩

def KC (w : World) (P : Fast) (q : Loose) (n : Nat) (s : Ly) : Prop :=
  w.cell? ⟨P.kb, 0, none⟩ = some (.pointer (some ⟨P.bb, 0, none⟩)) ∧ w.cell? ⟨P.kb, 1, none⟩ = some (.pointer (some P.p)) ∧ w.cell? ⟨P.kb, 2, none⟩ = some (.int .i64 s.m.f) ∧ w.cell? ⟨P.kb, 3, none⟩ = some (.int .i64 s.m.t) ∧
  w.cell? ⟨P.kb, 4, none⟩ = some (.slice P.A0 n P.c0) ∧ w.cell? ⟨P.kb, 5, none⟩ = some (.slice q.A1 s.row.length q.c1) ∧ w.cell? ⟨P.kb, 6, none⟩ = some (.slice q.A2 s.wait.length q.c2) ∧
  w.cell? ⟨P.kb, 7, none⟩ = some (.slice (some ⟨P.bx, 0, none⟩) s.box.length s.box.length) ∧ w.cell? ⟨P.kb, 8, none⟩ = some (.slice q.A3 s.out.length q.c3) ∧ w.cell? ⟨P.kb, 9, none⟩ = some (.int .i64 0)

theorem Kat.cells {S : World → (Nat → Prop) → Addr → List Fl → Prop} {w : World} {P : Fast} {q : Loose} {its : List It} {s : Ly} (h : Kat S w P q its s) : KC w P q its.length s :=
  ⟨h.kr.at' 0, h.kr.at' 1, h.kr.at' 2, h.kr.at' 3, h.kr.at' 4, h.kr.at' 5, h.kr.at' 6, h.kr.at' 7, h.kr.at' 8, h.kr.at' 9⟩

theorem Kat.item {S : World → (Nat → Prop) → Addr → List Fl → Prop} {w : World} {P : Fast} {q : Loose} {its : List It} {s : Ly} (h : Kat S w P q its s) {k : Nat} (hk : k < its.length) : ∃ g, P.A0 = some ⟨g, 0, none⟩ ∧
    w.cell? ⟨g, k * 4, none⟩ = some (.int .i64 (itAt its k).sd) ∧ w.cell? ⟨g, k * 4 + 1, none⟩ = some (.int .i64 (itAt its k).cl) ∧ w.cell? ⟨g, k * 4 + 2, none⟩ = some (.int .i64 (itAt its k).wd) ∧ w.cell? ⟨g, k * 4 + 3, none⟩ = some (.int .i64 (itAt its k).ht) := by
  obtain ⟨g, e, -, -, -, -⟩ := h.it.form (by omega)
  have hi := h.it
  rw [e] at hi
  have ha : its[k]? = some (itAt its k) := by rw [itAt_is (List.getElem?_eq_getElem hk)]; exact List.getElem?_eq_getElem hk
  exact ⟨g, e, hi.at k _ ha 0 (by show 0 < 4; omega), hi.at k _ ha 1 (by show 1 < 4; omega), hi.at k _ ha 2 (by show 2 < 4; omega), hi.at k _ ha 3 (by show 3 < 4; omega)⟩

abbrev wrow (x : Wt) : List Value := [.int .i64 x.s, .int .i64 x.c, .int .i64 x.f, .int .i64 x.t, .int .i64 x.wd, .int .i64 x.ht, .int .i64 x.y]

abbrev irow (x : It) : List Value := [.int .i64 x.sd, .int .i64 x.cl, .int .i64 x.wd, .int .i64 x.ht]

set_option maxRecDepth 100000 in
set_option maxHeartbeats 1000000 in
theorem want_any {S : World → (Nat → Prop) → Addr → List Fl → Prop} (hO : SpaceOk S) {w : World} {P : Fast} {q : Loose} {its : List It} {s : Ly} (h : Kat S w P q its s) {k : Nat} (hk : k < its.length) (y : Int) :
    Calls Tryz.prog 49 #[.pointer (some ⟨P.kb, 0, none⟩), .int .i64 (k : Int), .int .i64 y] w fun e w' => e = .returned (wantAt its s.m k y).v ∧ Below w.heap.size w w' := by
  have hki : (k : Int) < (its.length : Int) := by omega
  have hk0 : ¬ (k : Int) < 0 := by omega
  have HK := Lib.hid h
  have HL := Lib.hid hk
  unfold wantAt It.want
  obtain ⟨x, hx⟩ : ∃ x, itAt its k = x := ⟨_, rfl⟩
  rw [hx]
  have HX := Lib.hid hx
  clear h hk hx
  go_enter Tryz.func49, Tryz.ntmps49
  go_upto_region 1 with fail
  generalize hW1 : World.alloc w _ = W
  obtain ⟨b0, hb0⟩ : ∃ b0, w.heap.size = b0 := ⟨_, rfl⟩
  have k1 : Below w.heap.size w W := by rw [← hW1]; exact ba1 _ _
  have z1 : RowAt W b0 (wrow ⟨0, 0, 0, 0, 0, 0, 0⟩) := by rw [← hW1, ← hb0]; exact RowAt.new w _ _
  have hb1 : w.heap.size ≤ b0 := by omega
  rw [hb0]
  have S1 := Lib.hid (⟨k1, HK.out.below hO k1, z1⟩ : Below w.heap.size w W ∧ Kat S W P q its s ∧ RowAt W b0 (wrow ⟨0, 0, 0, 0, 0, 0, 0⟩))
  clear hW1 hb0 k1 z1 HK
  obtain ⟨g, e, d0, d1, d2, d3⟩ := S1.out.2.1.item HL.out
  obtain ⟨c0, c1, c2, c3, c4, -⟩ := S1.out.2.1.cells
  rw [e] at c4
  rw [HX.out] at d0 d1 d2 d3
  clear e HX
  go_upto_region 2 with fail
  clear c0 c1 c2 c3 c4 d0 d1 d2 d3
  generalize hW2 : World.alloc W _ = V
  obtain ⟨b2, hb2⟩ : ∃ b2, W.heap.size = b2 := ⟨_, rfl⟩
  have k2 : Below W.heap.size W V := by rw [← hW2]; exact ba1 _ _
  have z2 : RowAt V b2 (irow x) := by rw [← hW2, ← hb2]; exact RowAt.new W _ _
  have z0 := S1.out.2.2.below (by simp) k2
  have S2 := Lib.hid (⟨thru S1.out.1 k2, z0, z2, (S1.out.2.1.below hO k2).kr⟩ : Below w.heap.size w V ∧ RowAt V b0 (wrow ⟨0, 0, 0, 0, 0, 0, 0⟩) ∧ RowAt V b2 (irow x) ∧ RowAt V P.kb (krow P q its.length s 0))
  rw [hb2]
  clear hW2 hb2 k2 z2 z0 S1
  have HKr := Lib.hid (fun w' (j : Below V.heap.size V w') => S2.out.2.2.2.below (by simp) j)
  have HIr := Lib.hid (fun w' (j : Below V.heap.size V w') => S2.out.2.2.1.below (by simp) j)
  refine Hold.wp_region_hold [.val (.pointer (some ⟨b2, 0, none⟩)), .val (.int .i64 x.sd), .val (.pointer (some ⟨b2, 1, none⟩)), .val (.int .i64 x.cl), .val (.pointer (some ⟨P.kb, 0, none⟩)), .val (.pointer (some ⟨P.kb, 0, none⟩)), .val (.pointer (some ⟨P.kb, 2, none⟩)), .val (.agg #[.int .i64 s.m.f, .int .i64 s.m.t]), .val (.pointer (some ⟨b2, 2, none⟩)), .val (.pointer (some ⟨b2, 2, none⟩)), .val (.int .i64 x.wd), .val (.pointer (some ⟨b2, 2, none⟩)), .val (.pointer (some ⟨b2, 3, none⟩)), .val (.int .i64 x.ht), .val (.int .i64 y), .val (.agg #[.int .i64 x.sd, .int .i64 x.cl, .int .i64 s.m.f, .int .i64 s.m.t, .int .i64 x.wd, .int .i64 x.ht, .int .i64 y])] (by kernel_rfl) (by kernel_rfl) (by kernel_rfl) ?_ ?_
  · simp only [Hold.fill, Hold.Leave.value]
    refine ⟨?_, ?_, ?_, ?_, ?_, ?_, ?_, ?_, ?_, ?_, ?_, ?_, ?_, ?_, ?_, ?_, trivial⟩
    · intro gg w' hw hk
      go_simp
      exact ⟨rfl, rfl⟩
    · intro gg w' hw hk
      have q0 : w'.cell? ⟨b2, 0, none⟩ = some (.int .i64 x.sd) := (HIr.out w' hw).at' 0
      go_simp
      exact ⟨rfl, rfl⟩
    · intro gg w' hw hk
      go_simp
      exact ⟨rfl, rfl⟩
    · intro gg w' hw hk
      have q0 : w'.cell? ⟨b2, 1, none⟩ = some (.int .i64 x.cl) := (HIr.out w' hw).at' 1
      go_simp
      exact ⟨rfl, rfl⟩
    · intro gg w' hw hk
      go_simp
      exact ⟨rfl, rfl⟩
    · intro gg w' hw hk
      go_simp
      exact ⟨rfl, rfl⟩
    · intro gg w' hw hk
      go_simp
      exact ⟨rfl, rfl⟩
    · intro gg w' hw hk
      have q0 : w'.cell? ⟨P.kb, 2, none⟩ = some (.int .i64 s.m.f) := (HKr.out w' hw).at' 2
      have q1 : w'.cell? ⟨P.kb, 3, none⟩ = some (.int .i64 s.m.t) := (HKr.out w' hw).at' 3
      go_simp
      exact ⟨rfl, rfl⟩
    · intro gg w' hw hk
      go_simp
      exact ⟨rfl, rfl⟩
    · intro gg w' hw hk
      go_simp
      exact ⟨rfl, rfl⟩
    · intro gg w' hw hk
      have q0 : w'.cell? ⟨b2, 2, none⟩ = some (.int .i64 x.wd) := (HIr.out w' hw).at' 2
      go_simp
      exact ⟨rfl, rfl⟩
    · intro gg w' hw hk
      go_simp
      exact ⟨rfl, rfl⟩
    · intro gg w' hw hk
      go_simp
      exact ⟨rfl, rfl⟩
    · intro gg w' hw hk
      have q0 : w'.cell? ⟨b2, 3, none⟩ = some (.int .i64 x.ht) := (HIr.out w' hw).at' 3
      go_simp
      exact ⟨rfl, rfl⟩
    · intro gg w' hw hk
      go_simp
      exact ⟨rfl, rfl⟩
    · intro gg w' hw hk
      go_simp
      exact ⟨rfl, rfl⟩
  intro gg w3 k3 hgg
  clear hgg
  simp only [Hold.fill, Hold.Leave.value, List.length_cons, List.length_nil, List.drop_succ_cons, List.drop_zero]
  have z0 := S2.out.2.1.below (by simp) k3
  have KV := Lib.hid (thru S2.out.1 k3)
  have r0 : w3.cell? ⟨b0, 0, none⟩ = some (.int .i64 0) := z0.at' 0
  have r1 : w3.cell? ⟨b0, 1, none⟩ = some (.int .i64 0) := z0.at' 1
  have r2 : w3.cell? ⟨b0, 2, none⟩ = some (.int .i64 0) := z0.at' 2
  have r3 : w3.cell? ⟨b0, 3, none⟩ = some (.int .i64 0) := z0.at' 3
  have r4 : w3.cell? ⟨b0, 4, none⟩ = some (.int .i64 0) := z0.at' 4
  have r5 : w3.cell? ⟨b0, 5, none⟩ = some (.int .i64 0) := z0.at' 5
  have r6 : w3.cell? ⟨b0, 6, none⟩ = some (.int .i64 0) := z0.at' 6
  have f0 := z0.frz 0
  have f1 := z0.frz 1
  have f2 := z0.frz 2
  have f3 := z0.frz 3
  have f4 := z0.frz 4
  have f5 := z0.frz 5
  have f6 := z0.frz 6
  clear z0 k3 HKr HIr S2
  go_simp
  go_wp2_with fail
  exact bodyPost_ret (v := Wt.v ⟨x.sd, x.cl, s.m.f, s.m.t, x.wd, x.ht, y⟩) (by simp [results, Tryz.results49, go_sem, r0, r1, r2, r3, r4, r5, r6]) rfl ⟨rfl, (((((((KV.out.setCell (p := ⟨b0, 0, none⟩) hb1 _).setCell (p := ⟨b0, 1, none⟩) hb1 _).setCell (p := ⟨b0, 2, none⟩) hb1 _).setCell (p := ⟨b0, 3, none⟩) hb1 _).setCell (p := ⟨b0, 4, none⟩) hb1 _).setCell (p := ⟨b0, 5, none⟩) hb1 _).setCell (p := ⟨b0, 6, none⟩) hb1 _)⟩

end Go.Proofs.YtdibdfalahjmbaaGreat.Text
