
import Derived.Test.YtdibdfalahjmbaaGreatPart39
import Derived.Test.YtdibdfalahjmbaaGreatPart27
namespace Go.Proofs.YtdibdfalahjmbaaGreat.Text

open Go.RowKit Go.Sort Go.Proofs.YtdibdfalahjmbaaGreat.Rect Go.Proofs.YtdibdfalahjmbaaGreat.More Go.Proofs.YtdibdfalahjmbaaGreat.Shelf Go.Proofs.YtdibdfalahjmbaaGreat.Space Go.Proofs.YtdibdfalahjmbaaGreat.Place Go.Proofs.YtdibdfalahjmbaaGreat.Line

set_option linter.unusedVariables false

set_option linter.unusedSimpArgs false

structure RFast where
  o : Nat
  m : Nat
  bx : Nat
  r : Nat
  B : Nat

structure RLoose where
  AF : Option Addr
  nF : Nat
  cF : Nat
  AZ : Option Addr
  nZ : Nat
  cZ : Nat
  A1 : Option Addr
  c1 : Nat
  A2 : Option Addr
  c2 : Nat
  A3 : Option Addr
  c3 : Nat

def rpart (P : RFast) (q : RLoose) : Nat → Nat → Prop
  | 0, k => k = P.o
  | 1, k => k = P.m
  | 2, k => k = P.bx
  | 3, k => blk q.A3 = some k
  | 4, k => blk q.A1 = some k
  | 5, k => blk q.A2 = some k
  | 6, k => 0 < q.nF ∧ blk q.AF = some k
  | 7, k => blk q.AZ = some k
  | 8, k => k = P.r
  | _, _ => False

abbrev orow (P : RFast) (q : RLoose) (s : Ly) : List Value := [.slice (some ⟨P.bx, 0, none⟩) s.box.length s.box.length, .slice q.A3 s.out.length q.c3, .int .i64 0, .slice none 0 0]

abbrev mrowq (q : RLoose) (m : Mk) : List Value := mrow q.AF q.nF q.cF q.AZ q.nZ q.cZ m

structure Dat (w : World) (P : RFast) (q : RLoose) (s : Ly) : Prop where
  o : RowAt w P.o (orow P q s)
  m : RowAt w P.m (mrowq q s.m)
  rr : RowAt w P.r [.slice none 0 0, .slice none 0 0, .int .i64 0, .slice none 0 0]
  bo : MineE encB 44 w P.B (some ⟨P.bx, 0, none⟩) s.box.length s.box.length s.box
  li : MineE encL 49 w P.B q.A3 s.out.length q.c3 (s.out.map fun e => lnOf e.1)
  ro : MineE encN 3 w P.B q.A1 s.row.length q.c1 s.row
  wa : MineE encN 3 w P.B q.A2 s.wait.length q.c2 s.wait
  hn : q.nF = s.m.fs.length
  hx : Floats w w.heap.size q.AF s.m.fs
  fn : q.AF = none → q.cF = 0
  hn2 : q.nZ = s.m.az.length
  hx2 : Sizes w w.heap.size q.AZ s.m.az
  zn : q.AZ = none → q.cZ = 0
  zl : ∀ ad, q.AZ = some ad → ad.block < w.heap.size
  tp : -281474976710656 ≤ s.m.top ∧ s.m.top ≤ 562949953421312
  ap : ∀ i j k, i < 6 → rpart P q i k → rpart P q j k → i = j
  b1 : P.B ≤ P.o
  b2 : P.B ≤ P.m
  hB : P.B ≤ w.heap.size

theorem blk_some {A : Option Addr} {k : Nat} (h : blk A = some k) : ∃ ad, A = some ad ∧ ad.block = k := by
  cases A with
  | none => cases h
  | some ad => exact ⟨ad, rfl, Option.some.inj h⟩

theorem floats_but {w w' : World} {B : Nat} {G : Nat → Prop} {A : Option Addr} {fs : List Fl} (h : Floats w B A fs) (hB : B ≤ w.heap.size) (k : But G w w') (hg : ∀ ad, A = some ad → 0 < fs.length → ¬ G ad.block) : Floats w' w'.heap.size A fs := fun i f hi => by
  obtain ⟨ad, e, hb, c0, c1, c2, c3, c4⟩ := h i f hi
  have hl : 0 < fs.length := by have := (List.getElem?_eq_some_iff.1 hi).1; omega
  have hbl := k.block ad.block (by omega) (hg ad e hl)
  have hbl' : w'.heap[(ad.add (i * 5)).block]? = w.heap[(ad.add (i * 5)).block]? := by rw [block_of_add]; exact hbl
  exact ⟨ad, e, Nat.lt_of_lt_of_le (by omega) k.size, (World.cell?_of_block (a := ad.add (i * 5)) hbl').trans c0, (World.cell?_of_block (a := ⟨(ad.add (i * 5)).block, (ad.add (i * 5)).off + 1, none⟩) hbl').trans c1, (World.cell?_of_block (a := ⟨(ad.add (i * 5)).block, (ad.add (i * 5)).off + 2, none⟩) hbl').trans c2, (World.cell?_of_block (a := ⟨(ad.add (i * 5)).block, (ad.add (i * 5)).off + 3, none⟩) hbl').trans c3, (World.cell?_of_block (a := ⟨(ad.add (i * 5)).block, (ad.add (i * 5)).off + 4, none⟩) hbl').trans c4⟩

section

variable {w w' : World} {P : RFast} {q q' : RLoose} {s s' : Ly}

theorem Dat.low (h : Dat w P q s) : ∀ i k, rpart P q i k → k < w.heap.size
  | 0, k, e => by rw [show k = P.o from e]; exact h.o.lt (by simp)
  | 1, k, e => by rw [show k = P.m from e]; exact h.m.lt (by simp)
  | 2, k, e => by rw [show k = P.bx from e]; exact (h.bo.lt P.bx rfl).2
  | 3, k, e => (h.li.lt k e).2
  | 4, k, e => (h.ro.lt k e).2
  | 5, k, e => (h.wa.lt k e).2
  | 6, k, e => by
    obtain ⟨h0, e⟩ := e
    obtain ⟨ad, e1, e2⟩ := blk_some e
    obtain ⟨f, hf⟩ : ∃ f, s.m.fs[0]? = some f := ⟨_, List.getElem?_eq_getElem (by have := h.hn; omega)⟩
    obtain ⟨ad', e3, hb, -⟩ := h.hx 0 f hf
    rw [e1] at e3
    injection e3 with e3
    rw [← e2, e3]
    exact hb
  | 7, k, e => by
    obtain ⟨ad, e1, e2⟩ := blk_some e
    rw [← e2]
    exact h.zl ad e1
  | 8, k, e => by rw [show k = P.r from e]; exact h.rr.lt (by simp)
  | _ + 9, _, e => False.elim e

theorem Dat.high (h : Dat w P q s) : ∀ i k, i < 6 → rpart P q i k → P.B ≤ k
  | 0, k, _, e => by rw [show k = P.o from e]; exact h.b1
  | 1, k, _, e => by rw [show k = P.m from e]; exact h.b2
  | 2, k, _, e => by rw [show k = P.bx from e]; exact (h.bo.lt P.bx rfl).1
  | 3, k, _, e => (h.li.lt k e).1
  | 4, k, _, e => (h.ro.lt k e).1
  | 5, k, _, e => (h.wa.lt k e).1
  | n + 6, k, hi, e => by omega

theorem Dat.apart (h : Dat w P q s) {i : Nat} (hs : ∀ j k, j ≠ i → rpart P q' j k → rpart P q j k) (hn : ∀ k, rpart P q' i k → rpart P q i k ∨ w.heap.size ≤ k) : ∀ a b k, a < 6 → rpart P q' a k → rpart P q' b k → a = b := by
  intro a b k ha6 ha hb
  by_cases ea : a = i
  · by_cases eb : b = i
    · rw [ea, eb]
    · have h2 := hs b k eb hb
      subst ea
      rcases hn k ha with g | g
      · exact h.ap _ _ k ha6 g h2
      · have := h.low b k h2; omega
  · have h1 := hs a k ea ha
    by_cases eb : b = i
    · subst eb
      rcases hn k hb with g | g
      · exact h.ap _ _ k ha6 h1 g
      · have := h.low a k h1; omega
    · exact h.ap _ _ k ha6 h1 (hs b k eb hb)

theorem Dat.nr (h : Dat w P q s) : ∀ i, i < 6 → ¬ rpart P q i P.r := fun i hi e => by have := h.ap i 8 P.r hi e rfl; omega

theorem Dat.below (h : Dat w P q s) (k : Below w.heap.size w w') : Dat w' P q s :=
  ⟨h.o.below (by simp) k, h.m.below (by simp) k, h.rr.below (by simp) k, h.bo.below k, h.li.below k, h.ro.below k, h.wa.below k, h.hn, h.hx.thru k, h.fn, h.hn2, h.hx2.thru k, h.zn, fun ad e => Nat.lt_of_lt_of_le (h.zl ad e) k.size, h.tp, h.ap, h.b1, h.b2, Nat.le_trans h.hB k.size⟩

theorem Dat.reads (h : Dat w P q s) {i : Nat} (hi : i < 6) (k : But (rpart P q i) w w') : Floats w' w'.heap.size q.AF s.m.fs ∧ Sizes w' w'.heap.size q.AZ s.m.az ∧ ∀ ad, q.AZ = some ad → ad.block < w'.heap.size :=
  ⟨floats_but h.hx (Nat.le_refl _) k (fun ad e hl g => by have := h.ap i 6 ad.block hi g ⟨by have := h.hn; omega, by rw [e]; rfl⟩; omega),
   sizes_but h.hx2 (Nat.le_refl _) k (fun ad e g => by have := h.ap i 7 ad.block hi g (by show blk q.AZ = _; rw [e]; rfl); omega),
   fun ad e => Nat.lt_of_lt_of_le (h.zl ad e) k.size⟩

theorem Dat.maker (h : Dat w P q s) {m' : Mk} {AF : Option Addr} {nF cF : Nat} {AZ : Option Addr} {nZ cZ : Nat} (k : But (fun j => j = P.m) w w') (hr : RowAt w' P.m (mrow AF nF cF AZ nZ cZ m'))
    (hn : nF = m'.fs.length) (hx : Floats w w.heap.size AF m'.fs) (fn : AF = none → cF = 0) (hn2 : nZ = m'.az.length) (hx2 : Sizes w w.heap.size AZ m'.az) (zn : AZ = none → cZ = 0) (zl : ∀ ad, AZ = some ad → ad.block < w.heap.size)
    (tp : -281474976710656 ≤ m'.top ∧ m'.top ≤ 562949953421312)
    (h6 : ∀ i ad, i < 6 → 0 < nF → AF = some ad → ¬ rpart P q i ad.block) (h7 : ∀ i ad, i < 6 → AZ = some ad → ¬ rpart P q i ad.block) :
    Dat w' P { q with AF := AF, nF := nF, cF := cF, AZ := AZ, nZ := nZ, cZ := cZ } { s with m := m' } := by
  have hno : ∀ i k, i ≠ 1 → i < 6 → rpart P q i k → ¬ k = P.m := fun i k hi h6 e g => hi (h.ap i 1 k h6 e g)
  have hq : ∀ i k, i < 6 → rpart P { q with AF := AF, nF := nF, cF := cF, AZ := AZ, nZ := nZ, cZ := cZ } i k → rpart P q i k := fun i k hi e => by
    match i, hi, e with
    | 0, _, e => exact e
    | 1, _, e => exact e
    | 2, _, e => exact e
    | 3, _, e => exact e
    | 4, _, e => exact e
    | 5, _, e => exact e
  refine ⟨h.o.but (by simp) k (hno 0 _ (by decide) (by decide) rfl), hr, h.rr.but (by simp) k (h.nr 1 (by decide)), mineE_but h.bo k (fun j e => hno 2 j (by decide) (by decide) (by injection e with e; exact e.symm)), mineE_but h.li k (fun j e => hno 3 j (by decide) (by decide) e), mineE_but h.ro k (fun j e => hno 4 j (by decide) (by decide) e), mineE_but h.wa k (fun j e => hno 5 j (by decide) (by decide) e),
    hn, floats_but hx (Nat.le_refl _) k (fun ad e hl g => h6 1 ad (by decide) (Nat.lt_of_lt_of_eq hl hn.symm) e g), fn, hn2, sizes_but hx2 (Nat.le_refl _) k (fun ad e g => h7 1 ad (by decide) e g), zn, fun ad e => Nat.lt_of_lt_of_le (zl ad e) k.size, tp, ?_, h.b1, h.b2, Nat.le_trans h.hB k.size⟩
  intro a b j ha e1 e2
  have g1 := hq a j ha e1
  rcases Nat.lt_or_ge b 6 with hb | hb
  · exact h.ap a b j ha g1 (hq b j hb e2)
  · exfalso
    match b, hb, e2 with
    | 6, _, e2 =>
      obtain ⟨h0, e2⟩ := e2
      obtain ⟨ad, e3, e4⟩ := blk_some e2
      exact h6 a ad ha h0 e3 (by rw [e4]; exact g1)
    | 7, _, e2 =>
      obtain ⟨ad, e3, e4⟩ := blk_some e2
      exact h7 a ad ha e3 (by rw [e4]; exact g1)
    | 8, _, e2 => have := h.ap a 8 j ha g1 e2; omega
    | n + 9, _, e2 => exact e2

theorem Dat.boxed (h : Dat w P q s) {bs : List Bx} (hl : bs.length = s.box.length) (hb : MineE encB 44 w' P.B (some ⟨P.bx, 0, none⟩) s.box.length s.box.length bs) (k : But (fun j => j = P.bx) w w') :
    Dat w' P q { s with box := bs } := by
  have hno : ∀ i k, i ≠ 2 → i < 6 → rpart P q i k → ¬ k = P.bx := fun i k hi h6 e g => hi (h.ap i 2 k h6 e g)
  obtain ⟨r1, r2, r3⟩ := h.reads (i := 2) (by decide) k
  refine ⟨?_, h.m.but (by simp) k (hno 1 _ (by decide) (by decide) rfl), h.rr.but (by simp) k (h.nr 2 (by decide)), ?_, mineE_but h.li k (fun j e => hno 3 j (by decide) (by decide) e), mineE_but h.ro k (fun j e => hno 4 j (by decide) (by decide) e), mineE_but h.wa k (fun j e => hno 5 j (by decide) (by decide) e), h.hn, r1, h.fn, h.hn2, r2, h.zn, r3, h.tp, h.ap, h.b1, h.b2, Nat.le_trans h.hB k.size⟩
  · have := h.o.but (by simp) k (hno 0 _ (by decide) (by decide) rfl)
    unfold orow
    dsimp only
    rw [hl]
    exact this
  · dsimp only
    rw [hl]
    exact hb

theorem Dat.places (h : Dat w P q s) {A1 A2 : Option Addr} {c1 c2 : Nat} {row wait : List Nat} {i : Nat} (hi : i = 4 ∨ i = 5) (k : But (rpart P q i) w w')
    (h4 : i ≠ 4 → row = s.row ∧ A1 = q.A1 ∧ c1 = q.c1) (g4 : i = 4 → MineE encN 3 w' P.B A1 row.length c1 row ∧ (blk A1 = blk q.A1 ∨ ∀ j, blk A1 = some j → w.heap.size ≤ j))
    (h5 : i ≠ 5 → wait = s.wait ∧ A2 = q.A2 ∧ c2 = q.c2) (g5 : i = 5 → MineE encN 3 w' P.B A2 wait.length c2 wait ∧ (blk A2 = blk q.A2 ∨ ∀ j, blk A2 = some j → w.heap.size ≤ j)) :
    Dat w' P { q with A1 := A1, c1 := c1, A2 := A2, c2 := c2 } { s with row := row, wait := wait } := by
  have hi6 : i < 6 := by omega
  have hno : ∀ a k, a ≠ i → a < 6 → rpart P q a k → ¬ rpart P q i k := fun a k h1 h6 e g => h1 (h.ap a i k h6 e g)
  obtain ⟨r1, r2, r3⟩ := h.reads hi6 k
  refine ⟨h.o.but (by simp) k (hno 0 _ (by omega) (by decide) rfl), h.m.but (by simp) k (hno 1 _ (by omega) (by decide) rfl), h.rr.but (by simp) k (h.nr i hi6), mineE_but h.bo k (fun j e => hno 2 j (by omega) (by decide) (by injection e with e; exact e.symm)), mineE_but h.li k (fun j e => hno 3 j (by omega) (by decide) e), ?_, ?_, h.hn, r1, h.fn, h.hn2, r2, h.zn, r3, h.tp, ?_, h.b1, h.b2, Nat.le_trans h.hB k.size⟩
  · by_cases e : i = 4
    · exact (g4 e).1
    · obtain ⟨e1, e2, e3⟩ := h4 e
      dsimp only
      rw [e1, e2, e3]
      exact mineE_but h.ro k (fun j g => hno 4 j (fun x => e x.symm) (by decide) g)
  · by_cases e : i = 5
    · exact (g5 e).1
    · obtain ⟨e1, e2, e3⟩ := h5 e
      dsimp only
      rw [e1, e2, e3]
      exact mineE_but h.wa k (fun j g => hno 5 j (fun x => e x.symm) (by decide) g)
  · refine h.apart (i := i) (fun j n hj e => ?_) (fun n e => ?_)
    · match j, hj, e with
      | 0, _, e => exact e
      | 1, _, e => exact e
      | 2, _, e => exact e
      | 3, _, e => exact e
      | 4, hj, e =>
        have := (h4 (fun x => hj x.symm)).2.1
        show blk q.A1 = some n
        rw [← this]
        exact e
      | 5, hj, e =>
        have := (h5 (fun x => hj x.symm)).2.1
        show blk q.A2 = some n
        rw [← this]
        exact e
      | 6, _, e => exact e
      | 7, _, e => exact e
      | 8, _, e => exact e
      | d + 9, _, e => exact e
    · rcases hi with rfl | rfl
      · rcases (g4 rfl).2 with x | x
        · left; show blk q.A1 = some n; rw [← x]; exact e
        · right; exact x n e
      · rcases (g5 rfl).2 with x | x
        · left; show blk q.A2 = some n; rw [← x]; exact e
        · right; exact x n e

theorem Dat.lined (h : Dat w P q s) {A3 : Option Addr} {c3 : Nat} {out : List (Mk × List Nat)} (k : But (fun j => rpart P q 3 j ∨ j = P.o) w w') (hr : RowAt w' P.o (orow P { q with A3 := A3, c3 := c3 } { s with out := out }))
    (hl : MineE encL 49 w' P.B A3 out.length c3 (out.map fun e => lnOf e.1)) (hA : blk A3 = blk q.A3 ∨ ∀ j, blk A3 = some j → w.heap.size ≤ j) :
    Dat w' P { q with A3 := A3, c3 := c3 } { s with out := out } := by
  have hno : ∀ a k, a ≠ 3 → a ≠ 0 → a < 6 → rpart P q a k → ¬ (rpart P q 3 k ∨ k = P.o) := fun a k h1 h0 h6 e g => by
    rcases g with g | g
    · exact h1 (h.ap a 3 k h6 e g)
    · exact h0 (h.ap a 0 k h6 e g)
  refine ⟨hr, h.m.but (by simp) k (hno 1 _ (by decide) (by decide) (by decide) rfl), h.rr.but (by simp) k (fun g => g.elim (h.nr 3 (by decide)) (h.nr 0 (by decide))), mineE_but h.bo k (fun j e => hno 2 j (by decide) (by decide) (by decide) (by injection e with e; exact e.symm)), hl, mineE_but h.ro k (fun j e => hno 4 j (by decide) (by decide) (by decide) e), mineE_but h.wa k (fun j e => hno 5 j (by decide) (by decide) (by decide) e),
    h.hn, floats_but h.hx (Nat.le_refl _) k (fun ad e hl g => ?_), h.fn, h.hn2, sizes_but h.hx2 (Nat.le_refl _) k (fun ad e g => ?_), h.zn, fun ad e => Nat.lt_of_lt_of_le (h.zl ad e) k.size, h.tp, ?_, h.b1, h.b2, Nat.le_trans h.hB k.size⟩
  · have h6 : rpart P q 6 ad.block := ⟨Nat.lt_of_lt_of_eq hl h.hn.symm, by rw [e]; rfl⟩
    rcases g with g | g
    · have := h.ap 3 6 _ (by decide) g h6; omega
    · have := h.ap 0 6 _ (by decide) g h6; omega
  · have h7 : rpart P q 7 ad.block := by show blk q.AZ = _; rw [e]; rfl
    rcases g with g | g
    · have := h.ap 3 7 _ (by decide) g h7; omega
    · have := h.ap 0 7 _ (by decide) g h7; omega
  · refine h.apart (i := 3) (fun j k hj e => ?_) (fun k e => ?_)
    · match j, hj, e with
      | 0, _, e => exact e
      | 1, _, e => exact e
      | 2, _, e => exact e
      | 4, _, e => exact e
      | 5, _, e => exact e
      | 6, _, e => exact e
      | 7, _, e => exact e
      | 8, _, e => exact e
      | n + 9, _, e => exact e
    · rcases hA with x | x
      · left; show blk q.A3 = some k; rw [← x]; exact e
      · right; exact x k e

theorem Dat.mkin (h : Dat w P q s) (hf : s.m.fs.length ≤ 1000) (hz : s.m.az.length ≤ 1000) (ha : ∀ z ∈ s.m.az, RightS z) : MkIn w q.AF q.nF q.cF q.AZ q.nZ q.cZ s.m :=
  ⟨h.hn, by have := h.hn; omega, h.hx, h.hn2, by have := h.hn2; omega, h.hx2, ha, by have := h.tp; omega⟩

theorem Dat.refin (h : Dat w P q s) {Z : Int} (hl : Lo Z s.m) (hZ : Z ≤ 140737488355328 + 140000000000000) (hf : s.m.fs.length ≤ 1000) {n : Nat} (hn : s.m.az.length ≤ n) (hn1 : n ≤ 1000) : RefIn n w q.AF q.nF q.cF q.AZ q.nZ q.cZ s.m := by
  have h1 := hl.f1
  have h2 := hl.f2
  have h3 := hl.t1
  have h4 := hl.t2
  have h5 := hl.y1
  have h6 := hl.y2
  have h7 := h.tp
  exact ⟨h.mkin hf (by omega) hl.ha, h.zn, ⟨nearZ_49 hl.fl (by omega), by omega, by omega, by omega, by omega, by omega, by omega, hl.ha, hn, fun e => by omega, fun e => by omega⟩, ⟨by omega, by omega⟩, h.zl⟩

end

end Go.Proofs.YtdibdfalahjmbaaGreat.Text
