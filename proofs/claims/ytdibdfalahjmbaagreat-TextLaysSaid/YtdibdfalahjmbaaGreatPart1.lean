/- Texts of this proof that follow each other, in one file. -/
import Derived.Test.YtdibdfalahjmbaaGreatRows
import Derived.WalkKit
import Derived.WalkSpells
import Derived.WalkLawsBesides
import Derived.BigQuiet
import Derived.Lib.Hide
import Derived.Lib.QuietBelow
import Derived.DataElems
import Derived.ProofKit
import Derived.OpenShut
import Derived.Carry
import Derived.StillTail
import Derived.OneCell
import Derived.Deep.DeepCutAuto
namespace Go.Proofs.YtdibdfalahjmbaaGreat

open Go.RowKit Go.Sort

theorem ba1 (w : World) (o : Obj) : Below w.heap.size w (w.alloc o) := (Below.refl _ _).alloc (Nat.le_refl _) o

theorem ba2 (w : World) (o p : Obj) : Below w.heap.size w ((w.alloc o).alloc p) := (ba1 w o).alloc (by simp) p

theorem ba3 (w : World) (o p q : Obj) : Below w.heap.size w (((w.alloc o).alloc p).alloc q) := (ba2 w o p).alloc (by simp; omega) q

theorem bcell {W w1 : World} (hb : Below W.heap.size W w1) : (∀ b o, b < W.heap.size → w1.cell? ⟨b, o, none⟩ = W.cell? ⟨b, o, none⟩) ∧ (∀ b o, b < W.heap.size → w1.frozen? ⟨b, o, none⟩ = W.frozen? ⟨b, o, none⟩) :=
  ⟨fun b o h => hb.cell (p := ⟨b, o, none⟩) h, fun b o h => hb.frozen (p := ⟨b, o, none⟩) h⟩

theorem thru {w W w1 : World} (h1 : Below w.heap.size w W) (h2 : Below W.heap.size W w1) : Below w.heap.size w w1 := h1.trans (h2.mono h1.size)

theorem block_of_add (a : Addr) (n : Nat) : (a.add n).block = a.block := by unfold Addr.add; split <;> rfl

def Nums (w : World) (B : Nat) (A : Option Addr) (xs : List Int) : Prop :=
  ∀ k, k < xs.length → ∃ ad : Addr, A = some ad ∧ ad.block < B ∧ w.cell? (ad.add k) = some (.int .i64 (xs.getD k 0))

theorem Nums.below {w w' : World} {B : Nat} {A : Option Addr} {xs : List Int} (h : Nums w B A xs) (k : Below B w w') : Nums w' B A xs := fun i hi => by
  obtain ⟨ad, e, hb, hc⟩ := h i hi
  exact ⟨ad, e, hb, by rw [k.cell (by rw [block_of_add]; exact hb)]; exact hc⟩

theorem Nums.more {w : World} {B C : Nat} {A : Option Addr} {xs : List Int} (h : Nums w B A xs) (hc : B ≤ C) : Nums w C A xs := fun i hi => by
  obtain ⟨ad, e, hb, hx⟩ := h i hi
  exact ⟨ad, e, by omega, hx⟩

theorem Nums.thru {w w' : World} {A : Option Addr} {xs : List Int} (h : Nums w w.heap.size A xs) (k : Below w.heap.size w w') : Nums w' w'.heap.size A xs :=
  (h.below k).more k.size

theorem take_next (xs : List Int) (k : Nat) (h : k < xs.length) : xs.take (k + 1) = xs.take k ++ [xs.getD k 0] := by
  rw [List.take_succ_eq_append_getElem h]; simp [List.getD, h]

theorem Nums.back {w : World} {B : Nat} {ad : Addr} {xs : List Int} (h : Nums w B (some ad) xs) (k : Nat) : Nums w B (some (ad.add k)) (xs.drop k) := fun i hi => by
  rw [List.length_drop] at hi
  obtain ⟨ad', e, hb, hc⟩ := h (k + i) (by omega)
  injection e with e
  subst e
  refine ⟨_, rfl, by rw [block_of_add]; exact hb, ?_⟩
  rw [Addr.add_add, hc]
  simp [List.getD]

end Go.Proofs.YtdibdfalahjmbaaGreat

namespace Go.Proofs.YtdibdfalahjmbaaGreat

open Go.RowKit

section

open Go.ChangeShapes Go.WideShapes Go.ChangeAt

variable {H : Type} {enc : TypeId × Value → H} {P : Program}

theorem ends_low {f : Func} {s : ChangeSpec} {apart fresh handsOn again : Bool} {W V : World} {args : Array Value} {v : Value} {ds gs : List (DataW H)} {places pa pv : List MemPlace}
    (whole : DataW.Whole enc P f.params.toList s.vars apart W args.toList ds gs places)
    (results : ∀ (b : Nat) (sp : Nat → Bool) (hd : Bool), DataW.TrodAll enc P V b sp hd f.resultTypes.toList (v.resultList f.resultTypes.size) (s.fn H (ds ++ gs)).results [])
    (arguments : ∀ sp : Nat → Bool, (∀ p ∈ places, sp p.block = true) → DataW.TrodAll enc P V 0 sp true f.params.toList args.toList (s.fn H (ds ++ gs)).args pa)
    (variables : ∀ sp : Nat → Bool, (∀ p ∈ places, sp p.block = true) → DataW.TrodVars enc P V sp s.vars (s.fn H (ds ++ gs)).vars pv)
    (parts : places = pa ++ pv) (low : Below W.heap.size W V)
    (forms : ∀ (j : Nat) (t : TypeId) (r : Value), f.resultTypes[j]? = some t → (v.resultList f.resultTypes.size)[j]? = some r → Value.okWide P V .any 0 t r) :
    s.post enc P f apart fresh handsOn again W args v V := by
  have old : ∀ p ∈ places, p.block < W.heap.size := fun p h => whole.lt p h
  have mark : ∀ p ∈ places, (fun b => decide (b < W.heap.size)) p.block = true := fun p h => by simpa using old p h
  subst parts
  obtain ⟨_, _, _, _, _, thawed, once⟩ := id whole
  refine ⟨ds, gs, pa ++ pv, [], pa, pv, whole, results _ _ _, arguments _ mark, variables _ mark, ?_, fun _ => ⟨forms, _, _, ([] ++ pa) ++ pv, ⟨[] ++ pa, pv, trodAll_append (arguments _ (fun _ _ => rfl)) (results _ _ _), variables _ (fun _ _ => rfl), rfl, ?_, ?_⟩, ?_⟩⟩
  · exact World.keptBut_mono (fun p h => ⟨h, Or.inr (List.mem_append.1 h)⟩) (low.frame (· ∈ pa ++ pv))
  · intro b off h
    have h' : MemPlace.cell b off ∈ pa ++ pv := by simpa using h
    rw [low.frozen (old _ h')]
    exact thawed b off h'
  · intro h
    simpa using once h
  · intro p h _
    simpa using h

end

section

open Go.ChangeShapes Go.WideShapes Go.ChangeAt

theorem own : ownKnob Tryz.prog.godebug = none := by kernel_rfl

theorem laidOut : laidOutB Tryz.prog = true := by kernel_rfl

end

end Go.Proofs.YtdibdfalahjmbaaGreat

namespace Go.Proofs.YtdibdfalahjmbaaGreat.Shelf

structure Fl where
  s : Int
  l : Int
  t : Int
  r : Int
  b : Int

abbrev far : Int := 4503599627370496

def cntF (f : Fl) : Bool := decide (f.l < f.r) && decide (f.t < f.b) && (decide (f.s = 1) || decide (f.s = 2))

def hitF (side a z : Int) (f : Fl) : Bool := cntF f && decide (f.s = side) && decide (f.t < z) && decide (a < f.b) && decide (a < z)

theorem cntF_iff {f : Fl} : cntF f = true ↔ f.l < f.r ∧ f.t < f.b ∧ (f.s = 1 ∨ f.s = 2) := by
  unfold cntF; simp [and_assoc]

theorem hitF_iff {side a z : Int} {f : Fl} : hitF side a z f = true ↔ cntF f = true ∧ f.s = side ∧ f.t < z ∧ a < f.b ∧ a < z := by
  unfold hitF; simp [and_assoc]

def bandL (fs : List Fl) (a z : Int) : Int := fs.foldl (fun v f => if hitF 1 a z f then max v f.r else v) (-far)

def bandR (fs : List Fl) (a z : Int) : Int := fs.foldl (fun v f => if hitF 2 a z f then min v f.l else v) far

theorem foldL_le (a z : Int) : ∀ (fs : List Fl) (v0 v : Int), fs.foldl (fun v f => if hitF 1 a z f then max v f.r else v) v0 ≤ v ↔ v0 ≤ v ∧ ∀ f ∈ fs, hitF 1 a z f = true → f.r ≤ v
  | [], v0, v => by simp
  | f :: fs, v0, v => by
    rw [List.foldl_cons, foldL_le a z fs]
    by_cases h : hitF 1 a z f = true
    · rw [if_pos h]
      constructor
      · rintro ⟨h1, h2⟩
        exact ⟨by omega, fun g hg hh => by
          rcases List.mem_cons.1 hg with e | e
          · subst e; omega
          · exact h2 g e hh⟩
      · rintro ⟨h1, h2⟩
        have := h2 f (by simp) h
        exact ⟨by omega, fun g hg hh => h2 g (by simp [hg]) hh⟩
    · rw [if_neg h]
      constructor
      · rintro ⟨h1, h2⟩
        exact ⟨h1, fun g hg hh => by
          rcases List.mem_cons.1 hg with e | e
          · subst e; exact absurd hh h
          · exact h2 g e hh⟩
      · rintro ⟨h1, h2⟩
        exact ⟨h1, fun g hg hh => h2 g (by simp [hg]) hh⟩

theorem foldR_le (a z : Int) : ∀ (fs : List Fl) (v0 v : Int), v ≤ fs.foldl (fun v f => if hitF 2 a z f then min v f.l else v) v0 ↔ v ≤ v0 ∧ ∀ f ∈ fs, hitF 2 a z f = true → v ≤ f.l
  | [], v0, v => by simp
  | f :: fs, v0, v => by
    rw [List.foldl_cons, foldR_le a z fs]
    by_cases h : hitF 2 a z f = true
    · rw [if_pos h]
      constructor
      · rintro ⟨h1, h2⟩
        exact ⟨by omega, fun g hg hh => by
          rcases List.mem_cons.1 hg with e | e
          · subst e; omega
          · exact h2 g e hh⟩
      · rintro ⟨h1, h2⟩
        have := h2 f (by simp) h
        exact ⟨by omega, fun g hg hh => h2 g (by simp [hg]) hh⟩
    · rw [if_neg h]
      constructor
      · rintro ⟨h1, h2⟩
        exact ⟨h1, fun g hg hh => by
          rcases List.mem_cons.1 hg with e | e
          · subst e; exact absurd hh h
          · exact h2 g e hh⟩
      · rintro ⟨h1, h2⟩
        exact ⟨h1, fun g hg hh => h2 g (by simp [hg]) hh⟩

theorem bandL_le {fs : List Fl} {a z v : Int} : bandL fs a z ≤ v ↔ -far ≤ v ∧ ∀ f ∈ fs, hitF 1 a z f = true → f.r ≤ v := foldL_le a z fs _ v

theorem le_bandR {fs : List Fl} {a z v : Int} : v ≤ bandR fs a z ↔ v ≤ far ∧ ∀ f ∈ fs, hitF 2 a z f = true → v ≤ f.l := foldR_le a z fs _ v

theorem eq_of_le {x y : Int} (h : ∀ v, x ≤ v ↔ y ≤ v) : x = y := by
  have h1 := (h y).2 (Int.le_refl _)
  have h2 := (h x).1 (Int.le_refl _)
  omega

theorem eq_of_ge {x y : Int} (h : ∀ v, v ≤ x ↔ v ≤ y) : x = y := by
  have h1 := (h x).1 (Int.le_refl _)
  have h2 := (h y).2 (Int.le_refl _)
  omega

theorem bandL_none (fs : List Fl) {a z : Int} (h : z ≤ a) : bandL fs a z = -far :=
  eq_of_le fun v => by
    rw [bandL_le]
    exact ⟨fun h1 => h1.1, fun h1 => ⟨h1, fun f _ hh => by have := (hitF_iff.1 hh).2.2.2.2; omega⟩⟩

theorem bandR_none (fs : List Fl) {a z : Int} (h : z ≤ a) : bandR fs a z = far :=
  eq_of_ge fun v => by
    rw [le_bandR]
    exact ⟨fun h1 => h1.1, fun h1 => ⟨h1, fun f _ hh => by have := (hitF_iff.1 hh).2.2.2.2; omega⟩⟩

theorem hit_split {side a m z : Int} {f : Fl} (h1 : a ≤ m) (h2 : m ≤ z) : hitF side a z f = true ↔ hitF side a m f = true ∨ hitF side m z f = true := by
  simp only [hitF_iff]
  constructor
  · rintro ⟨c, s, h3, h4, h5⟩
    have := (cntF_iff.1 c).2.1
    by_cases h6 : f.t < m ∧ a < m
    · exact .inl ⟨c, s, h6.1, h4, h6.2⟩
    · exact .inr ⟨c, s, h3, by omega, by omega⟩
  · rintro (⟨c, s, h3, h4, h5⟩ | ⟨c, s, h3, h4, h5⟩)
    · exact ⟨c, s, by omega, h4, by omega⟩
    · exact ⟨c, s, h3, by omega, by omega⟩

theorem bandL_split (fs : List Fl) {a m z : Int} (h1 : a ≤ m) (h2 : m ≤ z) : bandL fs a z = max (bandL fs a m) (bandL fs m z) :=
  eq_of_le fun v => by
    have e : max (bandL fs a m) (bandL fs m z) ≤ v ↔ bandL fs a m ≤ v ∧ bandL fs m z ≤ v := by omega
    rw [e, bandL_le, bandL_le, bandL_le]
    constructor
    · rintro ⟨h3, h4⟩
      exact ⟨⟨h3, fun f hf hh => h4 f hf ((hit_split h1 h2).2 (.inl hh))⟩, ⟨h3, fun f hf hh => h4 f hf ((hit_split h1 h2).2 (.inr hh))⟩⟩
    · rintro ⟨⟨h3, h4⟩, -, h5⟩
      exact ⟨h3, fun f hf hh => by
        rcases (hit_split h1 h2).1 hh with h | h
        · exact h4 f hf h
        · exact h5 f hf h⟩

theorem bandR_split (fs : List Fl) {a m z : Int} (h1 : a ≤ m) (h2 : m ≤ z) : bandR fs a z = min (bandR fs a m) (bandR fs m z) :=
  eq_of_ge fun v => by
    have e : v ≤ min (bandR fs a m) (bandR fs m z) ↔ v ≤ bandR fs a m ∧ v ≤ bandR fs m z := by omega
    rw [e, le_bandR, le_bandR, le_bandR]
    constructor
    · rintro ⟨h3, h4⟩
      exact ⟨⟨h3, fun f hf hh => h4 f hf ((hit_split h1 h2).2 (.inl hh))⟩, ⟨h3, fun f hf hh => h4 f hf ((hit_split h1 h2).2 (.inr hh))⟩⟩
    · rintro ⟨⟨h3, h4⟩, -, h5⟩
      exact ⟨h3, fun f hf hh => by
        rcases (hit_split h1 h2).1 hh with h | h
        · exact h4 f hf h
        · exact h5 f hf h⟩

def bndF (fs : List Fl) (y : Int) : Int × Int := (bandL fs y (y + 1), bandR fs y (y + 1))


def Draws {β : Type} (F : Int → β) : Int → List (Int × β) → Prop
  | _, [] => False
  | a, [(t, b)] => t = a ∧ ∀ y, a ≤ y → F y = b
  | a, (t, b) :: (t2, b2) :: rest => t = a ∧ a < t2 ∧ b ≠ b2 ∧ (∀ y, a ≤ y → y < t2 → F y = b) ∧ Draws F t2 ((t2, b2) :: rest)

theorem draws_head {β : Type} {F : Int → β} {a t : Int} {b : β} {rest : List (Int × β)} (h : Draws F a ((t, b) :: rest)) : t = a ∧ F a = b := by
  cases rest with
  | nil => exact ⟨h.1, h.2 a (Int.le_refl _)⟩
  | cons x xs => obtain ⟨t2, b2⟩ := x; exact ⟨h.1, h.2.2.2.1 a (Int.le_refl _) h.2.1⟩

theorem draws_one {β : Type} {F : Int → β} : ∀ (xs ys : List (Int × β)) (a : Int), Draws F a xs → Draws F a ys → xs = ys
  | [], _, _, h, _ => h.elim
  | _ :: _, [], _, _, h => h.elim
  | [(t, b)], [(t', b')], a, h, h' => by
    have h1 := draws_head h
    have h2 := draws_head h'
    rw [h1.1, h2.1, ← h1.2, ← h2.2]
  | [(t, b)], (t', b') :: (t2', b2') :: r', a, h, h' => by
    obtain ⟨-, h2, h3, h4, h5⟩ := h'
    have h6 := (draws_head h5).2
    have h7 := h.2 t2' (by omega)
    have h8 := h4 a (Int.le_refl _) h2
    have h9 := h.2 a (Int.le_refl _)
    exact absurd (by rw [← h8, h9, ← h7, h6]) h3
  | (t, b) :: (t2, b2) :: r, [(t', b')], a, h, h' => by
    obtain ⟨-, h2, h3, h4, h5⟩ := h
    have h6 := (draws_head h5).2
    have h7 := h'.2 t2 (by omega)
    have h8 := h4 a (Int.le_refl _) h2
    have h9 := h'.2 a (Int.le_refl _)
    exact absurd (by rw [← h8, h9, ← h7, h6]) h3
  | (t, b) :: (t2, b2) :: r, (t', b') :: (t2', b2') :: r', a, h, h' => by
    have g1 := draws_head h
    have g2 := draws_head h'
    obtain ⟨-, h2, h3, h4, h5⟩ := h
    obtain ⟨-, k2, k3, k4, k5⟩ := h'
    have e1 := (draws_head h5).2
    have e2 := (draws_head k5).2
    have hb : b = b' := by rw [← g1.2, ← g2.2]
    have ht : t2 = t2' := by
      rcases Int.lt_trichotomy t2 t2' with hh | hh | hh
      · have := k4 t2 (by omega) hh
        exact absurd (by rw [hb, ← this, e1]) h3
      · exact hh
      · have := h4 t2' (by omega) hh
        exact absurd (by rw [← hb, ← this, e2]) k3
    subst ht
    have := draws_one ((t2, b2) :: r) ((t2, b2') :: r') t2 h5 k5
    rw [g1.1, g2.1, hb, this]

theorem draws_congr {β : Type} {F G : Int → β} : ∀ (xs : List (Int × β)) (a : Int), (∀ y, a ≤ y → F y = G y) → Draws F a xs → Draws G a xs
  | [], _, _, h => h
  | [(t, b)], a, hf, h => ⟨h.1, fun y hy => (hf y hy).symm.trans (h.2 y hy)⟩
  | (t, b) :: (t2, b2) :: r, a, hf, ⟨h1, h2, h3, h4, h5⟩ => ⟨h1, h2, h3, fun y hy h => (hf y hy).symm.trans (h4 y hy h), draws_congr ((t2, b2) :: r) t2 (fun y hy => hf y (by omega)) h5⟩

end Go.Proofs.YtdibdfalahjmbaaGreat.Shelf

namespace Go.Proofs.YtdibdfalahjmbaaGreat.Shelf

def stepN (y : Int) (c : Bool) (s : Int × Bool) (e : Int) : Int × Bool := if c && decide (y < e) && (!s.2 || decide (e < s.1)) then (e, true) else s

def nextF (fs : List Fl) (y : Int) : Int × Bool := fs.foldl (fun s f => stepN y (cntF f) (stepN y (cntF f) s f.t) f.b) (0, false)

def Least (y : Int) (P : Int → Prop) (s : Int × Bool) : Prop := if s.2 then y < s.1 ∧ P s.1 ∧ ∀ e, P e → y < e → s.1 ≤ e else s = (0, false) ∧ ∀ e, P e → ¬ y < e

theorem least_step {y : Int} {P : Int → Prop} {s : Int × Bool} (h : Least y P s) (c : Bool) (e : Int) : Least y (fun x => P x ∨ (c = true ∧ x = e)) (stepN y c s e) := by
  obtain ⟨v, ok⟩ := s
  unfold stepN
  unfold Least at h ⊢
  cases c
  · simp only [Bool.false_and, Bool.false_eq_true, if_false]
    cases ok
    · simp only [Bool.false_eq_true, if_false] at h ⊢
      exact ⟨h.1, fun x hx => by rcases hx with hx | hx; exact h.2 x hx; exact hx.1.elim⟩
    · simp only [if_true] at h ⊢
      exact ⟨h.1, .inl h.2.1, fun x hx => by rcases hx with hx | hx; exact h.2.2 x hx; exact hx.1.elim⟩
  · by_cases hy : y < e
    · cases ok
      · simp only [Bool.false_eq_true, if_false] at h
        simp only [hy, decide_true, Bool.not_false, Bool.true_or, Bool.and_true, if_true]
        exact ⟨trivial, .inr ⟨trivial, trivial⟩, fun x hx hxy => by
          rcases hx with hx | hx
          · exact absurd hxy (h.2 x hx)
          · omega⟩
      · simp only [if_true] at h
        by_cases he : e < v
        · simp only [Bool.true_and, hy, he, decide_true, Bool.not_true, Bool.false_or, if_true]
          exact ⟨trivial, .inr ⟨trivial, trivial⟩, fun x hx hxy => by
            rcases hx with hx | hx
            · have := h.2.2 x hx hxy; omega
            · omega⟩
        · simp only [Bool.true_and, hy, he, decide_true, decide_false, Bool.not_true, Bool.or_false, Bool.and_false, Bool.false_eq_true, if_false, if_true]
          exact ⟨h.1, .inl h.2.1, fun x hx hxy => by
            rcases hx with hx | hx
            · exact h.2.2 x hx hxy
            · omega⟩
    · simp only [hy, decide_false, Bool.and_false, Bool.false_and, Bool.false_eq_true, if_false]
      cases ok
      · simp only [Bool.false_eq_true, if_false] at h ⊢
        exact ⟨h.1, fun x hx => by
          rcases hx with hx | hx
          · exact h.2 x hx
          · rw [hx.2]; exact hy⟩
      · simp only [if_true] at h ⊢
        exact ⟨h.1, .inl h.2.1, fun x hx hxy => by
          rcases hx with hx | hx
          · exact h.2.2 x hx hxy
          · rw [hx.2] at hxy; exact absurd hxy hy⟩

theorem least_congr {y : Int} {P Q : Int → Prop} (h : ∀ x, P x ↔ Q x) {s : Int × Bool} (hs : Least y P s) : Least y Q s := by
  have : P = Q := funext fun x => propext (h x)
  rwa [← this]

def edge (fs : List Fl) (e : Int) : Prop := ∃ f ∈ fs, cntF f = true ∧ (e = f.t ∨ e = f.b)

theorem least_fold (y : Int) : ∀ (fs gs : List Fl) (s : Int × Bool), Least y (edge gs) s → Least y (edge (gs ++ fs)) (fs.foldl (fun s f => stepN y (cntF f) (stepN y (cntF f) s f.t) f.b) s)
  | [], gs, s, h => by rwa [List.append_nil]
  | f :: fs, gs, s, h => by
    rw [List.foldl_cons]
    have h1 := least_step (least_step h (cntF f) f.t) (cntF f) f.b
    have h2 := least_fold y fs (gs ++ [f]) _ (least_congr (Q := edge (gs ++ [f])) (fun x => by
      unfold edge
      constructor
      · rintro ((⟨g, hg, h3⟩ | ⟨hc, he⟩) | ⟨hc, he⟩)
        · exact ⟨g, by simp [hg], h3⟩
        · exact ⟨f, by simp, hc, .inl he⟩
        · exact ⟨f, by simp, hc, .inr he⟩
      · rintro ⟨g, hg, hc, he⟩
        rcases List.mem_append.1 hg with hg | hg
        · exact .inl (.inl ⟨g, hg, hc, he⟩)
        · rw [List.mem_singleton.1 hg] at hc he
          rcases he with he | he
          · exact .inl (.inr ⟨hc, he⟩)
          · exact .inr ⟨hc, he⟩) h1)
    rwa [List.append_assoc, List.singleton_append] at h2

theorem nextF_least (fs : List Fl) (y : Int) : Least y (edge fs) (nextF fs y) := by
  have := least_fold y fs [] (0, false) (by unfold Least; simp [edge])
  rwa [List.nil_append] at this

theorem bnd_same {fs : List Fl} {x y : Int} (hxy : y ≤ x) (h : ∀ e, edge fs e → y < e → x < e) : bndF fs x = bndF fs y := by
  have key : ∀ side, ∀ f ∈ fs, hitF side x (x + 1) f = true ↔ hitF side y (y + 1) f = true := by
    intro side f hf
    simp only [hitF_iff]
    constructor
    · rintro ⟨c, s, h1, h2, -⟩
      have ht := h f.t ⟨f, hf, c, .inl rfl⟩
      exact ⟨c, s, by omega, by omega, by omega⟩
    · rintro ⟨c, s, h1, h2, -⟩
      have hb := h f.b ⟨f, hf, c, .inr rfl⟩ h2
      exact ⟨c, s, by omega, by omega, by omega⟩
  unfold bndF
  rw [eq_of_le (x := bandL fs x (x + 1)) (y := bandL fs y (y + 1)) fun v => by
      rw [bandL_le, bandL_le]; exact ⟨fun ⟨h1, h2⟩ => ⟨h1, fun f hf hh => h2 f hf ((key 1 f hf).2 hh)⟩, fun ⟨h1, h2⟩ => ⟨h1, fun f hf hh => h2 f hf ((key 1 f hf).1 hh)⟩⟩,
    eq_of_ge (x := bandR fs x (x + 1)) (y := bandR fs y (y + 1)) fun v => by
      rw [le_bandR, le_bandR]; exact ⟨fun ⟨h1, h2⟩ => ⟨h1, fun f hf hh => h2 f hf ((key 2 f hf).2 hh)⟩, fun ⟨h1, h2⟩ => ⟨h1, fun f hf hh => h2 f hf ((key 2 f hf).1 hh)⟩⟩]

theorem bnd_free {fs : List Fl} {y : Int} (h : ∀ f ∈ fs, cntF f = true → y < f.t ∨ f.b ≤ y) : bndF fs y = (-far, far) := by
  have key : ∀ side, ∀ f ∈ fs, hitF side y (y + 1) f = true → False := fun side f hf hh => by
    obtain ⟨c, -, h1, h2, -⟩ := hitF_iff.1 hh
    have := h f hf c
    omega
  unfold bndF
  rw [eq_of_le (x := bandL fs y (y + 1)) (y := -far) fun v => by rw [bandL_le]; exact ⟨fun h1 => h1.1, fun h1 => ⟨h1, fun f hf hh => (key 1 f hf hh).elim⟩⟩,
    eq_of_ge (x := bandR fs y (y + 1)) (y := far) fun v => by rw [le_bandR]; exact ⟨fun h1 => h1.1, fun h1 => ⟨h1, fun f hf hh => (key 2 f hf hh).elim⟩⟩]

def edgesL (fs : List Fl) : List Int := (fs.filter cntF).flatMap fun f => [f.t, f.b]

theorem edgesL_mem {fs : List Fl} {e : Int} : e ∈ edgesL fs ↔ edge fs e := by
  unfold edgesL edge
  simp only [List.mem_flatMap, List.mem_filter, List.mem_cons, List.not_mem_nil, or_false, and_assoc]

theorem edgesL_len (fs : List Fl) : (edgesL fs).length ≤ 2 * fs.length := by
  unfold edgesL
  have h1 : ∀ gs : List Fl, (gs.flatMap fun f => [f.t, f.b]).length = 2 * gs.length := fun gs => by
    induction gs with
    | nil => rfl
    | cons g gs ih => rw [List.flatMap_cons, List.length_append, ih]; simp; omega
  rw [h1]
  have := List.length_filter_le cntF fs
  omega

def leftN (fs : List Fl) (y : Int) : Nat := (edgesL fs).countP fun e => decide (y ≤ e)

theorem leftN_less {fs : List Fl} {y z : Int} (h : edge fs y) (hz : y < z) : leftN fs z < leftN fs y := by
  unfold leftN
  have hm := edgesL_mem.2 h
  generalize edgesL fs = es at hm
  induction es with
  | nil => cases hm
  | cons e es ih =>
    rw [List.countP_cons, List.countP_cons]
    have hmono : ∀ l : List Int, l.countP (fun e => decide (z ≤ e)) ≤ l.countP (fun e => decide (y ≤ e)) := fun l => List.countP_mono_left (fun x _ hx => by simp only [decide_eq_true_eq] at hx ⊢; omega)
    rcases List.mem_cons.1 hm with e1 | e1
    · subst e1
      have := hmono es
      rw [if_neg (by simp; omega), if_pos (by simp)]
      omega
    · have := ih e1
      by_cases h2 : z ≤ e
      · rw [if_pos (by simp [h2]), if_pos (by simp; omega)]; omega
      · rw [if_neg (by simp [h2])]; split <;> omega

def restS (fs : List Fl) : Nat → Int × Int → Int → List (Int × (Int × Int))
  | 0, _, _ => []
  | q + 1, b, y =>
    if bndF fs y = b then (if (nextF fs y).2 then restS fs q b (nextF fs y).1 else [])
    else (y, bndF fs y) :: (if (nextF fs y).2 then restS fs q (bndF fs y) (nextF fs y).1 else [])

theorem restS_draws {fs : List Fl} : ∀ (q : Nat) (a y : Int) (b : Int × Int), a < y → edge fs y → (∀ x, a ≤ x → x < y → bndF fs x = b) → leftN fs y ≤ q → Draws (bndF fs) a ((a, b) :: restS fs q b y)
  | 0, a, y, b, _, he, _, hq => by
    exfalso
    have h1 : 0 < leftN fs y := List.countP_pos_iff.2 ⟨y, edgesL_mem.2 he, by simp⟩
    omega
  | q + 1, a, y, b, ha, he, hc, hq => by
    have hn := nextF_least fs y
    unfold Least at hn
    unfold restS
    cases hok : (nextF fs y).2
    · rw [hok] at hn
      simp only [Bool.false_eq_true, if_false] at hn ⊢
      have hsame : ∀ x, y ≤ x → bndF fs x = bndF fs y := fun x hx => bnd_same hx (fun e h1 h2 => absurd h2 (hn.2 e h1))
      by_cases hb : bndF fs y = b
      · rw [if_pos hb]
        exact ⟨rfl, fun x hx => by
          by_cases h : x < y
          · exact hc x hx h
          · rw [hsame x (by omega), hb]⟩
      · rw [if_neg hb]
        exact ⟨rfl, ha, fun e => hb e.symm, hc, rfl, hsame⟩
    · rw [hok] at hn
      simp only [if_true] at hn ⊢
      obtain ⟨h1, h2, h3⟩ := hn
      have hsame : ∀ x, y ≤ x → x < (nextF fs y).1 → bndF fs x = bndF fs y := fun x hx hx2 => bnd_same hx (fun e g1 g2 => by have := h3 e g1 g2; omega)
      have hl := leftN_less he h1
      by_cases hb : bndF fs y = b
      · rw [if_pos hb]
        exact restS_draws q a _ b (by omega) h2 (fun x hx hx2 => by
          by_cases h : x < y
          · exact hc x hx h
          · rw [hsame x (by omega) hx2, hb]) (by omega)
      · rw [if_neg hb]
        have := restS_draws q y _ (bndF fs y) h1 h2 hsame (by omega)
        exact ⟨rfl, ha, fun e => hb e.symm, hc, this⟩

theorem restS_len {fs : List Fl} : ∀ (q : Nat) (b : Int × Int) (y : Int), (restS fs q b y).length ≤ q
  | 0, _, _ => Nat.le_refl _
  | q + 1, b, y => by
    unfold restS
    split <;> split
    · have := restS_len (fs := fs) q b (nextF fs y).1; omega
    · simp
    · have := restS_len (fs := fs) q (bndF fs y) (nextF fs y).1; simp; omega
    · simp

def shelvesD (fs : List Fl) : List (Int × (Int × Int)) := (-far, (-far, far)) :: (if (nextF fs (-far)).2 then restS fs (2 * fs.length) (-far, far) (nextF fs (-far)).1 else [])

def Near (fs : List Fl) : Prop := ∀ f ∈ fs, -2251799813685248 < f.t ∧ f.b < 2251799813685248

theorem shelvesD_draws {fs : List Fl} (hn : Near fs) : Draws (bndF fs) (-far) (shelvesD fs) := by
  have hfree : ∀ x, (∀ f ∈ fs, cntF f = true → x < f.t) → bndF fs x = (-far, far) := fun x h => bnd_free (fun f hf hc => .inl (h f hf hc))
  have hl := nextF_least fs (-far)
  unfold Least at hl
  unfold shelvesD
  cases hok : (nextF fs (-far)).2
  · rw [hok] at hl
    simp only [Bool.false_eq_true, if_false] at hl ⊢
    exact ⟨rfl, fun x _ => hfree x (fun f hf hc => absurd (by have := (hn f hf).1; unfold far; omega) (hl.2 f.t ⟨f, hf, hc, .inl rfl⟩))⟩
  · rw [hok] at hl
    simp only [if_true] at hl ⊢
    obtain ⟨h1, h2, h3⟩ := hl
    refine restS_draws _ _ _ _ h1 h2 (fun x hx hx2 => hfree x fun f hf hc => ?_) ?_
    · have := h3 f.t ⟨f, hf, hc, .inl rfl⟩ (by have := (hn f hf).1; unfold far; omega)
      omega
    · exact Nat.le_trans (List.countP_le_length ..) (edgesL_len fs)

theorem shelvesD_len (fs : List Fl) : (shelvesD fs).length ≤ 2 * fs.length + 1 := by
  unfold shelvesD
  rw [List.length_cons]
  split
  · have := restS_len (fs := fs) (2 * fs.length) (-far, far) (nextF fs (-far)).1; omega
  · simp

theorem shelves_one {fs : List Fl} (hn : Near fs) {xs : List (Int × (Int × Int))} (h : Draws (bndF fs) (-far) xs) : xs = shelvesD fs := draws_one _ _ _ h (shelvesD_draws hn)

def docL (fs : List Fl) (a z : Int) : Int := fs.foldl (fun v f => if decide (a < f.t) && decide (f.t < z) then max v (bandL fs f.t (f.t + 1)) else v) (bandL fs a (a + 1))

def docR (fs : List Fl) (a z : Int) : Int := fs.foldl (fun v f => if decide (a < f.t) && decide (f.t < z) then min v (bandR fs f.t (f.t + 1)) else v) (bandR fs a (a + 1))

theorem foldM_le (p : Fl → Bool) (g : Fl → Int) : ∀ (fs : List Fl) (v0 v : Int), fs.foldl (fun v f => if p f then max v (g f) else v) v0 ≤ v ↔ v0 ≤ v ∧ ∀ f ∈ fs, p f = true → g f ≤ v
  | [], v0, v => by simp
  | f :: fs, v0, v => by
    rw [List.foldl_cons, foldM_le p g fs]
    simp only [List.mem_cons, forall_eq_or_imp]
    by_cases h : p f = true
    · rw [if_pos h]
      constructor
      · rintro ⟨h1, h2⟩; exact ⟨by omega, fun _ => by omega, h2⟩
      · rintro ⟨h1, h2, h3⟩; have := h2 h; exact ⟨by omega, h3⟩
    · rw [if_neg h]
      exact ⟨fun ⟨h1, h2⟩ => ⟨h1, fun e => absurd e h, h2⟩, fun ⟨h1, _, h3⟩ => ⟨h1, h3⟩⟩

theorem foldm_le (p : Fl → Bool) (g : Fl → Int) : ∀ (fs : List Fl) (v0 v : Int), v ≤ fs.foldl (fun v f => if p f then min v (g f) else v) v0 ↔ v ≤ v0 ∧ ∀ f ∈ fs, p f = true → v ≤ g f
  | [], v0, v => by simp
  | f :: fs, v0, v => by
    rw [List.foldl_cons, foldm_le p g fs]
    simp only [List.mem_cons, forall_eq_or_imp]
    by_cases h : p f = true
    · rw [if_pos h]
      constructor
      · rintro ⟨h1, h2⟩; exact ⟨by omega, fun _ => by omega, h2⟩
      · rintro ⟨h1, h2, h3⟩; have := h2 h; exact ⟨by omega, h3⟩
    · rw [if_neg h]
      exact ⟨fun ⟨h1, h2⟩ => ⟨h1, fun e => absurd e h, h2⟩, fun ⟨h1, _, h3⟩ => ⟨h1, h3⟩⟩

theorem docL_band {fs : List Fl} {a z : Int} (h : a < z) : docL fs a z = bandL fs a z :=
  eq_of_le fun v => by
    unfold docL
    rw [foldM_le, bandL_le, bandL_le]
    simp only [Bool.and_eq_true, decide_eq_true_eq]
    constructor
    · rintro ⟨⟨h1, h2⟩, h3⟩
      refine ⟨h1, fun f hf hh => ?_⟩
      obtain ⟨c, s, g1, g2, -⟩ := hitF_iff.1 hh
      by_cases g3 : f.t ≤ a
      · exact h2 f hf (hitF_iff.2 ⟨c, s, by omega, g2, by omega⟩)
      · exact (bandL_le.1 (h3 f hf ⟨by omega, g1⟩)).2 f hf (hitF_iff.2 ⟨c, s, by omega, (cntF_iff.1 c).2.1, by omega⟩)
    · rintro ⟨h1, h2⟩
      refine ⟨⟨h1, fun f hf hh => ?_⟩, fun g hg hgt => bandL_le.2 ⟨h1, fun f hf hh => ?_⟩⟩
      · obtain ⟨c, s, g1, g2, -⟩ := hitF_iff.1 hh
        exact h2 f hf (hitF_iff.2 ⟨c, s, by omega, g2, h⟩)
      · obtain ⟨c, s, g1, g2, -⟩ := hitF_iff.1 hh
        exact h2 f hf (hitF_iff.2 ⟨c, s, by omega, by omega, h⟩)

theorem docR_band {fs : List Fl} {a z : Int} (h : a < z) : docR fs a z = bandR fs a z :=
  eq_of_ge fun v => by
    unfold docR
    rw [foldm_le, le_bandR, le_bandR]
    simp only [Bool.and_eq_true, decide_eq_true_eq]
    constructor
    · rintro ⟨⟨h1, h2⟩, h3⟩
      refine ⟨h1, fun f hf hh => ?_⟩
      obtain ⟨c, s, g1, g2, -⟩ := hitF_iff.1 hh
      by_cases g3 : f.t ≤ a
      · exact h2 f hf (hitF_iff.2 ⟨c, s, by omega, g2, by omega⟩)
      · exact (le_bandR.1 (h3 f hf ⟨by omega, g1⟩)).2 f hf (hitF_iff.2 ⟨c, s, by omega, (cntF_iff.1 c).2.1, by omega⟩)
    · rintro ⟨h1, h2⟩
      refine ⟨⟨h1, fun f hf hh => ?_⟩, fun g hg hgt => le_bandR.2 ⟨h1, fun f hf hh => ?_⟩⟩
      · obtain ⟨c, s, g1, g2, -⟩ := hitF_iff.1 hh
        exact h2 f hf (hitF_iff.2 ⟨c, s, by omega, g2, h⟩)
      · obtain ⟨c, s, g1, g2, -⟩ := hitF_iff.1 hh
        exact h2 f hf (hitF_iff.2 ⟨c, s, by omega, by omega, h⟩)

end Go.Proofs.YtdibdfalahjmbaaGreat.Shelf

namespace Go.Proofs.YtdibdfalahjmbaaGreat.Rect

open Go.RowKit

theorem ba1 (w : World) (o : Obj) : Below w.heap.size w (w.alloc o) := (Below.refl _ _).alloc (Nat.le_refl _) o

theorem ba2 (w : World) (o p : Obj) : Below w.heap.size w ((w.alloc o).alloc p) := (ba1 w o).alloc (by simp) p

theorem ba3 (w : World) (o p q : Obj) : Below w.heap.size w (((w.alloc o).alloc p).alloc q) := (ba2 w o p).alloc (by simp; omega) q

set_option maxHeartbeats 400000 in
theorem columns_any (l t r b : Int) (w : World) :
    Calls Tryz.prog 63 #[.agg #[.int .i64 l, .int .i64 t, .int .i64 r, .int .i64 b]] w fun e w' => e = .returned (.agg #[.int .i64 l, .int .i64 r]) ∧ Below w.heap.size w w' := by
  go_enter Tryz.func63, Tryz.ntmps63
  go_wp2
  all_goals exact bodyPost_ret (v := .agg #[.int .i64 l, .int .i64 r]) (by simp [results, Tryz.results63, go_sem]) rfl ⟨rfl, by first | exact ba1 _ _ | exact ba2 _ _ _ | exact ba3 _ _ _ _⟩

set_option maxHeartbeats 400000 in
theorem rows_any (l t r b : Int) (w : World) :
    Calls Tryz.prog 58 #[.agg #[.int .i64 l, .int .i64 t, .int .i64 r, .int .i64 b]] w fun e w' => e = .returned (.agg #[.int .i64 t, .int .i64 b]) ∧ Below w.heap.size w w' := by
  go_enter Tryz.func58, Tryz.ntmps58
  go_wp2
  all_goals exact bodyPost_ret (v := .agg #[.int .i64 t, .int .i64 b]) (by simp [results, Tryz.results58, go_sem]) rfl ⟨rfl, by first | exact ba1 _ _ | exact ba2 _ _ _ | exact ba3 _ _ _ _⟩

set_option maxHeartbeats 400000 in
theorem rof_any (a b c d : Int) (w : World) :
    Calls Tryz.prog 47 #[.agg #[.int .i64 a, .int .i64 b], .agg #[.int .i64 c, .int .i64 d]] w fun e w' => e = .returned (.agg #[.int .i64 a, .int .i64 c, .int .i64 b, .int .i64 d]) ∧ Below w.heap.size w w' := by
  go_enter Tryz.func47, Tryz.ntmps47
  go_wp2
  all_goals exact bodyPost_ret (v := .agg #[.int .i64 a, .int .i64 c, .int .i64 b, .int .i64 d]) (by simp [results, Tryz.results47, go_sem]) rfl ⟨rfl, by first | exact ba1 _ _ | exact ba2 _ _ _ | exact ba3 _ _ _ _⟩

set_option maxHeartbeats 400000 in
theorem of_any (x0 x1 x2 x3 : Int) (w : World) :
    Calls Tryz.prog 28 #[.agg #[.int .i64 x0, .int .i64 x1, .int .i64 x2, .int .i64 x3]] w fun e w' => e = .returned (.agg #[.int .i64 x0, .int .i64 x1, .int .i64 x2, .int .i64 x3]) ∧ Below w.heap.size w w' := by
  go_enter Tryz.func28, Tryz.ntmps28
  go_wp2
  all_goals exact bodyPost_ret (v := .agg #[.int .i64 x0, .int .i64 x1, .int .i64 x2, .int .i64 x3]) (by simp [results, Tryz.results28, go_sem]) rfl ⟨rfl, by first | exact ba1 _ _ | exact ba2 _ _ _ | exact ba3 _ _ _ _⟩

set_option maxHeartbeats 400000 in
theorem clip_any (a b c d : Int) (w : World) :
    Calls Tryz.prog 91 #[.agg #[.int .i64 a, .int .i64 b], .agg #[.int .i64 c, .int .i64 d]] w fun e w' => e = .returned (.agg #[.int .i64 (max a c), .int .i64 (min b d)]) ∧ Below w.heap.size w w' := by
  go_enter Tryz.func91, Tryz.ntmps91
  go_wp2
  all_goals exact bodyPost_ret (v := .agg #[.int .i64 (max a c), .int .i64 (min b d)]) (by simp [results, Tryz.results91, go_sem]; try omega) rfl ⟨rfl, by first | exact ba1 _ _ | exact ba2 _ _ _ | exact ba3 _ _ _ _⟩

set_option maxHeartbeats 400000 in
theorem some_any (a b : Int) (w : World) :
    Calls Tryz.prog 71 #[.agg #[.int .i64 a, .int .i64 b]] w fun e w' => e = .returned (.bool (decide (a < b))) ∧ Below w.heap.size w w' := by
  go_enter Tryz.func71, Tryz.ntmps71
  go_wp2
  all_goals (go_ret; exact ⟨by simp [*] <;> omega, by first | exact ba1 _ _ | exact ba2 _ _ _⟩)

set_option maxHeartbeats 400000 in
theorem rfull_any (l t r b : Int) (w : World) :
    Calls Tryz.prog 41 #[.agg #[.int .i64 l, .int .i64 t, .int .i64 r, .int .i64 b]] w fun e w' => e = .returned (.bool (decide (l < r) && decide (t < b))) ∧ Below w.heap.size w w' := by
  go_enter Tryz.func41, Tryz.ntmps41
  go_wp2
  all_goals (go_ret; exact ⟨by simp [*] <;> omega, by first | exact ba1 _ _ | exact ba2 _ _ _⟩)

end Go.Proofs.YtdibdfalahjmbaaGreat.Rect

namespace Go.Proofs.YtdibdfalahjmbaaGreat

open Go.RowKit Go.Sort

section

variable {P : Program} {md : Region.Mode} {ops : Array Oper} {C : World → Prop}

def unlisted (listed : Array Bool) : Nat := listed.toList.countP (fun b => !b)

theorem unlisted_set {listed : Array Bool} {i : Nat} (h : listed.getD i true = false) : unlisted (listed.setIfInBounds i true) + 1 = unlisted listed := by
  have hi : i < listed.size := by
    rcases Nat.lt_or_ge i listed.size with h' | h'
    · exact h'
    · simp [Array.getElem?_eq_none h'] at h
  have hv : listed[i] = false := by simpa [hi] using h
  unfold unlisted
  rw [Array.toList_setIfInBounds, List.countP_set (by simpa using hi)]
  have h2 : listed.toList[i]'(by simpa using hi) = false := by simpa using hv
  rw [h2]
  have hpos : 0 < listed.toList.countP (fun b => !b) := List.countP_pos_iff.2 ⟨false, by rw [← h2]; exact List.getElem_mem _, rfl⟩
  simp only [Bool.not_false, Bool.not_true, if_true, Bool.false_eq_true, if_false]
  omega

end

end Go.Proofs.YtdibdfalahjmbaaGreat

namespace Go.Proofs.YtdibdfalahjmbaaGreat.Rect

open Go.RowKit Go.Sort

theorem bcell {W w1 : World} (hb : Below W.heap.size W w1) : (∀ b o, b < W.heap.size → w1.cell? ⟨b, o, none⟩ = W.cell? ⟨b, o, none⟩) ∧ (∀ b o, b < W.heap.size → w1.frozen? ⟨b, o, none⟩ = W.frozen? ⟨b, o, none⟩) :=
  ⟨fun b o h => hb.cell (p := ⟨b, o, none⟩) h, fun b o h => hb.frozen (p := ⟨b, o, none⟩) h⟩

theorem thru {w W w1 : World} (h1 : Below w.heap.size w W) (h2 : Below W.heap.size W w1) : Below w.heap.size w w1 := h1.trans (h2.mono h1.size)

theorem some_is (a b : Int) (v : Bool) (hv : decide (a < b) = v) (w : World) :
    Calls Tryz.prog 71 #[.agg #[.int .i64 a, .int .i64 b]] w fun e w' => e = .returned (.bool v) ∧ Below w.heap.size w w' := by
  subst hv; exact some_any a b w

set_option maxHeartbeats 400000 in
theorem full_is (l t r b : Int) (v : Bool) (hv : (decide (l < r) && decide (t < b)) = v) (w : World) :
    Calls Tryz.prog 56 #[.agg #[.int .i64 l, .int .i64 t, .int .i64 r, .int .i64 b]] w fun e w' => e = .returned (.bool v) ∧ Below w.heap.size w w' := by
  obtain ⟨p, hp⟩ : ∃ p : Bool, decide (l < r) = p := ⟨_, rfl⟩
  obtain ⟨q, hq⟩ : ∃ q : Bool, decide (t < b) = q := ⟨_, rfl⟩
  rw [hp, hq] at hv
  subst hv
  have HP := Lib.hid hp
  have HQ := Lib.hid hq
  clear hp hq
  cases p
  all_goals
    go_enter Tryz.func56, Tryz.ntmps56
    go_wp2_with fail
    refine (columns_any _ _ _ _ _).mono ?_; rintro e w1 ⟨rfl, b1⟩
    obtain ⟨c1, f1⟩ := bcell b1
    go_wp2_with fail
    refine (some_is _ _ _ HP.out _).mono ?_; rintro e w2 ⟨rfl, b2⟩
    replace b2 := thru b1 b2
    clear b1 c1 f1
    obtain ⟨c2, f2⟩ := bcell b2
    go_wp2_with fail
  · go_ret
    exact ⟨rfl, thru (ba1 _ _) b2⟩
  · refine (rows_any _ _ _ _ _).mono ?_; rintro e w3 ⟨rfl, b3⟩
    replace b3 := thru b2 b3
    clear b2 c2 f2
    go_wp2_with fail
    refine (some_is _ _ _ HQ.out _).mono ?_; rintro e w4 ⟨rfl, b4⟩
    replace b4 := thru b3 b4
    clear b3
    go_wp2_with fail
    go_ret
    exact ⟨by simp, thru (ba1 _ _) b4⟩

end Go.Proofs.YtdibdfalahjmbaaGreat.Rect

namespace Go.Proofs.YtdibdfalahjmbaaGreat.Rect

open Go.RowKit Go.Sort

theorem take_next (xs : List Int) (k : Nat) (h : k < xs.length) : xs.take (k + 1) = xs.take k ++ [xs.getD k 0] := by
  rw [List.take_succ_eq_append_getElem h]; simp [List.getD, h]

end Go.Proofs.YtdibdfalahjmbaaGreat.Rect

namespace Go.Proofs.YtdibdfalahjmbaaGreat.Rect

open Go.RowKit Go.Sort

inductive Yield where
  | val (v : Value)
  | box (o : Obj)

def Yield.value (y : Yield) (g : Nat) : Value := match y with
  | .val v => v
  | .box _ => .pointer (some ⟨g, 0, none⟩)

section

variable {P : Program}

def stays (P : Program) (w : World) (v : Value) : Result Next → Prop
  | .ok (.value u) w' => w' = w ∧ u = v
  | .ok (.enter f args) w' => w' = w ∧ Calls P f args w (fun e w'' => e = .returned v ∧ Below w.heap.size w w'')
  | _ => False

def fill (g : Nat → Nat) : Nat → List Oper → List Yield → Act → Act
  | k, o :: os, y :: ys, a => fill g (k + 1) os ys (a.put o.dst (y.value (g k)))
  | _, _, _, a => a

theorem put_size (a : Act) (d : Option Tmp) (v : Value) : (a.put d v).tmps.size = a.tmps.size := by cases d <;> simp [Act.put]

theorem put_defers (a : Act) (d : Option Tmp) (v : Value) : (a.put d v).defers = a.defers := by cases d <;> rfl

theorem put_slot (a : Act) (d : Tmp) (v : Value) (h : d < a.tmps.size) : (a.put (some d) v).tmps.getD d undef = v := by simp [Act.put, h]

def headB (l : List Oper) (bx : List Bool) (size : Nat) : Bool :=
  (List.range bx.length).all fun i => match l[i]? with
    | none => false
    | some o => o.guard.isNone && (match o.dst with | none => false | some d => decide (d < size)) && (o.after.all fun e => !Region.binds .any e || decide (e.on < i)) &&
      (List.range bx.length).all fun j => match l[j]? with
        | none => false
        | some p => (decide (i = j) || p.dst != o.dst) &&
          (match p.dst with | none => false | some d => !(o.looksAt l.toArray).contains d || (o.after.any (fun e => Region.binds .any e && e.on == j) && !(bx.getD j true)))

structure HeadOk (l : List Oper) (bx : List Bool) (size : Nat) : Prop where
  guard : ∀ i o, i < bx.length → l[i]? = some o → o.guard = none
  dst : ∀ i o, i < bx.length → l[i]? = some o → ∃ d, o.dst = some d ∧ d < size
  back : ∀ i o, i < bx.length → l[i]? = some o → ∀ e ∈ o.after, Region.binds .any e = true → e.on < i
  apart : ∀ i j o p, i < bx.length → j < bx.length → l[i]? = some o → l[j]? = some p → i ≠ j → p.dst ≠ o.dst
  looks : ∀ i j o p d, i < bx.length → j < bx.length → l[i]? = some o → l[j]? = some p → p.dst = some d → d ∈ o.looksAt l.toArray → (∃ e ∈ o.after, Region.binds .any e = true ∧ e.on = j) ∧ bx.getD j true = false
  there : ∀ i, i < bx.length → ∃ o, l[i]? = some o

variable {l : List Oper} {ys : List Yield} {a0 : Act} {W : World}

theorem eval_tmp (a : Act) (t : Tmp) : a.eval (.tmp t) = a.tmps.getD t undef := rfl

end

end Go.Proofs.YtdibdfalahjmbaaGreat.Rect

namespace Go.Proofs.YtdibdfalahjmbaaGreat.Rect

open Go.RowKit Go.Sort

def R4 (w : World) (g : Nat) (x0 x1 x2 x3 : Int) : Prop :=
  w.cell? ⟨g, 0, none⟩ = some (.int .i64 x0) ∧ w.cell? ⟨g, 1, none⟩ = some (.int .i64 x1) ∧ w.cell? ⟨g, 2, none⟩ = some (.int .i64 x2) ∧ w.cell? ⟨g, 3, none⟩ = some (.int .i64 x3)

theorem R4.below {w w' : World} {g : Nat} {x0 x1 x2 x3 : Int} (h : R4 w g x0 x1 x2 x3) (k : Below w.heap.size w w') : R4 w' g x0 x1 x2 x3 := by
  have hg : g < w.heap.size := block_lt_of_cell h.1
  exact ⟨by rw [k.cell (p := ⟨g, 0, none⟩) hg]; exact h.1, by rw [k.cell (p := ⟨g, 1, none⟩) hg]; exact h.2.1, by rw [k.cell (p := ⟨g, 2, none⟩) hg]; exact h.2.2.1, by rw [k.cell (p := ⟨g, 3, none⟩) hg]; exact h.2.2.2⟩

theorem R4.grown {w : World} {g : Nat} {x0 x1 x2 x3 : Int} (h : R4 w g x0 x1 x2 x3) : (∀ d os, (grow (redrawn w d) os).cell? ⟨g, 0, none⟩ = some (.int .i64 x0)) ∧ (∀ d os, (grow (redrawn w d) os).cell? ⟨g, 1, none⟩ = some (.int .i64 x1)) ∧
    (∀ d os, (grow (redrawn w d) os).cell? ⟨g, 2, none⟩ = some (.int .i64 x2)) ∧ (∀ d os, (grow (redrawn w d) os).cell? ⟨g, 3, none⟩ = some (.int .i64 x3)) :=
  ⟨cell_regrown h.1, cell_regrown h.2.1, cell_regrown h.2.2.1, cell_regrown h.2.2.2⟩

theorem R4.of_block {w : World} {g : Nat} {x0 x1 x2 x3 : Int} {T : TypeId} (h : w.heap[g]? = some (.cells #[.int .i64 x0, .int .i64 x1, .int .i64 x2, .int .i64 x3] T)) : R4 w g x0 x1 x2 x3 := by
  refine ⟨?_, ?_, ?_, ?_⟩ <;> simp [World.cell?, h]

theorem set4 {w : World} {g : Nat} {x0 x1 x2 x3 : Int} {T : TypeId} (h : w.heap[g]? = some (.cells #[.int .i64 x0, .int .i64 x1, .int .i64 x2, .int .i64 x3] T)) (y0 y1 y2 y3 : Int) :
    ((((w.setCell ⟨g, 0, none⟩ (.int .i64 y0)).setCell ⟨g, 1, none⟩ (.int .i64 y1)).setCell ⟨g, 2, none⟩ (.int .i64 y2)).setCell ⟨g, 3, none⟩ (.int .i64 y3)).heap[g]? = some (.cells #[.int .i64 y0, .int .i64 y1, .int .i64 y2, .int .i64 y3] T) := by
  have hlt := lt_of_block h
  simp [World.setCell, Array.getElem?_modify, h]

theorem free4 {w : World} {g : Nat} {x0 x1 x2 x3 : Int} {T : TypeId} (h : w.heap[g]? = some (.cells #[.int .i64 x0, .int .i64 x1, .int .i64 x2, .int .i64 x3] T)) :
    w.frozen? ⟨g, 0, none⟩ = false ∧ w.frozen? ⟨g, 1, none⟩ = false ∧ w.frozen? ⟨g, 2, none⟩ = false ∧ w.frozen? ⟨g, 3, none⟩ = false := by
  refine ⟨?_, ?_, ?_, ?_⟩ <;> simp [World.frozen?, h]

theorem rfull_is (l t r b : Int) (v : Bool) (hv : (decide (l < r) && decide (t < b)) = v) (w : World) :
    Calls Tryz.prog 41 #[.agg #[.int .i64 l, .int .i64 t, .int .i64 r, .int .i64 b]] w fun e w' => e = .returned (.bool v) ∧ Below w.heap.size w w' := by
  subst hv; exact rfull_any l t r b w

end Go.Proofs.YtdibdfalahjmbaaGreat.Rect

namespace Go.Proofs.YtdibdfalahjmbaaGreat.Shelf

open Go.RowKit Go.Sort Go.Proofs.YtdibdfalahjmbaaGreat.Rect

abbrev Fl.v (f : Fl) : Value := .agg #[.int .i64 f.s, .int .i64 f.l, .int .i64 f.t, .int .i64 f.r, .int .i64 f.b]

def inS (x : Int) : Bool := decide (-2251799813685248 < x) && decide (x < 2251799813685248)

theorem inS_iff {x : Int} : inS x = true ↔ -2251799813685248 < x ∧ x < 2251799813685248 := by unfold inS; simp

theorem ret_b {a b : Bool} (h : a = b) : Ending.returned (.bool a) = .returned (.bool b) := by rw [h]

set_option maxHeartbeats 1000000 in
theorem counts_is (f : Fl) (v : Bool) (hv : cntF f = v) (w : World) :
    Calls Tryz.prog 52 #[f.v] w fun e w' => e = .returned (.bool v) ∧ Below w.heap.size w w' := by
  have HF := Lib.hid (fun x hx w => rfull_is f.l f.t f.r f.b x hx w)
  obtain ⟨x, hx⟩ : ∃ x : Bool, (decide (f.l < f.r) && decide (f.t < f.b)) = x := ⟨_, rfl⟩
  have HX := Lib.hid hx
  unfold cntF at hv
  rw [hx] at hv
  have HV := Lib.hid hv
  clear hx hv
  cases x
  · go_enter Tryz.func52, Tryz.ntmps52
    go_wp2_with (first
      | (go_at_call 41; refine (HF.out _ HX.out _).mono ?_; rintro e w1 ⟨rfl, k1⟩; have K1 := Lib.hid (thru (ba1 w _) k1); clear k1))
    go_ret
    exact ⟨ret_b (by rw [← HV.out]; rfl), K1.out⟩
  · by_cases h1 : f.s = 1
    · have h1b : (f.s == 1) = true := by simp [h1]
      have hv1 : v = true := by rw [← HV.out]; simp [h1]
      subst hv1
      clear h1
      go_enter Tryz.func52, Tryz.ntmps52
      go_wp2_with (first
        | (go_at_call 41; refine (HF.out _ HX.out _).mono ?_; rintro e w1 ⟨rfl, k1⟩; obtain ⟨hc, -⟩ := bcell k1; have K1 := Lib.hid (thru (ba1 w _) k1); clear k1))
      go_ret
      exact ⟨rfl, K1.out⟩
    · have h1b : (f.s == 1) = false := by rw [beq_eq_false_iff_ne]; exact h1
      obtain ⟨y, hy⟩ : ∃ y : Bool, (f.s == 2) = y := ⟨_, rfl⟩
      have hvy : y = v := by rw [← HV.out, ← hy]; by_cases h2 : f.s = 2 <;> simp [h1, h2]
      subst hvy
      clear h1
      go_enter Tryz.func52, Tryz.ntmps52
      go_wp2_with (first
        | (go_at_call 41; refine (HF.out _ HX.out _).mono ?_; rintro e w1 ⟨rfl, k1⟩; obtain ⟨hc, -⟩ := bcell k1; have K1 := Lib.hid (thru (ba1 w _) k1); clear k1))
      go_ret
      exact ⟨rfl, K1.out⟩

end Go.Proofs.YtdibdfalahjmbaaGreat.Shelf
