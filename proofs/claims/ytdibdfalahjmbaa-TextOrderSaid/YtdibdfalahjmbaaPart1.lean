/- Texts of this proof that follow each other, in one file. -/
import Derived.Test.YtdibdfalahjmbaaRows
import Derived.WalkKit
import Derived.WalkSpells
import Derived.WalkLawsBesides
import Derived.BigQuiet
import Derived.Lib.Hide
import Derived.Lib.QuietBelow
import Derived.DataElems
import Derived.ProofKit
import Derived.OpenShut
import Derived.Carry
import Derived.StillTail
import Derived.OneCell
/-! What every walk wants: Below, cells, lists that are read. -/
namespace Go.Proofs.Ytdibdfalahjmbaa
open Go.RowKit Go.Sort

theorem ba1 (w : World) (o : Obj) : Below w.heap.size w (w.alloc o) := (Below.refl _ _).alloc (Nat.le_refl _) o
theorem ba2 (w : World) (o p : Obj) : Below w.heap.size w ((w.alloc o).alloc p) := (ba1 w o).alloc (by simp) p
theorem ba3 (w : World) (o p q : Obj) : Below w.heap.size w (((w.alloc o).alloc p).alloc q) := (ba2 w o p).alloc (by simp; omega) q

theorem bcell {W w1 : World} (hb : Below W.heap.size W w1) : (∀ b o, b < W.heap.size → w1.cell? ⟨b, o, none⟩ = W.cell? ⟨b, o, none⟩) ∧ (∀ b o, b < W.heap.size → w1.frozen? ⟨b, o, none⟩ = W.frozen? ⟨b, o, none⟩) :=
  ⟨fun b o h => hb.cell (p := ⟨b, o, none⟩) h, fun b o h => hb.frozen (p := ⟨b, o, none⟩) h⟩

theorem thru {w W w1 : World} (h1 : Below w.heap.size w W) (h2 : Below W.heap.size W w1) : Below w.heap.size w w1 := h1.trans (h2.mono h1.size)

/-! Lists that are read. -/
theorem block_of_add (a : Addr) (n : Nat) : (a.add n).block = a.block := by unfold Addr.add; split <;> rfl

/-- The numbers of a slice, below block B. -/
def Nums (w : World) (B : Nat) (A : Option Addr) (xs : List Int) : Prop :=
  ∀ k, k < xs.length → ∃ ad : Addr, A = some ad ∧ ad.block < B ∧ w.cell? (ad.add k) = some (.int .i64 (xs.getD k 0))

theorem Nums.below {w w' : World} {B : Nat} {A : Option Addr} {xs : List Int} (h : Nums w B A xs) (k : Below B w w') : Nums w' B A xs := fun i hi => by
  obtain ⟨ad, e, hb, hc⟩ := h i hi
  exact ⟨ad, e, hb, by rw [k.cell (by rw [block_of_add]; exact hb)]; exact hc⟩

theorem Nums.more {w : World} {B C : Nat} {A : Option Addr} {xs : List Int} (h : Nums w B A xs) (hc : B ≤ C) : Nums w C A xs := fun i hi => by
  obtain ⟨ad, e, hb, hx⟩ := h i hi
  exact ⟨ad, e, by omega, hx⟩

theorem Nums.thru {w w' : World} {A : Option Addr} {xs : List Int} (h : Nums w w.heap.size A xs) (k : Below w.heap.size w w') : Nums w' w'.heap.size A xs :=
  (h.below k).more k.size

def inB (n : Int) : Bool := decide (-1152921504606846976 ≤ n ∧ n ≤ 1152921504606846976)

theorem take_next (xs : List Int) (k : Nat) (h : k < xs.length) : xs.take (k + 1) = xs.take k ++ [xs.getD k 0] := by
  rw [List.take_succ_eq_append_getElem h]; simp [List.getD, h]

theorem all_out (xs : List Int) (k : Nat) (h : k < xs.length) (y : Int) (hy : y = xs.getD k 0) (hb : inB y = false) : xs.all inB = false := by
  rw [List.all_eq_false]
  refine ⟨y, ?_, by rw [hb]; simp⟩
  rw [hy]; simp [List.getD, h]

theorem ret_int {a b : Int} (h : a = b) : Ending.returned (.int .i64 a) = .returned (.int .i64 b) := by rw [h]
theorem ret_bool {a b : Bool} (h : a = b) : Ending.returned (.bool a) = .returned (.bool b) := by rw [h]

theorem calls_same_below {P : Program} {f : FuncId} {args : Array Value} {w : World} {v : Value} (h : Calls P f args w fun e w' => e = .returned v ∧ w = w') :
    Calls P f args w fun e w' => e = .returned v ∧ Below w.heap.size w w' := h.mono fun _ _ ⟨he, hw⟩ => ⟨he, by subst hw; exact Below.refl _ _⟩

theorem inB_iff {n : Int} (h : inB n = true) : -1152921504606846976 ≤ n ∧ n ≤ 1152921504606846976 := by
  unfold inB at h; simpa using h

theorem nums0 (w : World) (B : Nat) (A : Option Addr) : Nums w B A [] := fun k hk => by simp at hk

/-- The front and the back of a list. -/
theorem Nums.front {w : World} {B : Nat} {A : Option Addr} {xs : List Int} (h : Nums w B A xs) (k : Nat) : Nums w B A (xs.take k) := fun i hi => by
  rw [List.length_take] at hi
  obtain ⟨ad, e, hb, hc⟩ := h i (by omega)
  refine ⟨ad, e, hb, ?_⟩
  rw [hc]
  simp only [List.getD, List.getElem?_take]
  rw [if_pos (by omega)]
theorem Nums.back {w : World} {B : Nat} {ad : Addr} {xs : List Int} (h : Nums w B (some ad) xs) (k : Nat) : Nums w B (some (ad.add k)) (xs.drop k) := fun i hi => by
  rw [List.length_drop] at hi
  obtain ⟨ad', e, hb, hc⟩ := h (k + i) (by omega)
  injection e with e
  subst e
  refine ⟨_, rfl, by rw [block_of_add]; exact hb, ?_⟩
  rw [Addr.add_add, hc]
  simp [List.getD]

/-- Where the back of a slice lies. -/
def backA (A : Option Addr) (c k : Nat) : Option Addr := if c = k then A else Option.map (fun x => x.add k) A

theorem Nums.back' {w : World} {B : Nat} {A : Option Addr} {n c : Nat} {xs : List Int} (h : Nums w B A xs) (hn : n = xs.length) (hc : n ≤ c) (k : Nat) (hk : k ≤ n) : Nums w B (backA A c k) (xs.drop k) := by
  cases A with
  | none =>
    have : xs.drop k = [] := by
      rcases Nat.eq_zero_or_pos xs.length with h0 | h0
      · exact List.drop_eq_nil_of_le (by omega)
      · obtain ⟨ad, e, _⟩ := h 0 h0
        cases e
    rw [this]
    exact nums0 _ _ _
  | some ad =>
    unfold backA
    split
    · rw [List.drop_eq_nil_of_le (by omega)]
      exact nums0 _ _ _
    · exact h.back k

end Go.Proofs.Ytdibdfalahjmbaa

/-! How the laws end; what comes in. -/
namespace Go.Proofs.Ytdibdfalahjmbaa
open Go.RowKit

section
open Go.ChangeShapes Go.WideShapes Go.ChangeAt
variable {H : Type} {enc : TypeId × Value → H} {P : Program}

/-- The end of a call that leaves all old memory as it was, and may lay what it likes behind it. -/
theorem ends_low {f : Func} {s : ChangeSpec} {apart fresh handsOn again : Bool} {W V : World} {args : Array Value} {v : Value} {ds gs : List (DataW H)} {places pa pv : List MemPlace}
    (whole : DataW.Whole enc P f.params.toList s.vars apart W args.toList ds gs places)
    (results : ∀ (b : Nat) (sp : Nat → Bool) (hd : Bool), DataW.TrodAll enc P V b sp hd f.resultTypes.toList (v.resultList f.resultTypes.size) (s.fn H (ds ++ gs)).results [])
    (arguments : ∀ sp : Nat → Bool, (∀ p ∈ places, sp p.block = true) → DataW.TrodAll enc P V 0 sp true f.params.toList args.toList (s.fn H (ds ++ gs)).args pa)
    (variables : ∀ sp : Nat → Bool, (∀ p ∈ places, sp p.block = true) → DataW.TrodVars enc P V sp s.vars (s.fn H (ds ++ gs)).vars pv)
    (parts : places = pa ++ pv) (low : Below W.heap.size W V)
    (forms : ∀ (j : Nat) (t : TypeId) (r : Value), f.resultTypes[j]? = some t → (v.resultList f.resultTypes.size)[j]? = some r → Value.okWide P V .any 0 t r) :
    s.post enc P f apart fresh handsOn again W args v V := by
  have old : ∀ p ∈ places, p.block < W.heap.size := fun p h => whole.lt p h
  have mark : ∀ p ∈ places, (fun b => decide (b < W.heap.size)) p.block = true := fun p h => by simpa using old p h
  subst parts
  obtain ⟨_, _, _, _, _, thawed, once⟩ := id whole
  refine ⟨ds, gs, pa ++ pv, [], pa, pv, whole, results _ _ _, arguments _ mark, variables _ mark, ?_, fun _ => ⟨forms, _, _, ([] ++ pa) ++ pv, ⟨[] ++ pa, pv, trodAll_append (arguments _ (fun _ _ => rfl)) (results _ _ _), variables _ (fun _ _ => rfl), rfl, ?_, ?_⟩, ?_⟩⟩
  · exact World.keptBut_mono (fun p h => ⟨h, Or.inr (List.mem_append.1 h)⟩) (low.frame (· ∈ pa ++ pv))
  · intro b off h
    have h' : MemPlace.cell b off ∈ pa ++ pv := by simpa using h
    rw [low.frozen (old _ h')]
    exact thawed b off h'
  · intro h
    simpa using once h
  · intro p h _
    simpa using h
end


section
open Go.ChangeShapes Go.WideShapes Go.ChangeAt

theorem own : ownKnob Try.prog.godebug = none := by kernel_rfl
theorem laidOut : laidOutB Try.prog = true := by kernel_rfl
theorem cells3 : Try.prog.cellsOf 3 = 1 := by kernel_rfl

/-- A slice of numbers that came in. -/
theorem open_nums {H : Type} {enc : TypeId × Value → H} {W : World} {v : Value} {d : DataW H} {ps : List MemPlace} (hv : ∃ a len cap, v = .slice a len cap)
    (h : DataW.Trod enc Try.prog W 0 (fun _ => true) true 65 v d ps) :
    ∃ A len cap xs, v = .slice A len cap ∧ len = xs.length ∧ len ≤ 9223372036854775807 ∧ Nums W W.heap.size A xs ∧ (∀ n ∈ xs, -9223372036854775808 ≤ n ∧ n ≤ 9223372036854775807) := by
  obtain ⟨a0, len, cap, rfl⟩ := hv
  obtain ⟨fuel, hf⟩ := h
  rcases open_ints Try.underlying65 Try.underlying3 cells3 hf with ⟨hcs, hx⟩ | ⟨a, len', cap', zs, hcs, _, hl, hm, hz, hx, hcell, hwz⟩
  · simp [Value.cells] at hcs
    obtain ⟨rfl, rfl, rfl⟩ := hcs
    exact ⟨none, 0, 0, [], rfl, rfl, by omega, fun k hk => by simp at hk, fun n hn => by simp at hn⟩
  · simp [Value.cells] at hcs
    obtain ⟨rfl, rfl, rfl⟩ := hcs
    simp only [if_true] at hz
    unfold maxLen at hm
    refine ⟨some a, len, cap, zs.take len, rfl, by rw [List.length_take]; omega, by omega, fun k hk => ?_, fun n hn => ?_⟩
    · rw [List.length_take] at hk
      have hc := hcell k (by omega)
      have hb := World.block_lt_of_cell? _ _ hc
      rw [block_of_add] at hb
      refine ⟨a, rfl, hb, ?_⟩
      rw [hc]
      simp only [List.getD, List.getElem?_take]
      rw [if_pos (by omega)]
    · have := hwz n (List.mem_of_mem_take hn)
      simpa [Lit.wf, IntKind.min, IntKind.max, IntKind.signed, IntKind.bits] using this

theorem bounds {a : Int} (w : (Lit.int .i64 a).wf = true) : -9223372036854775808 ≤ a ∧ a ≤ 9223372036854775807 := by
  simpa [Lit.wf, IntKind.min, IntKind.max, IntKind.signed, IntKind.bits] using w

theorem bounds8 {a : Int} (w : (Lit.int .u8 a).wf = true) : 0 ≤ a ∧ a ≤ 255 := by
  simpa [Lit.wf, IntKind.min, IntKind.max, IntKind.signed, IntKind.bits] using w
end

end Go.Proofs.Ytdibdfalahjmbaa

/-! Floats in a list: what they leave free of rows, and shelves as the one shortest list that draws it. No program is in it. -/
namespace Go.Proofs.Ytdibdfalahjmbaa.Shelf

/-- A float: its side, and its rectangle's numbers. -/
structure Fl where
  s : Int
  l : Int
  t : Int
  r : Int
  b : Int

abbrev far : Int := 4503599627370496

/-- Does a float count? -/
def cntF (f : Fl) : Bool := decide (f.l < f.r) && decide (f.t < f.b) && (decide (f.s = 1) || decide (f.s = 2))

/-- Does one that counts stand at a side, in some of the rows? -/
def hitF (side a z : Int) (f : Fl) : Bool := cntF f && decide (f.s = side) && decide (f.t < z) && decide (a < f.b) && decide (a < z)

theorem cntF_iff {f : Fl} : cntF f = true ↔ f.l < f.r ∧ f.t < f.b ∧ (f.s = 1 ∨ f.s = 2) := by
  unfold cntF; simp [and_assoc]
theorem hitF_iff {side a z : Int} {f : Fl} : hitF side a z f = true ↔ cntF f = true ∧ f.s = side ∧ f.t < z ∧ a < f.b ∧ a < z := by
  unfold hitF; simp [and_assoc]

/-- The greatest left bound of the rows from a up to z, and the least right one. -/
def bandL (fs : List Fl) (a z : Int) : Int := fs.foldl (fun v f => if hitF 1 a z f then max v f.r else v) (-far)
def bandR (fs : List Fl) (a z : Int) : Int := fs.foldl (fun v f => if hitF 2 a z f then min v f.l else v) far

theorem foldL_le (a z : Int) : ∀ (fs : List Fl) (v0 v : Int), fs.foldl (fun v f => if hitF 1 a z f then max v f.r else v) v0 ≤ v ↔ v0 ≤ v ∧ ∀ f ∈ fs, hitF 1 a z f = true → f.r ≤ v
  | [], v0, v => by simp
  | f :: fs, v0, v => by
    rw [List.foldl_cons, foldL_le a z fs]
    by_cases h : hitF 1 a z f = true
    · rw [if_pos h]
      constructor
      · rintro ⟨h1, h2⟩
        exact ⟨by omega, fun g hg hh => by
          rcases List.mem_cons.1 hg with e | e
          · subst e; omega
          · exact h2 g e hh⟩
      · rintro ⟨h1, h2⟩
        have := h2 f (by simp) h
        exact ⟨by omega, fun g hg hh => h2 g (by simp [hg]) hh⟩
    · rw [if_neg h]
      constructor
      · rintro ⟨h1, h2⟩
        exact ⟨h1, fun g hg hh => by
          rcases List.mem_cons.1 hg with e | e
          · subst e; exact absurd hh h
          · exact h2 g e hh⟩
      · rintro ⟨h1, h2⟩
        exact ⟨h1, fun g hg hh => h2 g (by simp [hg]) hh⟩

theorem foldR_le (a z : Int) : ∀ (fs : List Fl) (v0 v : Int), v ≤ fs.foldl (fun v f => if hitF 2 a z f then min v f.l else v) v0 ↔ v ≤ v0 ∧ ∀ f ∈ fs, hitF 2 a z f = true → v ≤ f.l
  | [], v0, v => by simp
  | f :: fs, v0, v => by
    rw [List.foldl_cons, foldR_le a z fs]
    by_cases h : hitF 2 a z f = true
    · rw [if_pos h]
      constructor
      · rintro ⟨h1, h2⟩
        exact ⟨by omega, fun g hg hh => by
          rcases List.mem_cons.1 hg with e | e
          · subst e; omega
          · exact h2 g e hh⟩
      · rintro ⟨h1, h2⟩
        have := h2 f (by simp) h
        exact ⟨by omega, fun g hg hh => h2 g (by simp [hg]) hh⟩
    · rw [if_neg h]
      constructor
      · rintro ⟨h1, h2⟩
        exact ⟨h1, fun g hg hh => by
          rcases List.mem_cons.1 hg with e | e
          · subst e; exact absurd hh h
          · exact h2 g e hh⟩
      · rintro ⟨h1, h2⟩
        exact ⟨h1, fun g hg hh => h2 g (by simp [hg]) hh⟩

theorem bandL_le {fs : List Fl} {a z v : Int} : bandL fs a z ≤ v ↔ -far ≤ v ∧ ∀ f ∈ fs, hitF 1 a z f = true → f.r ≤ v := foldL_le a z fs _ v
theorem le_bandR {fs : List Fl} {a z v : Int} : v ≤ bandR fs a z ↔ v ≤ far ∧ ∀ f ∈ fs, hitF 2 a z f = true → v ≤ f.l := foldR_le a z fs _ v

theorem eq_of_le {x y : Int} (h : ∀ v, x ≤ v ↔ y ≤ v) : x = y := by
  have h1 := (h y).2 (Int.le_refl _)
  have h2 := (h x).1 (Int.le_refl _)
  omega
theorem eq_of_ge {x y : Int} (h : ∀ v, v ≤ x ↔ v ≤ y) : x = y := by
  have h1 := (h x).1 (Int.le_refl _)
  have h2 := (h y).2 (Int.le_refl _)
  omega

/-- What is free hangs on which floats there are, on nothing else. -/
theorem bandL_congr {fs gs : List Fl} (h : ∀ f, f ∈ fs ↔ f ∈ gs) (a z : Int) : bandL fs a z = bandL gs a z :=
  eq_of_le fun v => by rw [bandL_le, bandL_le]; exact ⟨fun ⟨h1, h2⟩ => ⟨h1, fun f hf => h2 f ((h f).2 hf)⟩, fun ⟨h1, h2⟩ => ⟨h1, fun f hf => h2 f ((h f).1 hf)⟩⟩
theorem bandR_congr {fs gs : List Fl} (h : ∀ f, f ∈ fs ↔ f ∈ gs) (a z : Int) : bandR fs a z = bandR gs a z :=
  eq_of_ge fun v => by rw [le_bandR, le_bandR]; exact ⟨fun ⟨h1, h2⟩ => ⟨h1, fun f hf => h2 f ((h f).2 hf)⟩, fun ⟨h1, h2⟩ => ⟨h1, fun f hf => h2 f ((h f).1 hf)⟩⟩

/-- More floats leave no more free. -/
theorem bandL_more {fs gs : List Fl} (h : ∀ f ∈ fs, f ∈ gs) (a z : Int) : bandL fs a z ≤ bandL gs a z :=
  bandL_le.2 ⟨(bandL_le.1 (Int.le_refl _)).1, fun f hf hh => (bandL_le.1 (Int.le_refl (bandL gs a z))).2 f (h f hf) hh⟩
theorem bandR_more {fs gs : List Fl} (h : ∀ f ∈ fs, f ∈ gs) (a z : Int) : bandR gs a z ≤ bandR fs a z :=
  le_bandR.2 ⟨(le_bandR.1 (Int.le_refl _)).1, fun f hf hh => (le_bandR.1 (Int.le_refl (bandR gs a z))).2 f (h f hf) hh⟩

/-- No rows: all is free. -/
theorem bandL_none (fs : List Fl) {a z : Int} (h : z ≤ a) : bandL fs a z = -far :=
  eq_of_le fun v => by
    rw [bandL_le]
    exact ⟨fun h1 => h1.1, fun h1 => ⟨h1, fun f _ hh => by have := (hitF_iff.1 hh).2.2.2.2; omega⟩⟩
theorem bandR_none (fs : List Fl) {a z : Int} (h : z ≤ a) : bandR fs a z = far :=
  eq_of_ge fun v => by
    rw [le_bandR]
    exact ⟨fun h1 => h1.1, fun h1 => ⟨h1, fun f _ hh => by have := (hitF_iff.1 hh).2.2.2.2; omega⟩⟩

theorem hit_split {side a m z : Int} {f : Fl} (h1 : a ≤ m) (h2 : m ≤ z) : hitF side a z f = true ↔ hitF side a m f = true ∨ hitF side m z f = true := by
  simp only [hitF_iff]
  constructor
  · rintro ⟨c, s, h3, h4, h5⟩
    have := (cntF_iff.1 c).2.1
    by_cases h6 : f.t < m ∧ a < m
    · exact .inl ⟨c, s, h6.1, h4, h6.2⟩
    · exact .inr ⟨c, s, h3, by omega, by omega⟩
  · rintro (⟨c, s, h3, h4, h5⟩ | ⟨c, s, h3, h4, h5⟩)
    · exact ⟨c, s, by omega, h4, by omega⟩
    · exact ⟨c, s, h3, by omega, by omega⟩

/-- Rows, and more rows below them. -/
theorem bandL_split (fs : List Fl) {a m z : Int} (h1 : a ≤ m) (h2 : m ≤ z) : bandL fs a z = max (bandL fs a m) (bandL fs m z) :=
  eq_of_le fun v => by
    have e : max (bandL fs a m) (bandL fs m z) ≤ v ↔ bandL fs a m ≤ v ∧ bandL fs m z ≤ v := by omega
    rw [e, bandL_le, bandL_le, bandL_le]
    constructor
    · rintro ⟨h3, h4⟩
      exact ⟨⟨h3, fun f hf hh => h4 f hf ((hit_split h1 h2).2 (.inl hh))⟩, ⟨h3, fun f hf hh => h4 f hf ((hit_split h1 h2).2 (.inr hh))⟩⟩
    · rintro ⟨⟨h3, h4⟩, -, h5⟩
      exact ⟨h3, fun f hf hh => by
        rcases (hit_split h1 h2).1 hh with h | h
        · exact h4 f hf h
        · exact h5 f hf h⟩
theorem bandR_split (fs : List Fl) {a m z : Int} (h1 : a ≤ m) (h2 : m ≤ z) : bandR fs a z = min (bandR fs a m) (bandR fs m z) :=
  eq_of_ge fun v => by
    have e : v ≤ min (bandR fs a m) (bandR fs m z) ↔ v ≤ bandR fs a m ∧ v ≤ bandR fs m z := by omega
    rw [e, le_bandR, le_bandR, le_bandR]
    constructor
    · rintro ⟨h3, h4⟩
      exact ⟨⟨h3, fun f hf hh => h4 f hf ((hit_split h1 h2).2 (.inl hh))⟩, ⟨h3, fun f hf hh => h4 f hf ((hit_split h1 h2).2 (.inr hh))⟩⟩
    · rintro ⟨⟨h3, h4⟩, -, h5⟩
      exact ⟨h3, fun f hf hh => by
        rcases (hit_split h1 h2).1 hh with h | h
        · exact h4 f hf h
        · exact h5 f hf h⟩

/-- The bounds of one row. -/
def bndF (fs : List Fl) (y : Int) : Int × Int := (bandL fs y (y + 1), bandR fs y (y + 1))

/-! Shelves: the one shortest list that draws what each row has. -/

/-- A list draws F from a row on: each item has what the rows have from its own up to the next one's, and neighbours are unlike. -/
def Draws {β : Type} (F : Int → β) : Int → List (Int × β) → Prop
  | _, [] => False
  | a, [(t, b)] => t = a ∧ ∀ y, a ≤ y → F y = b
  | a, (t, b) :: (t2, b2) :: rest => t = a ∧ a < t2 ∧ b ≠ b2 ∧ (∀ y, a ≤ y → y < t2 → F y = b) ∧ Draws F t2 ((t2, b2) :: rest)

theorem draws_head {β : Type} {F : Int → β} {a t : Int} {b : β} {rest : List (Int × β)} (h : Draws F a ((t, b) :: rest)) : t = a ∧ F a = b := by
  cases rest with
  | nil => exact ⟨h.1, h.2 a (Int.le_refl _)⟩
  | cons x xs => obtain ⟨t2, b2⟩ := x; exact ⟨h.1, h.2.2.2.1 a (Int.le_refl _) h.2.1⟩

/-- There is one such list at most. -/
theorem draws_one {β : Type} {F : Int → β} : ∀ (xs ys : List (Int × β)) (a : Int), Draws F a xs → Draws F a ys → xs = ys
  | [], _, _, h, _ => h.elim
  | _ :: _, [], _, _, h => h.elim
  | [(t, b)], [(t', b')], a, h, h' => by
    have h1 := draws_head h
    have h2 := draws_head h'
    rw [h1.1, h2.1, ← h1.2, ← h2.2]
  | [(t, b)], (t', b') :: (t2', b2') :: r', a, h, h' => by
    obtain ⟨-, h2, h3, h4, h5⟩ := h'
    have h6 := (draws_head h5).2
    have h7 := h.2 t2' (by omega)
    have h8 := h4 a (Int.le_refl _) h2
    have h9 := h.2 a (Int.le_refl _)
    exact absurd (by rw [← h8, h9, ← h7, h6]) h3
  | (t, b) :: (t2, b2) :: r, [(t', b')], a, h, h' => by
    obtain ⟨-, h2, h3, h4, h5⟩ := h
    have h6 := (draws_head h5).2
    have h7 := h'.2 t2 (by omega)
    have h8 := h4 a (Int.le_refl _) h2
    have h9 := h'.2 a (Int.le_refl _)
    exact absurd (by rw [← h8, h9, ← h7, h6]) h3
  | (t, b) :: (t2, b2) :: r, (t', b') :: (t2', b2') :: r', a, h, h' => by
    have g1 := draws_head h
    have g2 := draws_head h'
    obtain ⟨-, h2, h3, h4, h5⟩ := h
    obtain ⟨-, k2, k3, k4, k5⟩ := h'
    have e1 := (draws_head h5).2
    have e2 := (draws_head k5).2
    have hb : b = b' := by rw [← g1.2, ← g2.2]
    have ht : t2 = t2' := by
      rcases Int.lt_trichotomy t2 t2' with hh | hh | hh
      · have := k4 t2 (by omega) hh
        exact absurd (by rw [hb, ← this, e1]) h3
      · exact hh
      · have := h4 t2' (by omega) hh
        exact absurd (by rw [← hb, ← this, e2]) k3
    subst ht
    have := draws_one ((t2, b2) :: r) ((t2, b2') :: r') t2 h5 k5
    rw [g1.1, g2.1, hb, this]

theorem draws_congr {β : Type} {F G : Int → β} : ∀ (xs : List (Int × β)) (a : Int), (∀ y, a ≤ y → F y = G y) → Draws F a xs → Draws G a xs
  | [], _, _, h => h
  | [(t, b)], a, hf, h => ⟨h.1, fun y hy => (hf y hy).symm.trans (h.2 y hy)⟩
  | (t, b) :: (t2, b2) :: r, a, hf, ⟨h1, h2, h3, h4, h5⟩ => ⟨h1, h2, h3, fun y hy h => (hf y hy).symm.trans (h4 y hy h), draws_congr ((t2, b2) :: r) t2 (fun y hy => hf y (by omega)) h5⟩

end Go.Proofs.Ytdibdfalahjmbaa.Shelf

/-! The document's walk from edge to edge: it draws what each row has; its band over rows. No program is in it. -/
namespace Go.Proofs.Ytdibdfalahjmbaa.Shelf

def stepN (y : Int) (c : Bool) (s : Int × Bool) (e : Int) : Int × Bool := if c && decide (y < e) && (!s.2 || decide (e < s.1)) then (e, true) else s

/-- The least edge below a row. -/
def nextF (fs : List Fl) (y : Int) : Int × Bool := fs.foldl (fun s f => stepN y (cntF f) (stepN y (cntF f) s f.t) f.b) (0, false)

/-- What has been found of the edges below a row that a test lets by. -/
def Least (y : Int) (P : Int → Prop) (s : Int × Bool) : Prop := if s.2 then y < s.1 ∧ P s.1 ∧ ∀ e, P e → y < e → s.1 ≤ e else s = (0, false) ∧ ∀ e, P e → ¬ y < e

theorem least_step {y : Int} {P : Int → Prop} {s : Int × Bool} (h : Least y P s) (c : Bool) (e : Int) : Least y (fun x => P x ∨ (c = true ∧ x = e)) (stepN y c s e) := by
  obtain ⟨v, ok⟩ := s
  unfold stepN
  unfold Least at h ⊢
  cases c
  · simp only [Bool.false_and, Bool.false_eq_true, if_false]
    cases ok
    · simp only [Bool.false_eq_true, if_false] at h ⊢
      exact ⟨h.1, fun x hx => by rcases hx with hx | hx; exact h.2 x hx; exact hx.1.elim⟩
    · simp only [if_true] at h ⊢
      exact ⟨h.1, .inl h.2.1, fun x hx => by rcases hx with hx | hx; exact h.2.2 x hx; exact hx.1.elim⟩
  · by_cases hy : y < e
    · cases ok
      · simp only [Bool.false_eq_true, if_false] at h
        simp only [hy, decide_true, Bool.not_false, Bool.true_or, Bool.and_true, if_true]
        exact ⟨trivial, .inr ⟨trivial, trivial⟩, fun x hx hxy => by
          rcases hx with hx | hx
          · exact absurd hxy (h.2 x hx)
          · omega⟩
      · simp only [if_true] at h
        by_cases he : e < v
        · simp only [Bool.true_and, hy, he, decide_true, Bool.not_true, Bool.false_or, if_true]
          exact ⟨trivial, .inr ⟨trivial, trivial⟩, fun x hx hxy => by
            rcases hx with hx | hx
            · have := h.2.2 x hx hxy; omega
            · omega⟩
        · simp only [Bool.true_and, hy, he, decide_true, decide_false, Bool.not_true, Bool.or_false, Bool.and_false, Bool.false_eq_true, if_false, if_true]
          exact ⟨h.1, .inl h.2.1, fun x hx hxy => by
            rcases hx with hx | hx
            · exact h.2.2 x hx hxy
            · omega⟩
    · simp only [hy, decide_false, Bool.and_false, Bool.false_and, Bool.false_eq_true, if_false]
      cases ok
      · simp only [Bool.false_eq_true, if_false] at h ⊢
        exact ⟨h.1, fun x hx => by
          rcases hx with hx | hx
          · exact h.2 x hx
          · rw [hx.2]; exact hy⟩
      · simp only [if_true] at h ⊢
        exact ⟨h.1, .inl h.2.1, fun x hx hxy => by
          rcases hx with hx | hx
          · exact h.2.2 x hx hxy
          · rw [hx.2] at hxy; exact absurd hxy hy⟩

theorem least_congr {y : Int} {P Q : Int → Prop} (h : ∀ x, P x ↔ Q x) {s : Int × Bool} (hs : Least y P s) : Least y Q s := by
  have : P = Q := funext fun x => propext (h x)
  rwa [← this]

/-- Is a number an edge of a float that counts? -/
def edge (fs : List Fl) (e : Int) : Prop := ∃ f ∈ fs, cntF f = true ∧ (e = f.t ∨ e = f.b)

theorem least_fold (y : Int) : ∀ (fs gs : List Fl) (s : Int × Bool), Least y (edge gs) s → Least y (edge (gs ++ fs)) (fs.foldl (fun s f => stepN y (cntF f) (stepN y (cntF f) s f.t) f.b) s)
  | [], gs, s, h => by rwa [List.append_nil]
  | f :: fs, gs, s, h => by
    rw [List.foldl_cons]
    have h1 := least_step (least_step h (cntF f) f.t) (cntF f) f.b
    have h2 := least_fold y fs (gs ++ [f]) _ (least_congr (Q := edge (gs ++ [f])) (fun x => by
      unfold edge
      constructor
      · rintro ((⟨g, hg, h3⟩ | ⟨hc, he⟩) | ⟨hc, he⟩)
        · exact ⟨g, by simp [hg], h3⟩
        · exact ⟨f, by simp, hc, .inl he⟩
        · exact ⟨f, by simp, hc, .inr he⟩
      · rintro ⟨g, hg, hc, he⟩
        rcases List.mem_append.1 hg with hg | hg
        · exact .inl (.inl ⟨g, hg, hc, he⟩)
        · rw [List.mem_singleton.1 hg] at hc he
          rcases he with he | he
          · exact .inl (.inr ⟨hc, he⟩)
          · exact .inr ⟨hc, he⟩) h1)
    rwa [List.append_assoc, List.singleton_append] at h2

theorem nextF_least (fs : List Fl) (y : Int) : Least y (edge fs) (nextF fs y) := by
  have := least_fold y fs [] (0, false) (by unfold Least; simp [edge])
  rwa [List.nil_append] at this

/-- Rows without an edge between them have the same bounds. -/
theorem bnd_same {fs : List Fl} {x y : Int} (hxy : y ≤ x) (h : ∀ e, edge fs e → y < e → x < e) : bndF fs x = bndF fs y := by
  have key : ∀ side, ∀ f ∈ fs, hitF side x (x + 1) f = true ↔ hitF side y (y + 1) f = true := by
    intro side f hf
    simp only [hitF_iff]
    constructor
    · rintro ⟨c, s, h1, h2, -⟩
      have ht := h f.t ⟨f, hf, c, .inl rfl⟩
      exact ⟨c, s, by omega, by omega, by omega⟩
    · rintro ⟨c, s, h1, h2, -⟩
      have hb := h f.b ⟨f, hf, c, .inr rfl⟩ h2
      exact ⟨c, s, by omega, by omega, by omega⟩
  unfold bndF
  rw [eq_of_le (x := bandL fs x (x + 1)) (y := bandL fs y (y + 1)) fun v => by
      rw [bandL_le, bandL_le]; exact ⟨fun ⟨h1, h2⟩ => ⟨h1, fun f hf hh => h2 f hf ((key 1 f hf).2 hh)⟩, fun ⟨h1, h2⟩ => ⟨h1, fun f hf hh => h2 f hf ((key 1 f hf).1 hh)⟩⟩,
    eq_of_ge (x := bandR fs x (x + 1)) (y := bandR fs y (y + 1)) fun v => by
      rw [le_bandR, le_bandR]; exact ⟨fun ⟨h1, h2⟩ => ⟨h1, fun f hf hh => h2 f hf ((key 2 f hf).2 hh)⟩, fun ⟨h1, h2⟩ => ⟨h1, fun f hf hh => h2 f hf ((key 2 f hf).1 hh)⟩⟩]

/-- A row that no float that counts has is as free as can be. -/
theorem bnd_free {fs : List Fl} {y : Int} (h : ∀ f ∈ fs, cntF f = true → y < f.t ∨ f.b ≤ y) : bndF fs y = (-far, far) := by
  have key : ∀ side, ∀ f ∈ fs, hitF side y (y + 1) f = true → False := fun side f hf hh => by
    obtain ⟨c, -, h1, h2, -⟩ := hitF_iff.1 hh
    have := h f hf c
    omega
  unfold bndF
  rw [eq_of_le (x := bandL fs y (y + 1)) (y := -far) fun v => by rw [bandL_le]; exact ⟨fun h1 => h1.1, fun h1 => ⟨h1, fun f hf hh => (key 1 f hf hh).elim⟩⟩,
    eq_of_ge (x := bandR fs y (y + 1)) (y := far) fun v => by rw [le_bandR]; exact ⟨fun h1 => h1.1, fun h1 => ⟨h1, fun f hf hh => (key 2 f hf hh).elim⟩⟩]

/-- The edges, with repeats. -/
def edgesL (fs : List Fl) : List Int := (fs.filter cntF).flatMap fun f => [f.t, f.b]
theorem edgesL_mem {fs : List Fl} {e : Int} : e ∈ edgesL fs ↔ edge fs e := by
  unfold edgesL edge
  simp only [List.mem_flatMap, List.mem_filter, List.mem_cons, List.not_mem_nil, or_false, and_assoc]
theorem edgesL_len (fs : List Fl) : (edgesL fs).length ≤ 2 * fs.length := by
  unfold edgesL
  have h1 : ∀ gs : List Fl, (gs.flatMap fun f => [f.t, f.b]).length = 2 * gs.length := fun gs => by
    induction gs with
    | nil => rfl
    | cons g gs ih => rw [List.flatMap_cons, List.length_append, ih]; simp; omega
  rw [h1]
  have := List.length_filter_le cntF fs
  omega
def leftN (fs : List Fl) (y : Int) : Nat := (edgesL fs).countP fun e => decide (y ≤ e)
theorem leftN_less {fs : List Fl} {y z : Int} (h : edge fs y) (hz : y < z) : leftN fs z < leftN fs y := by
  unfold leftN
  have hm := edgesL_mem.2 h
  generalize edgesL fs = es at hm
  induction es with
  | nil => cases hm
  | cons e es ih =>
    rw [List.countP_cons, List.countP_cons]
    have hmono : ∀ l : List Int, l.countP (fun e => decide (z ≤ e)) ≤ l.countP (fun e => decide (y ≤ e)) := fun l => List.countP_mono_left (fun x _ hx => by simp only [decide_eq_true_eq] at hx ⊢; omega)
    rcases List.mem_cons.1 hm with e1 | e1
    · subst e1
      have := hmono es
      rw [if_neg (by simp; omega), if_pos (by simp)]
      omega
    · have := ih e1
      by_cases h2 : z ≤ e
      · rw [if_pos (by simp [h2]), if_pos (by simp; omega)]; omega
      · rw [if_neg (by simp [h2])]; split <;> omega

/-- From an edge on: the shelves that begin there, or below. -/
def restS (fs : List Fl) : Nat → Int × Int → Int → List (Int × (Int × Int))
  | 0, _, _ => []
  | q + 1, b, y =>
    if bndF fs y = b then (if (nextF fs y).2 then restS fs q b (nextF fs y).1 else [])
    else (y, bndF fs y) :: (if (nextF fs y).2 then restS fs q (bndF fs y) (nextF fs y).1 else [])

theorem restS_draws {fs : List Fl} : ∀ (q : Nat) (a y : Int) (b : Int × Int), a < y → edge fs y → (∀ x, a ≤ x → x < y → bndF fs x = b) → leftN fs y ≤ q → Draws (bndF fs) a ((a, b) :: restS fs q b y)
  | 0, a, y, b, _, he, _, hq => by
    exfalso
    have h1 : 0 < leftN fs y := List.countP_pos_iff.2 ⟨y, edgesL_mem.2 he, by simp⟩
    omega
  | q + 1, a, y, b, ha, he, hc, hq => by
    have hn := nextF_least fs y
    unfold Least at hn
    unfold restS
    cases hok : (nextF fs y).2
    · rw [hok] at hn
      simp only [Bool.false_eq_true, if_false] at hn ⊢
      have hsame : ∀ x, y ≤ x → bndF fs x = bndF fs y := fun x hx => bnd_same hx (fun e h1 h2 => absurd h2 (hn.2 e h1))
      by_cases hb : bndF fs y = b
      · rw [if_pos hb]
        exact ⟨rfl, fun x hx => by
          by_cases h : x < y
          · exact hc x hx h
          · rw [hsame x (by omega), hb]⟩
      · rw [if_neg hb]
        exact ⟨rfl, ha, fun e => hb e.symm, hc, rfl, hsame⟩
    · rw [hok] at hn
      simp only [if_true] at hn ⊢
      obtain ⟨h1, h2, h3⟩ := hn
      have hsame : ∀ x, y ≤ x → x < (nextF fs y).1 → bndF fs x = bndF fs y := fun x hx hx2 => bnd_same hx (fun e g1 g2 => by have := h3 e g1 g2; omega)
      have hl := leftN_less he h1
      by_cases hb : bndF fs y = b
      · rw [if_pos hb]
        exact restS_draws q a _ b (by omega) h2 (fun x hx hx2 => by
          by_cases h : x < y
          · exact hc x hx h
          · rw [hsame x (by omega) hx2, hb]) (by omega)
      · rw [if_neg hb]
        have := restS_draws q y _ (bndF fs y) h1 h2 hsame (by omega)
        exact ⟨rfl, ha, fun e => hb e.symm, hc, this⟩

theorem restS_len {fs : List Fl} : ∀ (q : Nat) (b : Int × Int) (y : Int), (restS fs q b y).length ≤ q
  | 0, _, _ => Nat.le_refl _
  | q + 1, b, y => by
    unfold restS
    split <;> split
    · have := restS_len (fs := fs) q b (nextF fs y).1; omega
    · simp
    · have := restS_len (fs := fs) q (bndF fs y) (nextF fs y).1; simp; omega
    · simp

/-- The shelves. -/
def shelvesD (fs : List Fl) : List (Int × (Int × Int)) := (-far, (-far, far)) :: (if (nextF fs (-far)).2 then restS fs (2 * fs.length) (-far, far) (nextF fs (-far)).1 else [])

/-- Floats that aren't too far away. -/
def Near (fs : List Fl) : Prop := ∀ f ∈ fs, -2251799813685248 < f.t ∧ f.b < 2251799813685248

theorem shelvesD_draws {fs : List Fl} (hn : Near fs) : Draws (bndF fs) (-far) (shelvesD fs) := by
  have hfree : ∀ x, (∀ f ∈ fs, cntF f = true → x < f.t) → bndF fs x = (-far, far) := fun x h => bnd_free (fun f hf hc => .inl (h f hf hc))
  have hl := nextF_least fs (-far)
  unfold Least at hl
  unfold shelvesD
  cases hok : (nextF fs (-far)).2
  · rw [hok] at hl
    simp only [Bool.false_eq_true, if_false] at hl ⊢
    exact ⟨rfl, fun x _ => hfree x (fun f hf hc => absurd (by have := (hn f hf).1; unfold far; omega) (hl.2 f.t ⟨f, hf, hc, .inl rfl⟩))⟩
  · rw [hok] at hl
    simp only [if_true] at hl ⊢
    obtain ⟨h1, h2, h3⟩ := hl
    refine restS_draws _ _ _ _ h1 h2 (fun x hx hx2 => hfree x fun f hf hc => ?_) ?_
    · have := h3 f.t ⟨f, hf, hc, .inl rfl⟩ (by have := (hn f hf).1; unfold far; omega)
      omega
    · exact Nat.le_trans (List.countP_le_length ..) (edgesL_len fs)

theorem shelvesD_len (fs : List Fl) : (shelvesD fs).length ≤ 2 * fs.length + 1 := by
  unfold shelvesD
  rw [List.length_cons]
  split
  · have := restS_len (fs := fs) (2 * fs.length) (-far, far) (nextF fs (-far)).1; omega
  · simp

/-- What any list that draws the rows is. -/
theorem shelves_one {fs : List Fl} (hn : Near fs) {xs : List (Int × (Int × Int))} (h : Draws (bndF fs) (-far) xs) : xs = shelvesD fs := draws_one _ _ _ h (shelvesD_draws hn)

/-- The shelves hang on which floats there are, on nothing else. -/
theorem shelvesD_congr {fs gs : List Fl} (hn : Near fs) (hm : Near gs) (h : ∀ f, f ∈ fs ↔ f ∈ gs) : shelvesD fs = shelvesD gs :=
  draws_one _ _ _ (shelvesD_draws hn) (draws_congr _ _ (fun y _ => by unfold bndF; rw [bandL_congr h, bandR_congr h]) (shelvesD_draws hm))

/-- The document's band: the first row, and those where a float begins. -/
def docL (fs : List Fl) (a z : Int) : Int := fs.foldl (fun v f => if decide (a < f.t) && decide (f.t < z) then max v (bandL fs f.t (f.t + 1)) else v) (bandL fs a (a + 1))
def docR (fs : List Fl) (a z : Int) : Int := fs.foldl (fun v f => if decide (a < f.t) && decide (f.t < z) then min v (bandR fs f.t (f.t + 1)) else v) (bandR fs a (a + 1))

theorem foldM_le (p : Fl → Bool) (g : Fl → Int) : ∀ (fs : List Fl) (v0 v : Int), fs.foldl (fun v f => if p f then max v (g f) else v) v0 ≤ v ↔ v0 ≤ v ∧ ∀ f ∈ fs, p f = true → g f ≤ v
  | [], v0, v => by simp
  | f :: fs, v0, v => by
    rw [List.foldl_cons, foldM_le p g fs]
    simp only [List.mem_cons, forall_eq_or_imp]
    by_cases h : p f = true
    · rw [if_pos h]
      constructor
      · rintro ⟨h1, h2⟩; exact ⟨by omega, fun _ => by omega, h2⟩
      · rintro ⟨h1, h2, h3⟩; have := h2 h; exact ⟨by omega, h3⟩
    · rw [if_neg h]
      exact ⟨fun ⟨h1, h2⟩ => ⟨h1, fun e => absurd e h, h2⟩, fun ⟨h1, _, h3⟩ => ⟨h1, h3⟩⟩
theorem foldm_le (p : Fl → Bool) (g : Fl → Int) : ∀ (fs : List Fl) (v0 v : Int), v ≤ fs.foldl (fun v f => if p f then min v (g f) else v) v0 ↔ v ≤ v0 ∧ ∀ f ∈ fs, p f = true → v ≤ g f
  | [], v0, v => by simp
  | f :: fs, v0, v => by
    rw [List.foldl_cons, foldm_le p g fs]
    simp only [List.mem_cons, forall_eq_or_imp]
    by_cases h : p f = true
    · rw [if_pos h]
      constructor
      · rintro ⟨h1, h2⟩; exact ⟨by omega, fun _ => by omega, h2⟩
      · rintro ⟨h1, h2, h3⟩; have := h2 h; exact ⟨by omega, h3⟩
    · rw [if_neg h]
      exact ⟨fun ⟨h1, h2⟩ => ⟨h1, fun e => absurd e h, h2⟩, fun ⟨h1, _, h3⟩ => ⟨h1, h3⟩⟩

theorem docL_band {fs : List Fl} {a z : Int} (h : a < z) : docL fs a z = bandL fs a z :=
  eq_of_le fun v => by
    unfold docL
    rw [foldM_le, bandL_le, bandL_le]
    simp only [Bool.and_eq_true, decide_eq_true_eq]
    constructor
    · rintro ⟨⟨h1, h2⟩, h3⟩
      refine ⟨h1, fun f hf hh => ?_⟩
      obtain ⟨c, s, g1, g2, -⟩ := hitF_iff.1 hh
      by_cases g3 : f.t ≤ a
      · exact h2 f hf (hitF_iff.2 ⟨c, s, by omega, g2, by omega⟩)
      · exact (bandL_le.1 (h3 f hf ⟨by omega, g1⟩)).2 f hf (hitF_iff.2 ⟨c, s, by omega, (cntF_iff.1 c).2.1, by omega⟩)
    · rintro ⟨h1, h2⟩
      refine ⟨⟨h1, fun f hf hh => ?_⟩, fun g hg hgt => bandL_le.2 ⟨h1, fun f hf hh => ?_⟩⟩
      · obtain ⟨c, s, g1, g2, -⟩ := hitF_iff.1 hh
        exact h2 f hf (hitF_iff.2 ⟨c, s, by omega, g2, h⟩)
      · obtain ⟨c, s, g1, g2, -⟩ := hitF_iff.1 hh
        exact h2 f hf (hitF_iff.2 ⟨c, s, by omega, by omega, h⟩)
theorem docR_band {fs : List Fl} {a z : Int} (h : a < z) : docR fs a z = bandR fs a z :=
  eq_of_ge fun v => by
    unfold docR
    rw [foldm_le, le_bandR, le_bandR]
    simp only [Bool.and_eq_true, decide_eq_true_eq]
    constructor
    · rintro ⟨⟨h1, h2⟩, h3⟩
      refine ⟨h1, fun f hf hh => ?_⟩
      obtain ⟨c, s, g1, g2, -⟩ := hitF_iff.1 hh
      by_cases g3 : f.t ≤ a
      · exact h2 f hf (hitF_iff.2 ⟨c, s, by omega, g2, by omega⟩)
      · exact (le_bandR.1 (h3 f hf ⟨by omega, g1⟩)).2 f hf (hitF_iff.2 ⟨c, s, by omega, (cntF_iff.1 c).2.1, by omega⟩)
    · rintro ⟨h1, h2⟩
      refine ⟨⟨h1, fun f hf hh => ?_⟩, fun g hg hgt => le_bandR.2 ⟨h1, fun f hf hh => ?_⟩⟩
      · obtain ⟨c, s, g1, g2, -⟩ := hitF_iff.1 hh
        exact h2 f hf (hitF_iff.2 ⟨c, s, by omega, g2, h⟩)
      · obtain ⟨c, s, g1, g2, -⟩ := hitF_iff.1 hh
        exact h2 f hf (hitF_iff.2 ⟨c, s, by omega, by omega, h⟩)

end Go.Proofs.Ytdibdfalahjmbaa.Shelf

/-! The contracts of rect's small functions, of the document's, and of the law's own conversion. -/
namespace Go.Proofs.Ytdibdfalahjmbaa.Rect
open Go.RowKit

theorem ba1 (w : World) (o : Obj) : Below w.heap.size w (w.alloc o) := (Below.refl _ _).alloc (Nat.le_refl _) o
theorem ba2 (w : World) (o p : Obj) : Below w.heap.size w ((w.alloc o).alloc p) := (ba1 w o).alloc (by simp) p
theorem ba3 (w : World) (o p q : Obj) : Below w.heap.size w (((w.alloc o).alloc p).alloc q) := (ba2 w o p).alloc (by simp; omega) q

set_option maxHeartbeats 400000 in
theorem columns_any (l t r b : Int) (w : World) :
    Calls Try.prog 38 #[.agg #[.int .i64 l, .int .i64 t, .int .i64 r, .int .i64 b]] w fun e w' => e = .returned (.agg #[.int .i64 l, .int .i64 r]) ∧ Below w.heap.size w w' := by
  go_enter Try.func38, Try.ntmps38
  go_wp2
  all_goals exact bodyPost_ret (v := .agg #[.int .i64 l, .int .i64 r]) (by simp [results, Try.results38, go_sem]) rfl ⟨rfl, by first | exact ba1 _ _ | exact ba2 _ _ _ | exact ba3 _ _ _ _⟩

set_option maxHeartbeats 400000 in
theorem rows_any (l t r b : Int) (w : World) :
    Calls Try.prog 40 #[.agg #[.int .i64 l, .int .i64 t, .int .i64 r, .int .i64 b]] w fun e w' => e = .returned (.agg #[.int .i64 t, .int .i64 b]) ∧ Below w.heap.size w w' := by
  go_enter Try.func40, Try.ntmps40
  go_wp2
  all_goals exact bodyPost_ret (v := .agg #[.int .i64 t, .int .i64 b]) (by simp [results, Try.results40, go_sem]) rfl ⟨rfl, by first | exact ba1 _ _ | exact ba2 _ _ _ | exact ba3 _ _ _ _⟩

set_option maxHeartbeats 400000 in
theorem rof_any (a b c d : Int) (w : World) :
    Calls Try.prog 51 #[.agg #[.int .i64 a, .int .i64 b], .agg #[.int .i64 c, .int .i64 d]] w fun e w' => e = .returned (.agg #[.int .i64 a, .int .i64 c, .int .i64 b, .int .i64 d]) ∧ Below w.heap.size w w' := by
  go_enter Try.func51, Try.ntmps51
  go_wp2
  all_goals exact bodyPost_ret (v := .agg #[.int .i64 a, .int .i64 c, .int .i64 b, .int .i64 d]) (by simp [results, Try.results51, go_sem]) rfl ⟨rfl, by first | exact ba1 _ _ | exact ba2 _ _ _ | exact ba3 _ _ _ _⟩

set_option maxHeartbeats 400000 in
theorem of_any (x0 x1 x2 x3 : Int) (w : World) :
    Calls Try.prog 32 #[.agg #[.int .i64 x0, .int .i64 x1, .int .i64 x2, .int .i64 x3]] w fun e w' => e = .returned (.agg #[.int .i64 x0, .int .i64 x1, .int .i64 x2, .int .i64 x3]) ∧ Below w.heap.size w w' := by
  go_enter Try.func32, Try.ntmps32
  go_wp2
  all_goals exact bodyPost_ret (v := .agg #[.int .i64 x0, .int .i64 x1, .int .i64 x2, .int .i64 x3]) (by simp [results, Try.results32, go_sem]) rfl ⟨rfl, by first | exact ba1 _ _ | exact ba2 _ _ _ | exact ba3 _ _ _ _⟩

set_option maxHeartbeats 400000 in
theorem clip_any (a b c d : Int) (w : World) :
    Calls Try.prog 42 #[.agg #[.int .i64 a, .int .i64 b], .agg #[.int .i64 c, .int .i64 d]] w fun e w' => e = .returned (.agg #[.int .i64 (max a c), .int .i64 (min b d)]) ∧ Below w.heap.size w w' := by
  go_enter Try.func42, Try.ntmps42
  go_wp2
  all_goals exact bodyPost_ret (v := .agg #[.int .i64 (max a c), .int .i64 (min b d)]) (by simp [results, Try.results42, go_sem]; try omega) rfl ⟨rfl, by first | exact ba1 _ _ | exact ba2 _ _ _ | exact ba3 _ _ _ _⟩

set_option maxHeartbeats 400000 in
theorem some_any (a b : Int) (w : World) :
    Calls Try.prog 39 #[.agg #[.int .i64 a, .int .i64 b]] w fun e w' => e = .returned (.bool (decide (a < b))) ∧ Below w.heap.size w w' := by
  go_enter Try.func39, Try.ntmps39
  go_wp2
  all_goals (go_ret; exact ⟨by simp [*] <;> omega, by first | exact ba1 _ _ | exact ba2 _ _ _⟩)

end Go.Proofs.Ytdibdfalahjmbaa.Rect

/-! Two laws on regions that draw their order, over any program: quiet operations of a class ahead of a forced tail; and an invariant that every operation keeps, in whichever order they come up. -/
namespace Go.Proofs.Ytdibdfalahjmbaa
open Go.RowKit Go.Sort

section
variable {P : Program} {md : Region.Mode} {ops : Array Oper} {C : World → Prop}

/-- Whatever order is picked of the operations below n, till L holds. -/
def wpHeadQ (P : Program) (md : Region.Mode) (ops : Array Oper) (C : World → Prop) (n : Nat) (L : Array Bool → Act → Prop) : Nat → Array Bool → Act → Prop
  | 0, listed, a => L listed a
  | f + 1, listed, a =>
    Region.ready md ops listed ≠ [] ∧ ∀ i ∈ Region.ready md ops listed, i < n ∧ qOp P ops C i (wpHeadQ P md ops C n L f (listed.setIfInBounds i true)) a

theorem wpAny_of_headQ {n g : Nat} {L : Array Bool → Act → Prop} {Q' : Exit → Act → World → Prop} (hL : ∀ listed a w, C w → L listed a → wpAny P md ops Q' g listed a w) :
    ∀ (f : Nat) (listed : Array Bool) (a : Act) (w : World), C w → wpHeadQ P md ops C n L f listed a → wpAny P md ops Q' (f + g) listed a w
  | 0, listed, a, w, hw, h => by rw [Nat.zero_add]; exact hL _ _ _ hw h
  | f + 1, listed, a, w, hw, h => by
    rw [show f + 1 + g = (f + g) + 1 by omega]
    exact ⟨fun h0 => absurd h0 h.1, fun i hi => wpOp_of_qOp hw (fun a' w' hw' h' => wpAny_of_headQ hL f _ a' w' hw' h') (h.2 i hi).2⟩

theorem wpHeadQ_first {n i : Nat} {oi : Oper} {v : Value} {L : Array Bool → Act → Prop} (hi : ops[i]? = some oi) (hsel : ∀ (j : Nat) (o : Oper) cs b, ops[j]? = some o → o.op ≠ .select cs b)
    (hs : Region.sinkB md ops n = true) (hc : Region.chainB md ops n = true) (hn : n < ops.size) (hin : i < n)
    (hdone : ∀ listed a, L listed a → ∀ j ∈ Region.ready md ops listed, n ≤ j) :
    ∀ (f : Nat) (listed : Array Bool) (a : Act), HeadInv md ops n listed →
      (∀ j oj, ops[j]? = some oj → j ≠ i → listed.getD j true = false → (∀ e ∈ oj.after, Region.binds md e = true → e.on ≠ i) → oi.apart ops oj = true) →
      i ∈ Region.ready md ops listed → YieldsIn P ops C oi v a →
      wpHeadQ P md ops C n L f (listed.setIfInBounds i true) (a.put oi.dst v) → wpHeadQ P md ops C n L (f + 1) listed a := by
  intro f
  induction f with
  | zero =>
    intro listed a inv _ hr hy H
    have hun := (mem_ready.1 hr).1
    refine ⟨fun h => (by rw [h] at hr; cases hr), fun j hj => ?_⟩
    have hjn : j < n := by
      rcases Nat.lt_or_ge j n with h | h
      · exact h
      · exact absurd hj (tail_waits hs hc hn inv _ i rfl hin hun j h)
    refine ⟨hjn, ?_⟩
    by_cases hji : j = i
    · subst hji; exact hy.qOp hi H
    · have := hdone _ _ H j (ready_mono hj hji)
      omega
  | succ f ih =>
    intro listed a inv hfree hr hy H
    have hun := (mem_ready.1 hr).1
    refine ⟨fun h => (by rw [h] at hr; cases hr), fun j hj => ?_⟩
    have hjn : j < n := by
      rcases Nat.lt_or_ge j n with h | h
      · exact h
      · exact absurd hj (tail_waits hs hc hn inv _ i rfl hin hun j h)
    refine ⟨hjn, ?_⟩
    by_cases hji : j = i
    · subst hji; exact hy.qOp hi H
    · have h1 := (H.2 j (ready_mono hj hji)).2
      obtain ⟨hjun, oj, hoj, hall⟩ := mem_ready.1 hj
      have hnot : ∀ e ∈ oj.after, Region.binds md e = true → e.on ≠ i := fun e he hb heq => by
        have h1 := hall e he hb
        rw [heq, getD_both hun] at h1
        cases h1
      have h2 := qOp_put hoj (hfree j oj hoj hji hjun hnot) (fun cs b => hsel i oi cs b hi) (fun cs b => hsel j oj cs b hoj) hy h1
      have hfree' : ∀ k ok, ops[k]? = some ok → k ≠ i → (listed.setIfInBounds j true).getD k true = false →
          (∀ e ∈ ok.after, Region.binds md e = true → e.on ≠ i) → oi.apart ops ok = true := fun k ok hk hki hun hno => by
        refine hfree k ok hk hki ?_ hno
        by_cases hjk : j = k
        · subst hjk; exact hjun
        · rw [getD_set_ne true hjk] at hun; exact hun
      refine qOp_mono (fun a' h3 => ih (listed.setIfInBounds j true) a' (inv.set hj hjn) hfree' (ready_mono hr (Ne.symm hji)) h3.1 ?_) h2
      rw [Array.setIfInBounds_comm _ _ hji]
      exact h3.2

theorem wpHeadQ_lex {n g : Nat} {Lq : Act → Prop} (hsel : Region.noSelect ops = true) (hs : Region.sinkB md ops n = true) (hc : Region.chainB md ops n = true) (hn : n < ops.size) :
    ∀ (l : List Oper) (k : Nat) (listed : Array Bool) (a : Act), (∀ j, j < l.length → l[j]? = ops[k + j]?) → k + l.length = n → HeadInv md ops n listed →
    Region.lexHead md ops g l.length k listed = true → wpQuiet P ops C Lq l a →
    wpHeadQ P md ops C n (fun listed' a' => Region.seqB md ops g n listed' = true ∧ Lq a') l.length listed a
  | [], k, listed, a, _, hk, _, hB, h => by
    have : k = n := by simpa using hk
    subst this
    exact ⟨by simpa [Region.lexHead] using hB, h⟩
  | o :: l, k, listed, a, hl, hk, inv, hB, h => by
    have h0 : ops[k]? = some o := by simpa using (hl 0 (by simp)).symm
    simp only [List.length_cons, Region.lexHead, Bool.and_eq_true] at hB
    obtain ⟨⟨hr, hf⟩, hB'⟩ := hB
    have hkn : k < n := by simp only [List.length_cons] at hk; omega
    have hr' : k ∈ Region.ready md ops listed := by simpa using hr
    have hst : qOp P ops C k (wpQuiet P ops C Lq l) a := by unfold qOp; simp only [h0]; exact h
    obtain ⟨v, hy, hK⟩ := yieldsIn_of_qOp h0 hst
    exact wpHeadQ_first h0 (Region.noSelect_spec hsel) hs hc hn hkn (fun listed' a' hL => seqB_ready hL.1) l.length listed a inv (Region.free_spec h0 hf) hr' hy
      (wpHeadQ_lex hsel hs hc hn l (k + 1) _ _ (fun j hj => by have := hl (j + 1) (by simp; omega); simpa [Nat.add_assoc, Nat.add_comm 1 j] using this) (by simp only [List.length_cons] at hk; omega) (inv.set hr' hkn) hB' hK)

/-- A region that draws its order, whose first n operations are quiet in a class of worlds and whose others come up behind all of these, one by one. -/
theorem wp_region_quiet_tail {id : Nat} {Q : Exit → Act → World → Prop} {a : Act} {w : World} {l : List Oper} (n : Nat) (hm : P.follows .mixedOrders = true) (hB : Region.lexTailB .any l.toArray n = true) (hC : C { w with drawn := w.drawn + 1 })
    (h : wpQuiet P l.toArray C (fun a' => ∀ w', C w' → wpList P l.toArray Q (l.drop n) a' w') (l.take n) a) : (Code.region id l.toArray true).wp P Q a w := by
  simp only [Region.lexTailB, Bool.and_eq_true, decide_eq_true_eq] at hB
  obtain ⟨⟨⟨⟨hsel, hn⟩, hs⟩, hc⟩, hlex⟩ := hB
  have hn' : n < l.length := by simpa using hn
  have htl : (l.take n).length = n := by simp; omega
  have hdl : (l.drop n).length = l.toArray.size - n := by simp
  have inv0 : HeadInv .any l.toArray n (Array.replicate l.toArray.size false) :=
    ⟨by simp, fun j oj _ hl => (by rw [getD_replicate_false] at hl; cases hl), fun t _ ht => getD_in (by simpa using ht) (getD_replicate_false _ _)⟩
  have H := wpHeadQ_lex (md := .any) (g := l.toArray.size - n) hsel hs hc hn (l.take n) 0 _ a (fun j hj => by
    have hj' : j < n := by rw [htl] at hj; exact hj
    simp [hj']) (by simpa using htl) inv0 (by rw [htl]; exact hlex) h
  refine wp_region_any hm ?_
  have := wpAny_of_headQ (Q' := Q) (g := l.toArray.size - n) (fun listed a' w' hw' hL => by
    have := wpAny_of_seq (md := .any) (Q' := Q) (l.drop n) n listed a' w' (fun j => by simp [List.getElem?_drop]) (by rw [hdl]; exact hL.1) (hL.2 w' hw')
    rwa [hdl] at this) _ _ _ _ hC H
  rw [htl, show n + (l.toArray.size - n) = l.toArray.size by omega] at this
  exact this

/-- .. at the class 'what was there is as it was; blocks may have been laid'. -/
theorem wp_region_quiet_below_tail {id : Nat} {Q : Exit → Act → World → Prop} {a : Act} {w : World} {l : List Oper} (n : Nat) (hm : P.follows .mixedOrders = true) (hB : Region.lexTailB .any l.toArray n = true)
    (h : wpQuiet P l.toArray (fun w' => ∃ p : Regrown, w' = grow (redrawn w p.d) p.os) (fun a' => ∀ w', (∃ p : Regrown, w' = grow (redrawn w p.d) p.os) → wpList P l.toArray Q (l.drop n) a' w') (l.take n) a) : (Code.region id l.toArray true).wp P Q a w :=
  wp_region_quiet_tail (C := fun w' => ∃ p : Regrown, w' = grow (redrawn w p.d) p.os) n hm hB ⟨⟨w.drawn + 1, #[]⟩, by rw [grow_empty]; rfl⟩ h

/-- How many operations have not come up. -/
def unlisted (listed : Array Bool) : Nat := listed.toList.countP (fun b => !b)

theorem unlisted_set {listed : Array Bool} {i : Nat} (h : listed.getD i true = false) : unlisted (listed.setIfInBounds i true) + 1 = unlisted listed := by
  have hi : i < listed.size := by
    rcases Nat.lt_or_ge i listed.size with h' | h'
    · exact h'
    · simp [Array.getElem?_eq_none h'] at h
  have hv : listed[i] = false := by simpa [hi] using h
  unfold unlisted
  rw [Array.toList_setIfInBounds, List.countP_set (by simpa using hi)]
  have h2 : listed.toList[i]'(by simpa using hi) = false := by simpa using hv
  rw [h2]
  have hpos : 0 < listed.toList.countP (fun b => !b) := List.countP_pos_iff.2 ⟨false, by rw [← h2]; exact List.getElem_mem _, rfl⟩
  simp only [Bool.not_false, Bool.not_true, if_true, Bool.false_eq_true, if_false]
  omega

/-- **AN INVARIANT OF A REGION**: what holds at first, what each operation keeps whose turn it may be, in whichever order, and what gives the post once none is left. -/
theorem wp_region_keeps {id : Nat} {Q : Exit → Act → World → Prop} {a : Act} {w : World} {ops : Array Oper} (I : Array Bool → Act → World → Prop) (hm : P.follows .mixedOrders = true)
    (h0 : I (Array.replicate ops.size false) a { w with drawn := w.drawn + 1 })
    (hstep : ∀ listed a w, listed.size = ops.size → I listed a w → ∀ i ∈ Region.ready .any ops listed, wpOp P ops Q i (I (listed.setIfInBounds i true)) a w)
    (hend : ∀ listed a w, listed.size = ops.size → I listed a w → Region.ready .any ops listed = [] → Q .normal a w) : (Code.region id ops true).wp P Q a w := by
  refine wp_region_any hm ?_
  have key : ∀ (fuel : Nat) (listed : Array Bool) (a : Act) (w : World), listed.size = ops.size → unlisted listed ≤ fuel → I listed a w → wpAny P .any ops Q fuel listed a w := by
    intro fuel
    induction fuel with
    | zero =>
      intro listed a w hs hu hI
      have hr : Region.ready .any ops listed = [] := by
        cases hr : Region.ready .any ops listed with
        | nil => rfl
        | cons i _ =>
          have hi : i ∈ Region.ready .any ops listed := by rw [hr]; simp
          have := unlisted_set (mem_ready.1 hi).1
          omega
      exact ⟨hr, hend _ _ _ hs hI hr⟩
    | succ fuel ih =>
      intro listed a w hs hu hI
      refine ⟨fun hr => hend _ _ _ hs hI hr, fun i hi => ?_⟩
      refine wpOp_mono (fun a' w' h' => ih _ a' w' (by simpa using hs) ?_ h') (hstep _ _ _ hs hI i hi)
      have := unlisted_set (mem_ready.1 hi).1
      omega
  refine key _ _ _ _ (by simp) ?_ h0
  unfold unlisted
  exact Nat.le_trans List.countP_le_length (by simp)
end
end Go.Proofs.Ytdibdfalahjmbaa

/-! The contracts of what rect and the document make of two rectangles. -/
namespace Go.Proofs.Ytdibdfalahjmbaa.Rect
open Go.RowKit Go.Sort

theorem bcell {W w1 : World} (hb : Below W.heap.size W w1) : (∀ b o, b < W.heap.size → w1.cell? ⟨b, o, none⟩ = W.cell? ⟨b, o, none⟩) ∧ (∀ b o, b < W.heap.size → w1.frozen? ⟨b, o, none⟩ = W.frozen? ⟨b, o, none⟩) :=
  ⟨fun b o h => hb.cell (p := ⟨b, o, none⟩) h, fun b o h => hb.frozen (p := ⟨b, o, none⟩) h⟩

theorem thru {w W w1 : World} (h1 : Below w.heap.size w W) (h2 : Below W.heap.size W w1) : Below w.heap.size w w1 := h1.trans (h2.mono h1.size)

set_option maxHeartbeats 400000 in
theorem pair_any (a0 a1 a2 a3 b0 b1 b2 b3 : Int) (w : World) :
    Calls Try.prog 41 #[.func (.func 42) #[] #[], .agg #[.int .i64 a0, .int .i64 a1, .int .i64 a2, .int .i64 a3], .agg #[.int .i64 b0, .int .i64 b1, .int .i64 b2, .int .i64 b3]] w
      fun e w' => e = .returned (.agg #[.int .i64 (max a0 b0), .int .i64 (max a1 b1), .int .i64 (min a2 b2), .int .i64 (min a3 b3)]) ∧ Below w.heap.size w w' := by
  go_enter Try.func41, Try.ntmps41
  go_wp2
  generalize hW : World.alloc (World.alloc (World.alloc w _) _) _ = W
  have ka0 := cell_regrown (w := W) (a := ⟨w.heap.size, 0, none⟩) (v := .int .i64 a0) (by rw [← hW]; simp [go_sem])
  have ka1 := cell_regrown (w := W) (a := ⟨w.heap.size, 1, none⟩) (v := .int .i64 a1) (by rw [← hW]; simp [go_sem])
  have ka2 := cell_regrown (w := W) (a := ⟨w.heap.size, 2, none⟩) (v := .int .i64 a2) (by rw [← hW]; simp [go_sem])
  have ka3 := cell_regrown (w := W) (a := ⟨w.heap.size, 3, none⟩) (v := .int .i64 a3) (by rw [← hW]; simp [go_sem])
  have kb0 := cell_regrown (w := W) (a := ⟨w.heap.size + 1, 0, none⟩) (v := .int .i64 b0) (by rw [← hW]; simp [go_sem])
  have kb1 := cell_regrown (w := W) (a := ⟨w.heap.size + 1, 1, none⟩) (v := .int .i64 b1) (by rw [← hW]; simp [go_sem])
  have kb2 := cell_regrown (w := W) (a := ⟨w.heap.size + 1, 2, none⟩) (v := .int .i64 b2) (by rw [← hW]; simp [go_sem])
  have kb3 := cell_regrown (w := W) (a := ⟨w.heap.size + 1, 3, none⟩) (v := .int .i64 b3) (by rw [← hW]; simp [go_sem])
  refine wp_region_quiet_below_tail 13 (by kernel_rfl) (by kernel_rfl) ?_
  simp only [List.take_succ_cons, List.take_zero, List.drop_succ_cons, List.drop_zero]
  repeat (quiet_step (first
    | (go_at_call 38; exact Calls.regrown_of (columns_any _ _ _ _ _))
    | (go_at_call 40; exact Calls.regrown_of (rows_any _ _ _ _ _))
    | (go_at_call 42; exact Calls.regrown_of (clip_any _ _ _ _ _))
    | (go_at_call 51; exact Calls.regrown_of (rof_any _ _ _ _ _))))
  refine wpQuiet_nil ?_
  intro _ hw'
  obtain ⟨⟨dq, osq⟩, hw''⟩ := hw'
  subst hw''
  clear ka0 ka1 ka2 ka3 kb0 kb1 kb2 kb3
  have hb := below_regrown W dq osq
  generalize grow (redrawn W dq) osq = W2 at hb ⊢
  subst hW
  obtain ⟨hc, hf⟩ := bcell hb
  have hz := hb.size
  simp at hz
  go_wp2
  exact bodyPost_ret (v := .agg #[.int .i64 (max a0 b0), .int .i64 (max a1 b1), .int .i64 (min a2 b2), .int .i64 (min a3 b3)]) (by simp [results, Try.results41, go_sem, hc]) rfl ⟨rfl, ((((thru (ba3 _ _ _ _) hb).setCell (by simp; omega) _).setCell (by simp; omega) _).setCell (by simp; omega) _).setCell (by simp; omega) _⟩

set_option maxHeartbeats 400000 in
theorem common_any (a0 a1 a2 a3 b0 b1 b2 b3 : Int) (w : World) :
    Calls Try.prog 26 #[.agg #[.int .i64 a0, .int .i64 a1, .int .i64 a2, .int .i64 a3], .agg #[.int .i64 b0, .int .i64 b1, .int .i64 b2, .int .i64 b3]] w
      fun e w' => e = .returned (.agg #[.int .i64 (max a0 b0), .int .i64 (max a1 b1), .int .i64 (min a2 b2), .int .i64 (min a3 b3)]) ∧ Below w.heap.size w w' := by
  go_enter Try.func26, Try.ntmps26
  go_wp2_with fail
  refine (pair_any _ _ _ _ _ _ _ _ _).mono ?_; rintro e w1 ⟨rfl, hb⟩
  obtain ⟨hc, hf⟩ := bcell hb
  have hz := hb.size
  simp at hz
  go_wp2_with fail
  exact bodyPost_ret (v := .agg #[.int .i64 (max a0 b0), .int .i64 (max a1 b1), .int .i64 (min a2 b2), .int .i64 (min a3 b3)]) (by simp [results, Try.results26, go_sem, hc]) rfl ⟨rfl, ((((thru (ba3 _ _ _ _) hb).setCell (by simp; omega) _).setCell (by simp; omega) _).setCell (by simp; omega) _).setCell (by simp; omega) _⟩

theorem calls_same_below {P : Program} {f : FuncId} {args : Array Value} {w : World} {v : Value} (h : Calls P f args w fun e w' => e = .returned v ∧ w = w') :
    Calls P f args w fun e w' => e = .returned v ∧ Below w.heap.size w w' := h.mono fun _ _ ⟨he, hw⟩ => ⟨he, by subst hw; exact Below.refl _ _⟩

theorem some_is (a b : Int) (v : Bool) (hv : decide (a < b) = v) (w : World) :
    Calls Try.prog 39 #[.agg #[.int .i64 a, .int .i64 b]] w fun e w' => e = .returned (.bool v) ∧ Below w.heap.size w w' := by
  subst hv; exact some_any a b w

set_option maxHeartbeats 400000 in
theorem full_is (l t r b : Int) (v : Bool) (hv : (decide (l < r) && decide (t < b)) = v) (w : World) :
    Calls Try.prog 25 #[.agg #[.int .i64 l, .int .i64 t, .int .i64 r, .int .i64 b]] w fun e w' => e = .returned (.bool v) ∧ Below w.heap.size w w' := by
  obtain ⟨p, hp⟩ : ∃ p : Bool, decide (l < r) = p := ⟨_, rfl⟩
  obtain ⟨q, hq⟩ : ∃ q : Bool, decide (t < b) = q := ⟨_, rfl⟩
  rw [hp, hq] at hv
  subst hv
  have HP := Lib.hid hp
  have HQ := Lib.hid hq
  clear hp hq
  cases p
  all_goals
    go_enter Try.func25, Try.ntmps25
    go_wp2_with fail
    refine (columns_any _ _ _ _ _).mono ?_; rintro e w1 ⟨rfl, b1⟩
    obtain ⟨c1, f1⟩ := bcell b1
    go_wp2_with fail
    refine (some_is _ _ _ HP.out _).mono ?_; rintro e w2 ⟨rfl, b2⟩
    replace b2 := thru b1 b2
    clear b1 c1 f1
    obtain ⟨c2, f2⟩ := bcell b2
    go_wp2_with fail
  · go_ret
    exact ⟨rfl, thru (ba1 _ _) b2⟩
  · refine (rows_any _ _ _ _ _).mono ?_; rintro e w3 ⟨rfl, b3⟩
    replace b3 := thru b2 b3
    clear b2 c2 f2
    go_wp2_with fail
    refine (some_is _ _ _ HQ.out _).mono ?_; rintro e w4 ⟨rfl, b4⟩
    replace b4 := thru b3 b4
    clear b3
    go_wp2_with fail
    go_ret
    exact ⟨by simp, thru (ba1 _ _) b4⟩

set_option maxHeartbeats 400000 in
theorem meet_is (a0 a1 a2 a3 b0 b1 b2 b3 : Int) (v : Bool) (hv : (decide (max a0 b0 < min a2 b2) && decide (max a1 b1 < min a3 b3)) = v) (w : World) :
    Calls Try.prog 13 #[.agg #[.int .i64 a0, .int .i64 a1, .int .i64 a2, .int .i64 a3], .agg #[.int .i64 b0, .int .i64 b1, .int .i64 b2, .int .i64 b3]] w fun e w' => e = .returned (.bool v) ∧ Below w.heap.size w w' := by
  have HV := Lib.hid hv
  clear hv
  go_enter Try.func13, Try.ntmps13
  go_wp2_with fail
  refine (common_any _ _ _ _ _ _ _ _ _).mono ?_; rintro e w1 ⟨rfl, b1⟩
  go_wp2_with fail
  refine (full_is _ _ _ _ _ HV.out _).mono ?_; rintro e w2 ⟨rfl, b2⟩
  replace b2 := thru b1 b2
  clear b1
  go_wp2_with fail
  go_ret
  exact ⟨rfl, thru (ba2 _ _ _) b2⟩

end Go.Proofs.Ytdibdfalahjmbaa.Rect

/-! The contract of the document's look at numbers: whether all lie within its bounds. -/
namespace Go.Proofs.Ytdibdfalahjmbaa.Rect
open Go.RowKit Go.Sort

def inB (n : Int) : Bool := decide (-1152921504606846976 ≤ n ∧ n ≤ 1152921504606846976)

theorem take_next (xs : List Int) (k : Nat) (h : k < xs.length) : xs.take (k + 1) = xs.take k ++ [xs.getD k 0] := by
  rw [List.take_succ_eq_append_getElem h]; simp [List.getD, h]

theorem all_out (xs : List Int) (k : Nat) (h : k < xs.length) (y : Int) (hy : y = xs.getD k 0) (hb : inB y = false) : xs.all inB = false := by
  rw [List.all_eq_false]
  refine ⟨y, ?_, by rw [hb]; simp⟩
  rw [hy]; simp [List.getD, h]

theorem ret_bool {a b : Bool} (h : a = b) : Ending.returned (.bool a) = .returned (.bool b) := by rw [h]

end Go.Proofs.Ytdibdfalahjmbaa.Rect
