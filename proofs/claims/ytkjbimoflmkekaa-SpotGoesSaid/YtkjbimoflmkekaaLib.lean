/- What every walk wants: Below, cells, lists that are read. -/
import Derived.Test.YtkjbimoflmkekaaRows
import Derived.WalkKit
import Derived.WalkSpells
import Derived.WalkLawsBesides
import Derived.BigQuiet
import Derived.Lib.Hide
import Derived.Lib.QuietBelow
import Derived.DataElems
namespace Go.Proofs.Ytkjbimoflmkekaa
open Go.RowKit Go.Sort

theorem ba1 (w : World) (o : Obj) : Below w.heap.size w (w.alloc o) := (Below.refl _ _).alloc (Nat.le_refl _) o
theorem ba2 (w : World) (o p : Obj) : Below w.heap.size w ((w.alloc o).alloc p) := (ba1 w o).alloc (by simp) p
theorem ba3 (w : World) (o p q : Obj) : Below w.heap.size w (((w.alloc o).alloc p).alloc q) := (ba2 w o p).alloc (by simp; omega) q

theorem bcell {W w1 : World} (hb : Below W.heap.size W w1) : (∀ b o, b < W.heap.size → w1.cell? ⟨b, o, none⟩ = W.cell? ⟨b, o, none⟩) ∧ (∀ b o, b < W.heap.size → w1.frozen? ⟨b, o, none⟩ = W.frozen? ⟨b, o, none⟩) :=
  ⟨fun b o h => hb.cell (p := ⟨b, o, none⟩) h, fun b o h => hb.frozen (p := ⟨b, o, none⟩) h⟩

theorem thru {w W w1 : World} (h1 : Below w.heap.size w W) (h2 : Below W.heap.size W w1) : Below w.heap.size w w1 := h1.trans (h2.mono h1.size)

/-! Lists that are read. -/
theorem block_of_add (a : Addr) (n : Nat) : (a.add n).block = a.block := by unfold Addr.add; split <;> rfl

/-- The numbers of a slice, below block B. -/
def Nums (w : World) (B : Nat) (A : Option Addr) (xs : List Int) : Prop :=
  ∀ k, k < xs.length → ∃ ad : Addr, A = some ad ∧ ad.block < B ∧ w.cell? (ad.add k) = some (.int .i64 (xs.getD k 0))

theorem Nums.below {w w' : World} {B : Nat} {A : Option Addr} {xs : List Int} (h : Nums w B A xs) (k : Below B w w') : Nums w' B A xs := fun i hi => by
  obtain ⟨ad, e, hb, hc⟩ := h i hi
  exact ⟨ad, e, hb, by rw [k.cell (by rw [block_of_add]; exact hb)]; exact hc⟩

theorem Nums.more {w : World} {B C : Nat} {A : Option Addr} {xs : List Int} (h : Nums w B A xs) (hc : B ≤ C) : Nums w C A xs := fun i hi => by
  obtain ⟨ad, e, hb, hx⟩ := h i hi
  exact ⟨ad, e, by omega, hx⟩

theorem Nums.thru {w w' : World} {A : Option Addr} {xs : List Int} (h : Nums w w.heap.size A xs) (k : Below w.heap.size w w') : Nums w' w'.heap.size A xs :=
  (h.below k).more k.size

def inB (n : Int) : Bool := decide (-1152921504606846976 ≤ n ∧ n ≤ 1152921504606846976)

theorem take_next (xs : List Int) (k : Nat) (h : k < xs.length) : xs.take (k + 1) = xs.take k ++ [xs.getD k 0] := by
  rw [List.take_succ_eq_append_getElem h]; simp [List.getD, h]

theorem all_out (xs : List Int) (k : Nat) (h : k < xs.length) (y : Int) (hy : y = xs.getD k 0) (hb : inB y = false) : xs.all inB = false := by
  rw [List.all_eq_false]
  refine ⟨y, ?_, by rw [hb]; simp⟩
  rw [hy]; simp [List.getD, h]

theorem ret_int {a b : Int} (h : a = b) : Ending.returned (.int .i64 a) = .returned (.int .i64 b) := by rw [h]
theorem ret_bool {a b : Bool} (h : a = b) : Ending.returned (.bool a) = .returned (.bool b) := by rw [h]

theorem calls_same_below {P : Program} {f : FuncId} {args : Array Value} {w : World} {v : Value} (h : Calls P f args w fun e w' => e = .returned v ∧ w = w') :
    Calls P f args w fun e w' => e = .returned v ∧ Below w.heap.size w w' := h.mono fun _ _ ⟨he, hw⟩ => ⟨he, by subst hw; exact Below.refl _ _⟩

theorem inB_iff {n : Int} (h : inB n = true) : -1152921504606846976 ≤ n ∧ n ≤ 1152921504606846976 := by
  unfold inB at h; simpa using h

theorem nums0 (w : World) (B : Nat) (A : Option Addr) : Nums w B A [] := fun k hk => by simp at hk

/-- The front and the back of a list. -/
theorem Nums.front {w : World} {B : Nat} {A : Option Addr} {xs : List Int} (h : Nums w B A xs) (k : Nat) : Nums w B A (xs.take k) := fun i hi => by
  rw [List.length_take] at hi
  obtain ⟨ad, e, hb, hc⟩ := h i (by omega)
  refine ⟨ad, e, hb, ?_⟩
  rw [hc]
  simp only [List.getD, List.getElem?_take]
  rw [if_pos (by omega)]
theorem Nums.back {w : World} {B : Nat} {ad : Addr} {xs : List Int} (h : Nums w B (some ad) xs) (k : Nat) : Nums w B (some (ad.add k)) (xs.drop k) := fun i hi => by
  rw [List.length_drop] at hi
  obtain ⟨ad', e, hb, hc⟩ := h (k + i) (by omega)
  injection e with e
  subst e
  refine ⟨_, rfl, by rw [block_of_add]; exact hb, ?_⟩
  rw [Addr.add_add, hc]
  simp [List.getD]

/-- Where the back of a slice lies. -/
def backA (A : Option Addr) (c k : Nat) : Option Addr := if c = k then A else Option.map (fun x => x.add k) A

theorem Nums.back' {w : World} {B : Nat} {A : Option Addr} {n c : Nat} {xs : List Int} (h : Nums w B A xs) (hn : n = xs.length) (hc : n ≤ c) (k : Nat) (hk : k ≤ n) : Nums w B (backA A c k) (xs.drop k) := by
  cases A with
  | none =>
    have : xs.drop k = [] := by
      rcases Nat.eq_zero_or_pos xs.length with h0 | h0
      · exact List.drop_eq_nil_of_le (by omega)
      · obtain ⟨ad, e, _⟩ := h 0 h0
        cases e
    rw [this]
    exact nums0 _ _ _
  | some ad =>
    unfold backA
    split
    · rw [List.drop_eq_nil_of_le (by omega)]
      exact nums0 _ _ _
    · exact h.back k

end Go.Proofs.Ytkjbimoflmkekaa
