/- A whole tree in memory; the contract of Children. -/
import Derived.Test.YtnmfgcdenngpfaaPart21
namespace Go.Proofs.Ytnmfgcdenngpfaa.Tree
open Go.RowKit Go.Sort Go.Proofs.Ytnmfgcdenngpfaa.Record Go.Proofs.Ytnmfgcdenngpfaa.Script Go.Proofs.Ytnmfgcdenngpfaa.More

def endsOf (bs : List Bx) (j : Nat) : Int := (en (dOf bs) bs.length j : Int)

/-- The nodes of a tree. -/
def nodesOf (bs : List Bx) : List Nd := nodesE bs (endsOf bs) bs.length

/-- A tree of boxes that lies somewhere. -/
def InTree (w : World) (p : Addr) (bs : List Bx) : Prop :=
  ∃ g A c, p = ⟨g, 0, none⟩ ∧ 0 < bs.length ∧ bs.length ≤ 1000 ∧ Fine bs bs.length ∧ InT w 0 g A c (nodesOf bs)

theorem InTree.below {w w' : World} {p : Addr} {bs : List Bx} (h : InTree w p bs) (k : Below w.heap.size w w') : InTree w' p bs := by
  obtain ⟨g, A, c, e, h0, h1, h2, h3⟩ := h
  exact ⟨g, A, c, e, h0, h1, h2, h3.below k⟩

theorem nodesOf_len (bs : List Bx) : (nodesOf bs).length = bs.length := nodesE_len _ _ _

theorem nodeAt_in {bs : List Bx} {k : Nat} (h : k < bs.length) : nodeAt (nodesOf bs) (k : Int) = ⟨bs.getD k noB, par (dOf bs) k, endsOf bs k, (ctx (dOf bs) (oOf bs) k : Int)⟩ := by
  unfold nodeAt
  rw [if_pos ⟨by omega, by rw [nodesOf_len]; omega⟩, Int.toNat_natCast]
  exact nodesE_at bs _ h

theorem nodeAt_out {bs : List Bx} {i : Int} (h : ¬ hasT bs i) : nodeAt (nodesOf bs) i = noN := by
  unfold nodeAt
  rw [if_neg]
  rw [nodesOf_len]
  exact h

theorem nodeAt_is (bs : List Bx) (i : Int) : nodeAt (nodesOf bs) i = ⟨boxT bs i, parT bs i, enT bs i, ctxT bs i⟩ := by
  by_cases h : hasT bs i
  · obtain ⟨k, rfl⟩ : ∃ k : Nat, i = k := ⟨i.toNat, by have := h.1; omega⟩
    have hk : k < bs.length := by have := h.2; omega
    rw [nodeAt_in hk, boxT_nat hk, parT_nat hk, enT_nat hk, ctxT_nat hk]
    rfl
  · rw [nodeAt_out h]
    unfold boxT parT enT ctxT
    rw [if_neg h, if_neg h, if_neg h, if_neg h]
    rfl

theorem kidsTo_skip (d : Nat → Int) (i a : Nat) : ∀ b, a ≤ b → (∀ j, a ≤ j → j < b → d j ≠ d i + 1) → kidsTo d i b = kidsTo d i a
  | 0, h, _ => by obtain rfl : a = 0 := by omega
                  rfl
  | b + 1, h, hm => by
    by_cases e : a = b + 1
    · rw [e]
    · rw [kidsTo_next, if_neg (fun h => hm b (by omega) (by omega) h.2), List.append_nil]
      exact kidsTo_skip d i a b (by omega) (fun j x y => hm j x (by omega))

/-- From one that stands in i to the next one. -/
theorem kids_step {d : Nat → Int} {n i m : Nat} (hi : i < n) (him : i < m) (hm : m < en d n i) (hd : d m = d i + 1) :
    m < en d n m ∧ en d n m ≤ en d n i ∧ kidsTo d i (en d n m) = kidsTo d i m ++ [m] ∧ (en d n m < en d n i → d (en d n m) = d i + 1) := by
  obtain ⟨e1, e2, e3, e4⟩ := en_spec d n i hi
  obtain ⟨g1, g2, g3, g4⟩ := en_spec d n m (by omega)
  have g5 := en_nest d n i m hi him hm
  refine ⟨g1, g5, ?_, fun h => ?_⟩
  · rw [kidsTo_skip d i (m + 1) (en d n m) (by omega) (fun j x y => by have := g3 j (by omega) y; omega), kidsTo_next, if_pos ⟨him, hd⟩]
  · have h1 := e3 (en d n m) (by omega) h
    rcases g4 with g4 | g4 <;> omega

theorem kids_first {d : Nat → Int} {n i : Nat} (hs : Shape d n) (hi : i < n) (h : i + 1 < en d n i) : d (i + 1) = d i + 1 := by
  obtain ⟨e1, e2, e3, e4⟩ := en_spec d n i hi
  have h1 := e3 (i + 1) (by omega) h
  have h2 := hs.step (i + 1) (by omega) (by omega)
  rw [Nat.add_sub_cancel] at h2
  omega

end Go.Proofs.Ytnmfgcdenngpfaa.Tree
