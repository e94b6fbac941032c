/- The document's Into, over a contract of its Past. -/
import Derived.Test.YtfomhdhiibcdfaaPart16
import Derived.Test.YtfomhdhiibcdfaaPart17
import Derived.Deep.CutBlock
namespace Go.Proofs.Ytfomhdhiibcdfaa.Ahead
open Go.RowKit Go.Sort Go.Proofs.Ytfomhdhiibcdfaa.More Go.Proofs.Ytfomhdhiibcdfaa.Record Go.Proofs.Ytfomhdhiibcdfaa.Script Go.Proofs.Ytfomhdhiibcdfaa.Tree Go.Proofs.Ytfomhdhiibcdfaa.Shelf Go.Proofs.Ytfomhdhiibcdfaa.Space Go.Proofs.Ytfomhdhiibcdfaa.Spot
set_option linter.unusedVariables false
set_option linter.unusedSimpArgs false

/-- What is said of a document's spot that a function answers. -/
def GivenR (x : Rp) (B : Nat) (w : World) (v : Value) : Prop := ∃ A n c, v = rpv x A n c ∧ Mine w B A n c x.ms
theorem given_keeps (x : Rp) (B : Nat) : Hold.Keeps (GivenR x B) := fun w w' u k ⟨A, n, c, e, h⟩ => ⟨A, n, c, e, h.below k⟩
theorem given_of {f : FuncId} {args : Array Value} {w : World} {x : Rp} {B : Nat} (hB : B ≤ w.heap.size) (h : Calls Try.prog f args w (GivesR w x)) :
    Calls Try.prog f args w fun e w' => ∃ u, e = .returned u ∧ GivenR x B w' u ∧ Below w.heap.size w w' :=
  h.mono fun e w' ⟨⟨A, n, c, he, hm⟩, hb⟩ => ⟨_, he, ⟨A, n, c, rfl, Mine.mono hm hB⟩, hb⟩

/-- How all lies in Into's loop. -/
structure InSt (w wx : World) (b7 : Nat) (b : Bx) (k : Rl) (A : Option Addr) (n c : Nat) : Prop where
  low : Below w.heap.size w wx
  look : Lies wx b7 (rlrow k A n c)
  out : Lies wx (b7 + 1) (rlrow zeroRl none 0 0)
  box : At wx (b7 + 2) b
  mine : Mine wx (b7 + 3) A n c k.x.ms

theorem hor_mine {w5 : World} {B C : Nat} {A' A : Option Addr} {n' n c' c : Nat} {msn ms : List Int} (hor : (A' = A ∧ n' = n ∧ c' = c ∧ msn = ms) ∨ Mine w5 C A' n' c' msn) (hm : Mine w5 B A n c ms) (hC : B ≤ C) : Mine w5 B A' n' c' msn := by
  rcases hor with ⟨rfl, rfl, rfl, rfl⟩ | h
  · exact hm
  · exact Mine.mono h hC

theorem InSt.below {w wx wy : World} {b7 : Nat} {b : Bx} {k : Rl} {A : Option Addr} {n c : Nat} (h : InSt w wx b7 b k A n c) (j : Below wx.heap.size wx wy) : InSt w wy b7 b k A n c :=
  ⟨thru h.low j, h.look.below (by simp) j, h.out.below (by simp) j, h.box.below h.box.lt j, h.mine.below j⟩
/-- The look is written anew, with a list that lies apart. -/
theorem InSt.onto {w wx wy : World} {b7 : Nat} {b : Bx} {k k' : Rl} {A A' : Option Addr} {n c n' c' : Nat} (h : InSt w wx b7 b k A n c) (hb : w.heap.size ≤ b7) (sv : Save (fun j => j = b7) wx wy) (hl : Lies wy b7 (rlrow k' A' n' c')) (hm : Mine wx (b7 + 3) A' n' c' k'.x.ms) : InSt w wy b7 b k' A' n' c' :=
  ⟨h.low.trans (sv.blw hb h.low.size), hl, h.out.save (by simp) sv (show ¬ b7 + 1 = b7 by omega), by
    have e : ∀ o, wy.cell? ⟨b7 + 2, o, none⟩ = wx.cell? ⟨b7 + 2, o, none⟩ := fun o => World.cell?_of_block (a := ⟨b7 + 2, o, none⟩) (sv.block _ h.box.lt (show ¬ b7 + 2 = b7 by omega))
    have hx := h.box
    unfold At at *
    simp only [e]
    exact hx, mine_save hm sv fun j hj e => by have := (hm.lt j hj).1; omega⟩
theorem InSt.cells {w wx : World} {b7 : Nat} {b : Bx} {k : Rl} {A : Option Addr} {n c : Nat} (h : InSt w wx b7 b k A n c) : LkAt wx b7 k A n c ∧ LkFr wx b7 ∧ LkAt wx (b7 + 1) zeroRl none 0 0 ∧ LkFr wx (b7 + 1) :=
  ⟨lkat_of h.look, lkfr_of h.look, lkat_of h.out, lkfr_of h.out⟩

theorem sorted_len : ∀ (l : List Nat) (a m : Nat), l.Pairwise (· < ·) → (∀ x ∈ l, a ≤ x ∧ x < m) → l.length ≤ m - a
  | [], _, _, _, _ => Nat.zero_le _
  | x :: l, a, m, hs, hb => by
    have h1 := List.pairwise_cons.1 hs
    have h2 := hb x (List.mem_cons_self ..)
    have h3 := sorted_len l (x + 1) m h1.2 fun z hz => ⟨h1.1 z hz, (hb z (List.mem_cons_of_mem _ hz)).2⟩
    simp only [List.length_cons]
    omega

end Go.Proofs.Ytfomhdhiibcdfaa.Ahead
