/- The contract of Put. -/
import Derived.Test.YtpfcefflcmeobaaSpacePAsk
namespace Go.Proofs.Ytpfcefflcmeobaa.Space
open Go.RowKit Go.Sort Go.Proofs.Ytpfcefflcmeobaa.Rect Go.Proofs.Ytpfcefflcmeobaa.More Go.Proofs.Ytpfcefflcmeobaa.Shelf
set_option linter.unusedVariables false
set_option linter.unusedSimpArgs false

theorem botS_some (fs : List Fl) (f : Fl) (c : Int) (h : clrB c f.s = true) : botS (fs ++ [f]) c = (lowV (botS fs c).1 (botS fs c).2 f.b, true) := by
  rw [botS_snoc]
  unfold botStep lowV
  rw [h, Bool.true_and]
  cases e : (botS fs c).2
  · simp
  · by_cases q : (botS fs c).1 < f.b
    · simp [q]
    · simp only [Bool.not_true, Bool.false_or, decide_eq_true_eq, q, if_false]
      rw [← e]

theorem botS_not (fs : List Fl) (f : Fl) (c : Int) (h : clrB c f.s = false) : botS (fs ++ [f]) c = botS fs c := by
  rw [botS_snoc]
  unfold botStep
  rw [h, Bool.false_and]
  rfl

theorem lastD_low (fs : List Fl) (f : Fl) : lastD (fs ++ [f]) = lowV (lastD fs) (decide (0 < fs.length)) f.t := by
  rw [lastD_snoc]
  unfold lowV
  cases fs with
  | nil => rfl
  | cons g gs =>
    simp only [List.length_cons]
    by_cases q : lastD (g :: gs) < f.t
    · simp [q]; omega
    · simp [q]; omega

theorem put_left (pb : Nat) (A : Option Addr) (m c : Nat) (fs : List Fl) (f : Fl) (h : f.s = 1) :
    ((((((spaceRow pb A m c fs).set 2 (.int .i64 (lowV (lastD fs) (decide (0 < fs.length)) f.t))).set 3 (.bool true)).set 6 (.int .i64 (lowV (botS fs 1).1 (botS fs 1).2 f.b))).set 7 (.bool true)).set 10 (.int .i64 (lowV (botS fs 3).1 (botS fs 3).2 f.b))).set 11 (.bool true) = spaceRow pb A m c (fs ++ [f]) := by
  have e1 := botS_some fs f 1 (by unfold clrB; rw [h]; rfl)
  have e2 := botS_not fs f 2 (by unfold clrB; rw [h]; rfl)
  have e3 := botS_some fs f 3 (by unfold clrB; rfl)
  simp [spaceRow, botS_none, e1, e2, e3, lastD_low]

theorem put_right (pb : Nat) (A : Option Addr) (m c : Nat) (fs : List Fl) (f : Fl) (h : f.s = 2) :
    ((((((spaceRow pb A m c fs).set 2 (.int .i64 (lowV (lastD fs) (decide (0 < fs.length)) f.t))).set 3 (.bool true)).set 8 (.int .i64 (lowV (botS fs 2).1 (botS fs 2).2 f.b))).set 9 (.bool true)).set 10 (.int .i64 (lowV (botS fs 3).1 (botS fs 3).2 f.b))).set 11 (.bool true) = spaceRow pb A m c (fs ++ [f]) := by
  have e1 := botS_not fs f 1 (by unfold clrB; rw [h]; rfl)
  have e2 := botS_some fs f 2 (by unfold clrB; rw [h]; rfl)
  have e3 := botS_some fs f 3 (by unfold clrB; rfl)
  simp [spaceRow, botS_none, e1, e2, e3, lastD_low]

theorem but_grown {w w' : World} {row : Option Nat} (h : w.grownBy w' row) : But (fun k => row = some k) w w' :=
  ⟨h.os, h.tape, h.output, h.size, fun k hk hs => h.block k hk (fun e => hs (by first | exact e | exact e.symm))⟩

/-- The list's and the row's rest, while the space's block is written to. -/
structure Rest (w0 w : World) (sb rb pb g n c : Nat) (A : Option Addr) (cA : Nat) (fs : List Fl) (G : Nat → Prop) (t b : Int) : Prop where
  lst : Lst w 0 pb g n c (shelvesD fs)
  own : MineE encF 41 w 0 A fs.length cA fs
  n1 : sb ≠ pb
  n2 : sb ≠ g
  n3 : ∀ k, blk A = some k → k ≠ sb ∧ k ≠ pb ∧ k ≠ g
  but : But G w0 w
  c1 : w.cell? ⟨rb, 1, none⟩ = some (.int .i64 t)
  c3 : w.cell? ⟨rb, 3, none⟩ = some (.int .i64 b)
  hr : rb ≠ sb

theorem Rest.low {w0 w w' : World} {sb rb pb g n c : Nat} {A : Option Addr} {cA : Nat} {fs : List Fl} {G : Nat → Prop} {t b : Int} (h : Rest w0 w sb rb pb g n c A cA fs G t b) (k : But (fun j => j = sb) w w') (hG : G sb) : Rest w0 w' sb rb pb g n c A cA fs G t b :=
  ⟨lst_but h.lst k (fun e => h.n1 e.symm) (fun e => h.n2 e.symm), mineE_but h.own k (fun j e q => (h.n3 j e).1 q), h.n1, h.n2, h.n3, h.but.trans k (fun j _ e => by rw [e]; exact hG),
    (k.cell (block_lt_of_cell h.c1) h.hr).trans h.c1, (k.cell (block_lt_of_cell h.c3) h.hr).trans h.c3, h.hr⟩

theorem Rest.below {w0 w w' : World} {sb rb pb g n c : Nat} {A : Option Addr} {cA : Nat} {fs : List Fl} {G : Nat → Prop} {t b : Int} (h : Rest w0 w sb rb pb g n c A cA fs G t b) (k : Below w.heap.size w w') : Rest w0 w' sb rb pb g n c A cA fs G t b :=
  ⟨h.lst.below k, h.own.below k, h.n1, h.n2, h.n3, h.but.trans (But.of_below (S := fun _ => False) k) (fun _ _ e => e.elim), (k.cell (p := ⟨rb, 1, none⟩) (block_lt_of_cell h.c1)).trans h.c1, (k.cell (p := ⟨rb, 3, none⟩) (block_lt_of_cell h.c3)).trans h.c3, h.hr⟩

end Go.Proofs.Ytpfcefflcmeobaa.Space
