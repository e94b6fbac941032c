/- Texts of this proof that follow each other, in one file. -/
import Derived.Test.YtfomhdhiibcdfaaPart9
import Derived.Test.YtfomhdhiibcdfaaPart15
import Derived.Test.YtfomhdhiibcdfaaPart13
import Derived.Test.YtfomhdhiibcdfaaPart11
/-! The contracts of the document's answers about a space. -/
namespace Go.Proofs.Ytfomhdhiibcdfaa.Space
open Go.RowKit Go.Sort Go.Proofs.Ytfomhdhiibcdfaa.Rect Go.Proofs.Ytfomhdhiibcdfaa.Shelf

end Go.Proofs.Ytfomhdhiibcdfaa.Space

/-! Looks as they lie in memory; which clears clear a look's sides, in the document's words. -/
namespace Go.Proofs.Ytfomhdhiibcdfaa.Ahead
open Go.RowKit Go.Sort Go.Proofs.Ytfomhdhiibcdfaa.More Go.Proofs.Ytfomhdhiibcdfaa.Record Go.Proofs.Ytfomhdhiibcdfaa.Script Go.Proofs.Ytfomhdhiibcdfaa.Tree Go.Proofs.Ytfomhdhiibcdfaa.Shelf Go.Proofs.Ytfomhdhiibcdfaa.Space Go.Proofs.Ytfomhdhiibcdfaa.Spot
set_option linter.unusedVariables false
set_option linter.unusedSimpArgs false

abbrev rlv (k : Rl) (A : Option Addr) (n c : Nat) : Value := .agg #[.int .i64 k.x.y, .slice A n c, .bool k.x.h, .bool k.x.s, .bool k.l, .bool k.r, .bool k.e]
abbrev rlrow (k : Rl) (A : Option Addr) (n c : Nat) : List Value := [.int .i64 k.x.y, .slice A n c, .bool k.x.h, .bool k.x.s, .bool k.l, .bool k.r, .bool k.e]
abbrev zeroRl : Rl := ⟨zeroRp, false, false, false⟩
def LkAt (w : World) (b : Nat) (k : Rl) (A : Option Addr) (n c : Nat) : Prop :=
  w.cell? ⟨b, 0, none⟩ = some (.int .i64 k.x.y) ∧ w.cell? ⟨b, 1, none⟩ = some (.slice A n c) ∧ w.cell? ⟨b, 2, none⟩ = some (.bool k.x.h) ∧ w.cell? ⟨b, 3, none⟩ = some (.bool k.x.s) ∧
  w.cell? ⟨b, 4, none⟩ = some (.bool k.l) ∧ w.cell? ⟨b, 5, none⟩ = some (.bool k.r) ∧ w.cell? ⟨b, 6, none⟩ = some (.bool k.e)
theorem lkat_of {w : World} {b : Nat} {k : Rl} {A : Option Addr} {n c : Nat} (h : Lies w b (rlrow k A n c)) : LkAt w b k A n c := ⟨h.at' 0, h.at' 1, h.at' 2, h.at' 3, h.at' 4, h.at' 5, h.at' 6⟩
def LkFr (w : World) (b : Nat) : Prop :=
  w.frozen? ⟨b, 0, none⟩ = false ∧ w.frozen? ⟨b, 1, none⟩ = false ∧ w.frozen? ⟨b, 2, none⟩ = false ∧ w.frozen? ⟨b, 3, none⟩ = false ∧ w.frozen? ⟨b, 4, none⟩ = false ∧ w.frozen? ⟨b, 5, none⟩ = false ∧ w.frozen? ⟨b, 6, none⟩ = false
theorem lkfr_of {w : World} {b : Nat} {xs : List Value} (h : Lies w b xs) : LkFr w b := ⟨h.frz 0, h.frz 1, h.frz 2, h.frz 3, h.frz 4, h.frz 5, h.frz 6⟩
theorem lies_seven {w : World} {b : Nat} {a0 a1 a2 a3 a4 a5 a6 : Value} (h : Lies w b [a0, a1, a2, a3, a4, a5, a6]) (v0 v1 v2 v3 v4 v5 v6 : Value) : Lies (((((((w.setCell ⟨b, 0, none⟩ v0).setCell ⟨b, 1, none⟩ v1).setCell ⟨b, 2, none⟩ v2).setCell ⟨b, 3, none⟩ v3).setCell ⟨b, 4, none⟩ v4).setCell ⟨b, 5, none⟩ v5).setCell ⟨b, 6, none⟩ v6) b [v0, v1, v2, v3, v4, v5, v6] :=
  ((((((h.set 0 v0 (by simp)).set 1 v1 (by simp)).set 2 v2 (by simp)).set 3 v3 (by simp)).set 4 v4 (by simp)).set 5 v5 (by simp)).set 6 v6 (by simp)
theorem save_seven (w : World) (b : Nat) (v0 v1 v2 v3 v4 v5 v6 : Value) : Save (fun k => k = b) w (((((((w.setCell ⟨b, 0, none⟩ v0).setCell ⟨b, 1, none⟩ v1).setCell ⟨b, 2, none⟩ v2).setCell ⟨b, 3, none⟩ v3).setCell ⟨b, 4, none⟩ v4).setCell ⟨b, 5, none⟩ v5).setCell ⟨b, 6, none⟩ v6) :=
  ((((((Save.set b 0 v0).onto 1 v1).onto 2 v2).onto 3 v3).onto 4 v4).onto 5 v5).onto 6 v6

/-- What Into leaves: a look with a list of margins of its own. -/
def GivesI (w : World) (k : Rl) (e : Ending) (w' : World) : Prop := (∃ A n c, e = .returned (rlv k A n c) ∧ Mine w' w.heap.size A n c k.x.ms) ∧ Below w.heap.size w w'
/-- What Past leaves: a look with such a list, or with the one that came in. -/
def GivesP (w : World) (A : Option Addr) (n c : Nat) (ms : List Int) (k : Rl) (e : Ending) (w' : World) : Prop := (∃ A' n' c', e = .returned (rlv k A' n' c') ∧ ((A' = A ∧ n' = n ∧ c' = c ∧ k.x.ms = ms) ∨ Mine w' w.heap.size A' n' c' k.x.ms)) ∧ Below w.heap.size w w'

/-- The boxes of a tree, as far as looks look at them. -/
structure Wood (bs : List Bx) : Prop where
  len : bs.length ≤ 100
  marg : Marg bs
  kind : ∀ i, i < bs.length → 1 ≤ (bs.getD i noB).k ∧ (bs.getD i noB).k ≤ 5
  clr : ∀ i, i < bs.length → 0 ≤ (bs.getD i noB).c ∧ (bs.getD i noB).c ≤ 3
  deep : ∀ k, k < bs.length → 0 ≤ dOf bs k ∧ dOf bs k ≤ 256
  hei : ∀ i, i < bs.length → -1 ≤ (bs.getD i noB).h
  side : ∀ i, i < bs.length → (bs.getD i noB).k = 2 → (bs.getD i noB).s = 1 ∨ (bs.getD i noB).s = 2
  shape : 0 < bs.length → Shape (dOf bs) bs.length

set_option maxHeartbeats 800000 in
theorem hrclears_any (cl : Int) (hc : 0 ≤ cl ∧ cl ≤ 3) (k : Rl) (A : Option Addr) (n c : Nat) (w : World) :
    Calls Try.prog 8 #[.int .i64 cl, rlv k A n c] w fun e w' => e = .returned (.bool (clrL cl k.l k.r)) ∧ Below w.heap.size w w' := by
  obtain ⟨⟨y, ms, h, s⟩, l, r, e⟩ := k
  have h4 : cl = 0 ∨ cl = 1 ∨ cl = 2 ∨ cl = 3 := by omega
  dsimp only
  rcases h4 with rfl | rfl | rfl | rfl <;> cases l <;> cases r
  all_goals
    go_enter Try.func8, Try.ntmps8
    go_wp2_with fail
    go_ret
    exact ⟨rfl, ba1 _ _⟩

theorem hrclears_is {cl : Int} (hc : 0 ≤ cl ∧ cl ≤ 3) {k : Rl} {v : Bool} (hv : clrL cl k.l k.r = v) (A : Option Addr) (n c : Nat) (w : World) :
    Calls Try.prog 8 #[.int .i64 cl, rlv k A n c] w fun e w' => e = .returned (.bool v) ∧ Below w.heap.size w w' := by
  subst hv; exact hrclears_any cl hc k A n c w

end Go.Proofs.Ytfomhdhiibcdfaa.Ahead
