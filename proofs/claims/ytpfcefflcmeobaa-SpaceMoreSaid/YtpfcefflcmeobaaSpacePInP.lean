/- The program's spaces as they lie: a struct of twelve cells, a list of shelves, a row of floats. -/
import Derived.Test.YtpfcefflcmeobaaSpacePOk
import Derived.Test.YtpfcefflcmeobaaShelfSBandP
namespace Go.Proofs.Ytpfcefflcmeobaa.Space
open Go.RowKit Go.Sort Go.Proofs.Ytpfcefflcmeobaa.Rect Go.Proofs.Ytpfcefflcmeobaa.More Go.Proofs.Ytpfcefflcmeobaa.Shelf
set_option linter.unusedVariables false
set_option linter.unusedSimpArgs false

/-- A block whose cells are these, none of them frozen. -/
structure RowAt (w : World) (b : Nat) (xs : List Value) : Prop where
  at' : ∀ o, w.cell? ⟨b, o, none⟩ = xs[o]?
  frz : ∀ o, w.frozen? ⟨b, o, none⟩ = false

section
variable {w w' : World} {b : Nat} {xs : List Value}

theorem RowAt.lt (h : RowAt w b xs) (hn : 0 < xs.length) : b < w.heap.size := by
  have := h.at' 0
  rw [List.getElem?_eq_getElem hn] at this
  exact block_lt_of_cell this

theorem RowAt.kept (h : RowAt w b xs) (e : w'.heap[b]? = w.heap[b]?) : RowAt w' b xs :=
  ⟨fun o => (World.cell?_of_block (a := ⟨b, o, none⟩) e).trans (h.at' o), fun o => (World.frozen?_of_block (a := ⟨b, o, none⟩) e).trans (h.frz o)⟩

theorem RowAt.set (h : RowAt w b xs) (o : Nat) (v : Value) (ho : o < xs.length) : RowAt (w.setCell ⟨b, o, none⟩ v) b (xs.set o v) := by
  refine ⟨fun j => ?_, fun j => by rw [World.frozen?_setCell]; exact h.frz j⟩
  rw [List.getElem?_set]
  by_cases e : o = j
  · subst e
    rw [if_pos rfl, if_pos ho]
    have := h.at' o
    rw [List.getElem?_eq_getElem ho] at this
    exact World.cell?_setCell_same _ _ _ this
  · rw [if_neg e, ← h.at' j]
    exact World.cell?_setCell_other _ _ _ _ (by simp [e])

theorem RowAt.below (h : RowAt w b xs) (hn : 0 < xs.length) (k : Below w.heap.size w w') : RowAt w' b xs := h.kept (k.block b (h.lt hn))

theorem RowAt.but {G : Nat → Prop} (h : RowAt w b xs) (hn : 0 < xs.length) (k : But G w w') (hG : ¬ G b) : RowAt w' b xs := h.kept (k.block b (h.lt hn) hG)

theorem RowAt.new (w : World) (xs : List Value) (T : TypeId) : RowAt (w.alloc (.cells xs.toArray T)) w.heap.size xs := by
  refine ⟨fun o => ?_, fun o => by simp [go_sem]⟩
  rw [cell_of_row _ w.heap.size o xs.toArray T (0, 0) (heap_alloc_new w _)]
  simp

theorem mineE_but {α : Type} {E : Enc α} {T : TypeId} {B n c : Nat} {A : Option Addr} {xs : List α} {G : Nat → Prop} (h : MineE E T w B A n c xs) (k : But G w w') (hG : ∀ j, blk A = some j → ¬ G j) : MineE E T w' B A n c xs := by
  refine ⟨h.1, ?_⟩
  rcases h.2 with e | ⟨g, cap, cur, e, hb, hg, r⟩
  · exact .inl e
  · have hgl : g < w.heap.size := (Array.getElem?_eq_some_iff.1 hg).1
    have hA : blk A = some g := by injection e with e1 e2 e3; rw [e1]; rfl
    exact .inr ⟨g, cap, cur, e, hb, (k.block g hgl (hG g hA)).trans hg, r⟩

theorem lst_but {B pb g n c : Nat} {xs : List Sh} {G : Nat → Prop} (h : Lst w B pb g n c xs) (k : But G w w') (h1 : ¬ G pb) (h2 : ¬ G g) : Lst w' B pb g n c xs :=
  ⟨h.hb, (k.cell h.lt h1).trans h.cell, (k.frozen h.lt h1).trans h.frz, h.ne, mineE_but h.row k (fun j e => by injection e with e; rw [← e]; exact h2)⟩

end

/-- What a space's own block holds. -/
abbrev spaceRow (pb : Nat) (A : Option Addr) (m cA : Nat) (fs : List Fl) : List Value :=
  [.pointer (some ⟨pb, 0, none⟩), .slice A m cA, .int .i64 (lastD fs), .bool (decide (0 < fs.length)),
   .int .i64 (botS fs 0).1, .bool (botS fs 0).2, .int .i64 (botS fs 1).1, .bool (botS fs 1).2,
   .int .i64 (botS fs 2).1, .bool (botS fs 2).2, .int .i64 (botS fs 3).1, .bool (botS fs 3).2]

structure Spc (w : World) (sb pb g n c : Nat) (A : Option Addr) (cA : Nat) (fs : List Fl) : Prop where
  lst : Lst w 0 pb g n c (shelvesD fs)
  own : MineE encF 41 w 0 A fs.length cA fs
  row : RowAt w sb (spaceRow pb A fs.length cA fs)
  n1 : sb ≠ pb
  n2 : sb ≠ g
  n3 : ∀ k, blk A = some k → k ≠ sb ∧ k ≠ pb ∧ k ≠ g

/-- The blocks of a space. -/
abbrev spaceB (sb pb g : Nat) (A : Option Addr) : Nat → Prop := fun k => k = sb ∨ k = pb ∨ k = g ∨ blk A = some k

/-- A space of these floats. -/
def InP (w : World) (F : Nat → Prop) (p : Addr) (fs : List Fl) : Prop :=
  fs.length ≤ 1000 ∧ ∃ sb pb g n c A cA, p = ⟨sb, 0, none⟩ ∧ F = spaceB sb pb g A ∧ Spc w sb pb g n c A cA fs

theorem Spc.but {w w' : World} {sb pb g n c : Nat} {A : Option Addr} {cA : Nat} {fs : List Fl} {G : Nat → Prop} (h : Spc w sb pb g n c A cA fs) (k : But G w w') (hG : ∀ j, spaceB sb pb g A j → ¬ G j) : Spc w' sb pb g n c A cA fs :=
  ⟨lst_but h.lst k (hG pb (.inr (.inl rfl))) (hG g (.inr (.inr (.inl rfl)))), mineE_but h.own k (fun j e => hG j (.inr (.inr (.inr e)))), h.row.but (by simp) k (hG sb (.inl rfl)), h.n1, h.n2, h.n3⟩

theorem Spc.lt {w : World} {sb pb g n c : Nat} {A : Option Addr} {cA : Nat} {fs : List Fl} (h : Spc w sb pb g n c A cA fs) : ∀ j, spaceB sb pb g A j → j < w.heap.size := by
  rintro j (rfl | rfl | rfl | e)
  · exact h.row.lt (by simp)
  · exact h.lst.lt
  · exact h.lst.glt.2
  · exact (h.own.lt j e).2

theorem inP_keep {w w' : World} {F G : Nat → Prop} {p : Addr} {fs : List Fl} (h : InP w F p fs) (k : But G w w') (hG : ∀ j, F j → ¬ G j) : InP w' F p fs := by
  obtain ⟨hf, sb, pb, g, n, c, A, cA, rfl, rfl, hs⟩ := h
  exact ⟨hf, sb, pb, g, n, c, A, cA, rfl, rfl, hs.but k hG⟩

theorem inP_below {w w' : World} {F : Nat → Prop} {p : Addr} {fs : List Fl} (h : InP w F p fs) (k : Below w.heap.size w w') : InP w' F p fs :=
  inP_keep (G := fun _ => False) h (But.of_below k) (fun _ _ q => q)

theorem inP_lt {w : World} {F : Nat → Prop} {p : Addr} {fs : List Fl} (h : InP w F p fs) : ∀ j, F j → j < w.heap.size := by
  obtain ⟨hf, sb, pb, g, n, c, A, cA, rfl, rfl, hs⟩ := h
  exact hs.lt

/-- What a space's shelves are asked. -/
theorem inP_list {w : World} {F : Nat → Prop} {sb : Nat} {fs : List Fl} (h : InP w F ⟨sb, 0, none⟩ fs) : ∃ pb, w.cell? ⟨sb, 0, none⟩ = some (.pointer (some ⟨pb, 0, none⟩)) ∧ InL w 0 ⟨pb, 0, none⟩ fs := by
  obtain ⟨hf, sb', pb, g, n, c, A, cA, e, -, hs⟩ := h
  obtain rfl : sb = sb' := by injection e
  exact ⟨pb, hs.row.at' 0, hf, pb, g, n, c, rfl, hs.lst⟩

theorem inP_form {w : World} {F : Nat → Prop} {p : Addr} {fs : List Fl} (h : InP w F p fs) : ∃ sb, p = ⟨sb, 0, none⟩ := by
  obtain ⟨hf, sb, pb, g, n, c, A, cA, e, -⟩ := h
  exact ⟨sb, e⟩

theorem inP_row {w : World} {F : Nat → Prop} {sb : Nat} {fs : List Fl} (h : InP w F ⟨sb, 0, none⟩ fs) : ∃ pb A cA, RowAt w sb (spaceRow pb A fs.length cA fs) ∧ MineE encF 41 w 0 A fs.length cA fs := by
  obtain ⟨hf, sb', pb, g, n, c, A, cA, e, -, hs⟩ := h
  obtain rfl : sb = sb' := by injection e
  exact ⟨pb, A, cA, hs.row, hs.own⟩

/-! The greatest of some numbers, as the program keeps it. -/

def lowV (m : Int) (s : Bool) (y : Int) : Int := if !s || decide (m < y) then y else m

set_option maxRecDepth 100000 in
set_option maxHeartbeats 600000 in
theorem low_add (b o : Nat) (m y : Int) (s : Bool) (xs : List Value) (w : World) (h : RowAt w b xs) (h0 : xs[o]? = some (.int .i64 m)) (h1 : xs[o + 1]? = some (.bool s)) :
    Calls Try.prog 44 #[.pointer (some ⟨b, o, none⟩), .int .i64 y] w fun e w' => (∃ v, e = .returned v) ∧ RowAt w' b ((xs.set o (.int .i64 (lowV m s y))).set (o + 1) (.bool true)) ∧ But (fun k => k = b) w w' := by
  have hl0 : o < xs.length := (List.getElem?_eq_some_iff.1 h0).1
  have hl1 : o + 1 < xs.length := (List.getElem?_eq_some_iff.1 h1).1
  have c0 := (h.at' o).trans h0
  have c1 := (h.at' (o + 1)).trans h1
  have f0 := h.frz o
  have f1 := h.frz (o + 1)
  have HR := Lib.hid h
  have HS := Lib.hid (fun v => ((h.set o (.int .i64 v) hl0).set (o + 1) (.bool true) (by rw [List.length_set]; exact hl1)))
  have hsame : xs.set o (.int .i64 m) = xs := by
    apply List.ext_getElem?
    intro i
    rw [List.getElem?_set]
    split
    · next e => subst e; rw [h0]
    · rfl
  have hsame1 : s = true → (xs.set o (.int .i64 m)).set (o + 1) (.bool true) = xs := by
    intro e
    rw [hsame]
    apply List.ext_getElem?
    intro i
    rw [List.getElem?_set]
    split
    · next e2 => subst e2; rw [h1, e]
    · rfl
  have HSame := Lib.hid hsame1
  have hbut : ∀ v, But (fun k => k = b) w ((w.setCell ⟨b, o, none⟩ (.int .i64 v)).setCell ⟨b, o + 1, none⟩ (.bool true)) := fun v =>
    (But.set (S := fun k => k = b) b o (.int .i64 v) rfl).trans (But.set (S := fun k => k = b) b (o + 1) (.bool true) rfl) (fun _ _ q => q)
  have HB := Lib.hid hbut
  clear h h0 h1 hsame hsame1 hbut
  cases s
  · go_enter Try.func44, Try.ntmps44
    go_wp2_with fail
    go_end0
    exact ⟨⟨_, rfl⟩, HS.out y, HB.out y⟩
  · by_cases hy : m < y
    · go_enter Try.func44, Try.ntmps44
      go_wp2_with fail
      go_end0
      refine ⟨⟨_, rfl⟩, ?_, HB.out y⟩
      rw [show lowV m true y = y by unfold lowV; simp [hy]]
      exact HS.out y
    · go_enter Try.func44, Try.ntmps44
      go_wp2_with fail
      go_end0
      refine ⟨⟨_, rfl⟩, ?_, But.of_below (Below.refl _ _)⟩
      rw [show lowV m true y = m by unfold lowV; simp; omega, HSame.out trivial]
      exact HR.out

set_option maxRecDepth 100000 in
set_option maxHeartbeats 1000000 in
theorem pnew_any (w : World) : Calls Try.prog 30 #[] w fun r w' => (∃ p F, r = .returned (.pointer (some p)) ∧ InP w' F p [] ∧ ∀ k, F k → w.heap.size ≤ k) ∧ Below w.heap.size w w' := by
  have HN := Lib.hid (Shelf.new_any w)
  go_enter Try.func30, Try.ntmps30
  go_wp2_with (first
    | (go_at_call 42; refine HN.out.mono ?_; rintro e w1 ⟨⟨p, rfl, ⟨-, pb, g, n, c, rfl, hl⟩⟩, k1⟩; have HL := Lib.hid (⟨hl, k1⟩ : Lst w1 w.heap.size pb g n c (shelvesD []) ∧ Below w.heap.size w w1); clear hl k1))
  go_ret
  have hl := HL.out.1
  have h1 := hl.lt
  have h2 := hl.glt
  have h3 := hl.hb
  have hk := HL.out.2.size
  refine ⟨⟨_, _, rfl, ⟨Nat.zero_le _, w1.heap.size, pb, g, n, c, none, 0, rfl, rfl, ?_⟩, ?_⟩, thru HL.out.2 (ba1 w1 _)⟩
  · have hl2 : Lst (w1.alloc (.cells (spaceRow pb none 0 0 []).toArray 74)) 0 pb g n c (shelvesD []) := by
      have := hl.below (ba1 w1 (.cells (spaceRow pb none 0 0 []).toArray 74))
      exact ⟨Nat.zero_le _, this.cell, this.frz, this.ne, this.row.mono (Nat.zero_le _)⟩
    exact ⟨hl2, noneE_mine _ _ _ _, RowAt.new w1 (spaceRow pb none 0 0 []) 74, by omega, by omega, fun k e => by cases e⟩
  · rintro k (rfl | rfl | rfl | e)
    · exact hk
    · exact h3
    · exact h2.1
    · cases e

end Go.Proofs.Ytpfcefflcmeobaa.Space
