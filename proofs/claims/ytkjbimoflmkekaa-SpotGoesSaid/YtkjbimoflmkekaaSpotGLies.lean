/- Blocks whose cells are known, and what a store of one's own leaves. -/
import Derived.Test.YtkjbimoflmkekaaRow
import Derived.Laws.Rows
namespace Go.Proofs.Ytkjbimoflmkekaa.Spot
open Go.RowKit Go.Sort
set_option linter.unusedVariables false
set_option linter.unusedSimpArgs false

/-- A block whose cells are these, none of them frozen. -/
structure Lies (w : World) (b : Nat) (xs : List Value) : Prop where
  at' : ∀ o, w.cell? ⟨b, o, none⟩ = xs[o]?
  frz : ∀ o, w.frozen? ⟨b, o, none⟩ = false

/-- Nothing that lay there is turned, but in some blocks. -/
structure Save (S : Nat → Prop) (w w' : World) : Prop where
  os : w'.os = w.os
  tape : w'.tape = w.tape
  output : w'.output = w.output
  size : w.heap.size ≤ w'.heap.size
  block : ∀ k, k < w.heap.size → ¬ S k → w'.heap[k]? = w.heap[k]?

section
variable {w w' w'' : World} {b : Nat} {xs : List Value} {S S' : Nat → Prop}

theorem Lies.lt (h : Lies w b xs) (hn : 0 < xs.length) : b < w.heap.size := by
  have := h.at' 0
  rw [List.getElem?_eq_getElem hn] at this
  exact block_lt_of_cell this

theorem Lies.kept (h : Lies w b xs) (e : w'.heap[b]? = w.heap[b]?) : Lies w' b xs :=
  ⟨fun o => (World.cell?_of_block (a := ⟨b, o, none⟩) e).trans (h.at' o), fun o => (World.frozen?_of_block (a := ⟨b, o, none⟩) e).trans (h.frz o)⟩

theorem Lies.set (h : Lies w b xs) (o : Nat) (v : Value) (ho : o < xs.length) : Lies (w.setCell ⟨b, o, none⟩ v) b (xs.set o v) := by
  refine ⟨fun j => ?_, fun j => by rw [World.frozen?_setCell]; exact h.frz j⟩
  rw [List.getElem?_set]
  by_cases e : o = j
  · subst e
    rw [if_pos rfl, if_pos ho]
    have := h.at' o
    rw [List.getElem?_eq_getElem ho] at this
    exact World.cell?_setCell_same _ _ _ this
  · rw [if_neg e, ← h.at' j]
    exact World.cell?_setCell_other _ _ _ _ (by simp [e])

theorem Lies.below (h : Lies w b xs) (hn : 0 < xs.length) (k : Below w.heap.size w w') : Lies w' b xs := h.kept (k.block b (h.lt hn))
theorem Lies.save (h : Lies w b xs) (hn : 0 < xs.length) (k : Save S w w') (hs : ¬ S b) : Lies w' b xs := h.kept (k.block b (h.lt hn) hs)

theorem Lies.new (w : World) (xs : List Value) (T : TypeId) : Lies (w.alloc (.cells xs.toArray T)) w.heap.size xs := by
  refine ⟨fun o => ?_, fun o => by simp [go_sem]⟩
  rw [cell_of_row _ w.heap.size o xs.toArray T (0, 0) (heap_alloc_new w _)]
  simp

theorem Save.refl (S : Nat → Prop) (w : World) : Save S w w := ⟨rfl, rfl, rfl, Nat.le_refl _, fun _ _ _ => rfl⟩
theorem Save.of_below (h : Below w.heap.size w w') : Save S w w' := ⟨h.os, h.tape, h.output, h.size, fun k hk _ => h.block k hk⟩
theorem Save.trans (h : Save S w w') (k : Save S' w' w'') (hs : ∀ j, j < w.heap.size → S' j → S j) : Save S w w'' :=
  ⟨k.os.trans h.os, k.tape.trans h.tape, k.output.trans h.output, Nat.le_trans h.size k.size, fun j hj hn => (k.block j (Nat.lt_of_lt_of_le hj h.size) (fun q => hn (hs j hj q))).trans (h.block j hj hn)⟩
theorem Save.below {B : Nat} (h : Save S w w') (hB : B ≤ w.heap.size) (hs : ∀ k, S k → B ≤ k) : Below B w w' :=
  ⟨h.os, h.tape, h.output, h.size, fun k hk => h.block k (by omega) (fun q => by have := hs k q; omega)⟩
theorem Save.set (b o : Nat) (v : Value) : Save (fun k => k = b) w (w.setCell ⟨b, o, none⟩ v) :=
  ⟨rfl, rfl, rfl, by simp [World.setCell], fun k _ hk => Below.heap_setCell _ _ _ k (fun e => hk e)⟩
theorem Save.onto (h : Save (fun k => k = b) w w') (o : Nat) (v : Value) : Save (fun k => k = b) w (w'.setCell ⟨b, o, none⟩ v) := h.trans (Save.set b o v) (fun _ _ h => h)

theorem Save.set_in (b o : Nat) (v : Value) (hb : S b) : Save S w (w.setCell ⟨b, o, none⟩ v) := ⟨rfl, rfl, rfl, by simp [World.setCell], fun k _ hk => Below.heap_setCell _ _ _ k (fun e => hk (e ▸ hb))⟩

/-- Five cells written anew, and four. -/
theorem Lies.five {a0 a1 a2 a3 a4 : Value} (h : Lies w b [a0, a1, a2, a3, a4]) (v0 v1 v2 v3 v4 : Value) : Lies (((((w.setCell ⟨b, 0, none⟩ v0).setCell ⟨b, 1, none⟩ v1).setCell ⟨b, 2, none⟩ v2).setCell ⟨b, 3, none⟩ v3).setCell ⟨b, 4, none⟩ v4) b [v0, v1, v2, v3, v4] :=
  ((((h.set 0 v0 (by simp)).set 1 v1 (by simp)).set 2 v2 (by simp)).set 3 v3 (by simp)).set 4 v4 (by simp)
theorem Lies.four {a0 a1 a2 a3 : Value} (h : Lies w b [a0, a1, a2, a3]) (v0 v1 v2 v3 : Value) : Lies ((((w.setCell ⟨b, 0, none⟩ v0).setCell ⟨b, 1, none⟩ v1).setCell ⟨b, 2, none⟩ v2).setCell ⟨b, 3, none⟩ v3) b [v0, v1, v2, v3] :=
  (((h.set 0 v0 (by simp)).set 1 v1 (by simp)).set 2 v2 (by simp)).set 3 v3 (by simp)
theorem Save.five (w : World) (b : Nat) (v0 v1 v2 v3 v4 : Value) : Save (fun k => k = b) w (((((w.setCell ⟨b, 0, none⟩ v0).setCell ⟨b, 1, none⟩ v1).setCell ⟨b, 2, none⟩ v2).setCell ⟨b, 3, none⟩ v3).setCell ⟨b, 4, none⟩ v4) :=
  ((((Save.set b 0 v0).onto 1 v1).onto 2 v2).onto 3 v3).onto 4 v4
theorem Save.four (w : World) (b : Nat) (v0 v1 v2 v3 : Value) : Save (fun k => k = b) w ((((w.setCell ⟨b, 0, none⟩ v0).setCell ⟨b, 1, none⟩ v1).setCell ⟨b, 2, none⟩ v2).setCell ⟨b, 3, none⟩ v3) :=
  (((Save.set b 0 v0).onto 1 v1).onto 2 v2).onto 3 v3
theorem Save.blw {B : Nat} (h : Save (fun k => k = b) w w') (hB : B ≤ b) (hw : B ≤ w.heap.size) : Below B w w' := h.below hw fun k hk => by rw [hk]; exact hB

/-- Two new blocks. -/
theorem two_news (w : World) (T T2 : TypeId) (xs ys : List Value) (hx : 0 < xs.length) :
    Lies ((w.alloc (.cells xs.toArray T)).alloc (.cells ys.toArray T2)) w.heap.size xs ∧ Lies ((w.alloc (.cells xs.toArray T)).alloc (.cells ys.toArray T2)) (w.heap.size + 1) ys ∧ Below w.heap.size w ((w.alloc (.cells xs.toArray T)).alloc (.cells ys.toArray T2)) := by
  have m2 := Lies.new (w.alloc (.cells xs.toArray T)) ys T2
  rw [show (w.alloc (.cells xs.toArray T)).heap.size = w.heap.size + 1 by simp] at m2
  exact ⟨(Lies.new w xs T).below hx (ba1 _ _), m2, ba2 _ _ _⟩

theorem Save.onto_in (h : Save S w w') (b o : Nat) (v : Value) (hb : S b) : Save S w (w'.setCell ⟨b, o, none⟩ v) := h.trans (Save.set_in b o v hb) (fun _ _ h => h)

theorem mine_save {B n c : Nat} {A : Option Addr} {xs : List Int} (h : Mine w B A n c xs) (k : Save S w w') (hS : ∀ j, blk A = some j → ¬ S j) : Mine w' B A n c xs := by
  refine ⟨h.1, ?_⟩
  rcases h.2 with e | ⟨g, cap, cur, e, hb, hg, r⟩
  · exact .inl e
  · have hgl : g < w.heap.size := (Array.getElem?_eq_some_iff.1 hg).1
    have hA : blk A = some g := by injection e with e1 e2 e3; rw [e1]; rfl
    exact .inr ⟨g, cap, cur, e, hb, (k.block g hgl (hS g hA)).trans hg, r⟩

theorem Mine.mono {B C n c : Nat} {A : Option Addr} {xs : List Int} (h : Mine w B A n c xs) (hC : C ≤ B) : Mine w C A n c xs := by
  refine ⟨h.1, ?_⟩
  rcases h.2 with e | ⟨g, cap, cur, e, hb, r⟩
  · exact .inl e
  · exact .inr ⟨g, cap, cur, e, Nat.le_trans hC hb, r⟩

theorem mine_none (w : World) (B : Nat) : Mine w B none 0 0 [] := ⟨rfl, .inl ⟨rfl, rfl⟩⟩

end

end Go.Proofs.Ytkjbimoflmkekaa.Spot
