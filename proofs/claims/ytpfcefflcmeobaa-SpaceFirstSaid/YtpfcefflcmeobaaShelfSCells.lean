/- Rows of one's own written to in place: copied into, cleared, appended to ahead of their end; a cut row. -/
import Derived.Test.YtpfcefflcmeobaaShelfSRefs5
import Derived.Lib.AppendZerosOnto
import Derived.Lib.Overlaps
import Derived.Laws.Externs
namespace Go.Proofs.Ytpfcefflcmeobaa.Shelf
open Go.RowKit Go.Sort Go.Proofs.Ytpfcefflcmeobaa.Rect Go.Proofs.Ytpfcefflcmeobaa.More
set_option linter.unusedVariables false

section
variable {α : Type} {E : Enc α} {T : TypeId} {w w' : World} {B g n c : Nat} {xs : List α}

theorem flat_take (E : Enc α) (xs : List α) (k : Nat) : (xs.take k).flatMap E.cells = (xs.flatMap E.cells).take (k * E.size) := by
  induction xs generalizing k with
  | nil => simp
  | cons x xs ih =>
    cases k with
    | zero => simp
    | succ k =>
      rw [List.take_succ_cons, List.flatMap_cons, List.flatMap_cons, ih, List.take_append, E.len, List.take_of_length_le (l := E.cells x) (by rw [E.len, Nat.add_mul, Nat.one_mul]; omega), Nat.add_mul, Nat.one_mul, Nat.add_sub_cancel]
theorem flat_drop (E : Enc α) (xs : List α) (k : Nat) : (xs.drop k).flatMap E.cells = (xs.flatMap E.cells).drop (k * E.size) := by
  induction xs generalizing k with
  | nil => simp
  | cons x xs ih =>
    cases k with
    | zero => simp
    | succ k =>
      rw [List.drop_succ_cons, List.flatMap_cons, ih, List.drop_append, E.len, List.drop_of_length_le (l := E.cells x) (by rw [E.len, Nat.add_mul, Nat.one_mul]; omega), List.nil_append, Nat.add_mul, Nat.one_mul, Nat.add_sub_cancel]

theorem mine_block (h : MineE E T w B (some ⟨g, 0, none⟩) n c xs) : ∃ cur : Array Value, w.heap[g]? = some (.cells cur T (0, 0)) ∧ B ≤ g ∧ n ≤ c ∧ c ≤ maxLen ∧ cur.size = c * E.size ∧ cur.toList.take (n * E.size) = xs.flatMap E.cells := by
  rcases h.2 with ⟨h', _⟩ | ⟨g', cap', cur, h', hb, hg, hnc, hcm, hcs, htake⟩
  · simp at h'
  · simp only [Value.slice.injEq, Option.some.injEq, Addr.mk.injEq, and_true, true_and] at h'
    obtain ⟨rfl, rfl⟩ := h'
    exact ⟨cur, hg, hb, hnc, hcm, hcs, htake⟩

theorem mine_of {cur : Array Value} (hg : w.heap[g]? = some (.cells cur T (0, 0))) (hb : B ≤ g) (hn : n ≤ c) (hm : c ≤ maxLen) (hs : cur.size = c * E.size) (ht : cur.toList.take (n * E.size) = xs.flatMap E.cells) (hl : xs.length = n) :
    MineE E T w B (some ⟨g, 0, none⟩) n c xs := ⟨by rw [E.flat_len, hl], .inr ⟨g, c, cur, rfl, hb, hg, hn, hm, hs, ht⟩⟩

/-- A row, cut. -/
theorem mine_trunc (h : MineE E T w B (some ⟨g, 0, none⟩) n c xs) {k : Nat} (hk : k ≤ n) : MineE E T w B (some ⟨g, 0, none⟩) k c (xs.take k) := by
  obtain ⟨cur, h1, h2, h3, h4, h5, h6⟩ := mine_block h
  have hl := h.len
  refine mine_of h1 h2 (by omega) h4 h5 ?_ (by rw [List.length_take]; omega)
  rw [flat_take, ← h6, List.take_take, Nat.min_eq_left (Nat.mul_le_mul_right _ hk)]

/-- Some are written over, or behind. -/
theorem mine_splice (h : MineE E T w B (some ⟨g, 0, none⟩) n c xs) (o : Nat) (ys : List α) (ho : o ≤ n) (hc : o + ys.length ≤ c) :
    ∃ w', (storeCells ⟨g, o * E.size, none⟩ (ys.flatMap E.cells)).run Try.prog w = .ok () w' ∧ MineE E T w' B (some ⟨g, 0, none⟩) (max n (o + ys.length)) c (xs.take o ++ ys ++ xs.drop (o + ys.length)) ∧ w.grownBy w' (some g) := by
  obtain ⟨cur, h1, h2, h3, h4, h5, h6⟩ := mine_block h
  have hl := h.len
  have hfl : (ys.flatMap E.cells).length = ys.length * E.size := E.flat_len ys
  have hfit : (o + ys.length) * E.size ≤ c * E.size := Nat.mul_le_mul_right _ hc
  rw [Nat.add_mul] at hfit
  have hst := run_storeCells_at Try.prog g (o * E.size) T (ys.flatMap E.cells) 0 cur w h1 (by rw [hfl, h5]; omega) (E.flat_cells ys)
  rw [Nat.add_zero, hfl] at hst
  refine ⟨_, hst, ?_, ⟨rfl, rfl, rfl, by simp, fun k _ hk => setRow_other w g k _ (fun e => hk (by simp [e]))⟩⟩
  have hos : o * E.size ≤ n * E.size := Nat.mul_le_mul_right _ ho
  have hcl : cur.toList.length = c * E.size := by rw [Array.length_toList]; exact h5
  refine mine_of (setRow_heap w g cur _ T _ h1) h2 (by omega) h4 ?_ ?_ ?_
  · simp only [List.size_toArray, List.length_append, List.length_take, List.length_drop, hcl, hfl]
    omega
  · rw [List.toList_toArray, List.flatMap_append, List.flatMap_append, flat_take, flat_drop, ← h6, List.take_take, Nat.min_eq_left hos]
    have e1 : (cur.toList.take (o * E.size) ++ ys.flatMap E.cells).length = (o + ys.length) * E.size := by
      rw [List.length_append, List.length_take, hcl, hfl, Nat.add_mul]; omega
    rw [List.take_append, e1, List.take_of_length_le (by rw [e1]; exact Nat.mul_le_mul_right _ (by omega)), ← Nat.sub_mul, List.drop_take, ← Nat.sub_mul, ← Nat.add_mul, show max n (o + ys.length) - (o + ys.length) = n - (o + ys.length) by omega]
  · rw [List.length_append, List.length_append, List.length_take, List.length_drop, hl]
    omega

/-- What the model knows of a type's size. -/
theorem info_size {TS : TypeId} {bytes : Nat} (hT : InfoE E T TS bytes) : (Try.prog.info? T).map (·.size) = some E.size ∧ Try.prog.underlying TS = some (.slice T) := by
  obtain ⟨hu, z, _, hi⟩ := hT
  obtain ⟨i0, hi0, h0, h1, h2⟩ := info_parts hi
  exact ⟨by rw [hi0]; simp [h1], hu⟩

/-- copy(d, s) into a row of one's own. -/
theorem run_copy_E {TS : TypeId} {bytes : Nat} (hT : InfoE E T TS bytes) (ty : TypeId) (h : MineE E T w B (some ⟨g, 0, none⟩) n c xs) (o : Nat) (ys : List α) (ho : o ≤ n) (hc : o + ys.length ≤ c) (dLen dCap sLen sCap : Nat) (a : Addr)
    (hl : ys.length = Nat.min sLen dLen) (hsrc : ∀ j u, (ys.flatMap E.cells)[j]? = some u → w.cell? (a.add j) = some u) :
    ∃ w', (Builtin.copy_ #[TS, TS] ty #[.slice (some ⟨g, o * E.size, none⟩) dLen dCap, .slice (some a) sLen sCap]).run Try.prog w = .ok (goInt ys.length) w' ∧
      MineE E T w' B (some ⟨g, 0, none⟩) (max n (o + ys.length)) c (xs.take o ++ ys ++ xs.drop (o + ys.length)) ∧ w.grownBy w' (some g) := by
  obtain ⟨w', h1, h2⟩ := mine_splice h o ys ho hc
  refine ⟨w', ?_, h2⟩
  obtain ⟨hq, hu⟩ := info_size hT
  have hld := run_loadCells_list (P := Try.prog) w a (ys.flatMap E.cells) hsrc
  rw [E.flat_len] at hld
  cases hq' : Try.prog.info? T with
  | none => simp [hq'] at hq
  | some i =>
    have hi : i.size = E.size := by simpa [hq'] using hq
    simp [Builtin.copy_, run_underlying hu, Builtin.lenOf, Builtin.firstCells, sizeOf, typeInfo, hq', hi, ← hl, hld, h1]

theorem zeroCells_flat (E : Enc α) (zr : α) (z : Array Value) (hz : z.toList = E.cells zr) (m : Nat) : (Builtin.zeroCells z m).toList = (List.replicate m zr).flatMap E.cells := by
  have hzs : z.size = E.size := by rw [← E.len zr, ← hz]; simp
  apply List.ext_getElem?
  intro j
  by_cases hj : j < m * E.size
  · have hq : j / E.size < m := (Nat.div_lt_iff_lt_mul E.pos).2 hj
    have hr : j % E.size < E.size := Nat.mod_lt _ E.pos
    have h1 := E.flat_at (List.replicate m zr) (j / E.size) zr (by rw [List.getElem?_replicate, if_pos hq]) (j % E.size) hr
    rw [Nat.mul_comm, Nat.div_add_mod] at h1
    rw [h1, ← hz]
    simp only [Builtin.zeroCells, Array.toList_map, Array.toList_range, List.getElem?_map, hzs]
    rw [List.getElem?_range hj, Option.map_some, getElem!_pos z (j % E.size) (by omega)]
    simp [hzs, hr]
  · rw [List.getElem?_eq_none (by simp [Builtin.zeroCells, hzs]; omega), List.getElem?_eq_none (by rw [E.flat_len, List.length_replicate]; omega)]

/-- clear(s) of a part of a row of one's own. -/
theorem run_clear_E {TS : TypeId} {bytes : Nat} (hT : InfoE E T TS bytes) (ty : TypeId) (zv : Value) (zr : α) (hv : ∀ w, (zeroValue T).run Try.prog w = .ok zv w) (hz : zv.cells.toList = E.cells zr)
    (h : MineE E T w B (some ⟨g, 0, none⟩) n c xs) (o m cc : Nat) (ho : o ≤ n) (hc : o + m ≤ c) (hm : 0 < m) :
    ∃ w', (Builtin.clear_ #[TS] ty #[.slice (some ⟨g, o * E.size, none⟩) m cc]).run Try.prog w = .ok (.tuple #[]) w' ∧
      MineE E T w' B (some ⟨g, 0, none⟩) (max n (o + m)) c (xs.take o ++ List.replicate m zr ++ xs.drop (o + m)) ∧ w.grownBy w' (some g) := by
  obtain ⟨w', h1, h2⟩ := mine_splice h o (List.replicate m zr) ho (by rw [List.length_replicate]; exact hc)
  rw [List.length_replicate] at h2
  refine ⟨w', ?_, h2⟩
  obtain ⟨hq, hu⟩ := info_size hT
  rw [← zeroCells_flat E zr _ hz] at h1
  obtain ⟨k, rfl⟩ : ∃ k, m = k + 1 := ⟨m - 1, by omega⟩
  simp [Builtin.clear_, run_underlying hu, hv, h1]

set_option maxRecDepth 100000 in
/-- append(s[:i], ..) where there is room: in place. -/
theorem run_append_room_E {TS : TypeId} {bytes : Nat} (hT : InfoE E T TS bytes) (ty : TypeId) (h : MineE E T w B (some ⟨g, 0, none⟩) n c xs) (o : Nat) (ys : List α) (ho : o ≤ n) (hc : o + ys.length ≤ c) (A2 : Option Addr) (c2 : Nat)
    (hsrc : ∀ j u, (ys.flatMap E.cells)[j]? = some u → ∃ a : Addr, A2 = some a ∧ w.cell? (a.add j) = some u) (hnz : A2 = none → ys = []) :
    ∃ w', (Builtin.append_ #[TS, TS] ty #[.slice (some ⟨g, 0, none⟩) o c, .slice A2 ys.length c2]).run Try.prog w = .ok (.slice (some ⟨g, 0, none⟩) (o + ys.length) c) w' ∧
      MineE E T w' B (some ⟨g, 0, none⟩) (max n (o + ys.length)) c (xs.take o ++ ys ++ xs.drop (o + ys.length)) ∧ w.grownBy w' (some g) := by
  obtain ⟨w', h1, h2⟩ := mine_splice h o ys ho hc
  refine ⟨w', ?_, h2⟩
  obtain ⟨hq, hu⟩ := info_size hT
  have hld : (Builtin.firstCells E.size ys.length (.slice A2 ys.length c2)).run Try.prog w = .ok (ys.flatMap E.cells).toArray w := by
    cases A2 with
    | none => rw [hnz rfl]; exact run_firstCells_none w _ _ _ _
    | some a => exact run_firstCells_some w _ _ a _ _ _ (E.flat_len ys) (fun j v hj => by
        obtain ⟨a', e, q⟩ := hsrc j v hj
        injection e with e
        subst e
        exact q)
  cases hq' : Try.prog.info? T with
  | none => simp [hq'] at hq
  | some i =>
    have hi : i.size = E.size := by simpa [hq'] using hq
    have hadd : (⟨g, 0, none⟩ : Addr).add (o * E.size) = ⟨g, o * E.size, none⟩ := by unfold Addr.add; split <;> simp_all
    simp [Builtin.append_, run_underlying hu, sizeOf, typeInfo, hq', hi, Builtin.lenOf, hc, hld, hadd, h1]

end

end Go.Proofs.Ytpfcefflcmeobaa.Shelf
