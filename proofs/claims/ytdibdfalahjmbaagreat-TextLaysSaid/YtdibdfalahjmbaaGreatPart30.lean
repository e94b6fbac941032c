/- Texts of this proof that follow each other, in one file. -/
import Derived.Test.YtdibdfalahjmbaaGreatPart24
import Derived.Test.YtdibdfalahjmbaaGreatPart27
import Derived.Test.YtdibdfalahjmbaaGreatPart7
namespace Go.Proofs.YtdibdfalahjmbaaGreat.Text

open Go.RowKit Go.Sort Go.Proofs.YtdibdfalahjmbaaGreat.Rect Go.Proofs.YtdibdfalahjmbaaGreat.More Go.Proofs.YtdibdfalahjmbaaGreat.Shelf Go.Proofs.YtdibdfalahjmbaaGreat.Space Go.Proofs.YtdibdfalahjmbaaGreat.Place Go.Proofs.YtdibdfalahjmbaaGreat.Line

set_option linter.unusedVariables false

theorem fate_any (x : It) (w : World) : Calls Tryz.prog 17 #[.agg #[.int .i64 x.sd, .int .i64 x.cl, .int .i64 x.wd, .int .i64 x.ht]] w fun e w' => e = .returned (if x.sd = 0 then .func (.func 30) #[] #[] else .func (.func 31) #[] #[]) ∧ Below w.heap.size w w' := by
  by_cases hs : x.sd = 0
  · rw [if_pos hs]
    have hb : (x.sd == 0) = true := by rw [hs]; rfl
    clear hs
    go_enter Tryz.func17, Tryz.ntmps17
    go_wp2_with fail
    go_ret
    exact ⟨rfl, ba1 _ _⟩
  · rw [if_neg hs]
    have hb : (x.sd == 0) = false := by simp [hs]
    clear hs
    go_enter Tryz.func17, Tryz.ntmps17
    go_wp2_with fail
    go_ret
    exact ⟨rfl, ba1 _ _⟩

end Go.Proofs.YtdibdfalahjmbaaGreat.Text

namespace Go.Proofs.YtdibdfalahjmbaaGreat.Text

open Go.RowKit Go.Sort Go.Proofs.YtdibdfalahjmbaaGreat.Rect Go.Proofs.YtdibdfalahjmbaaGreat.More Go.Proofs.YtdibdfalahjmbaaGreat.Shelf Go.Proofs.YtdibdfalahjmbaaGreat.Space Go.Proofs.YtdibdfalahjmbaaGreat.Place Go.Proofs.YtdibdfalahjmbaaGreat.Line

set_option linter.unusedVariables false

theorem flat_len {es : List (Mk × List Nat)} (h : ∀ e ∈ es, e.2 ≠ []) : es.length ≤ (es.flatMap fun e => e.2).length := by
  induction es with
  | nil => exact Nat.le_refl _
  | cons e es ih =>
    have h1 := List.length_pos_iff.2 (h e List.mem_cons_self)
    have h2 := ih fun x hx => h x (List.mem_cons_of_mem _ hx)
    rw [List.flatMap_cons, List.length_append, List.length_cons]
    omega

theorem atomsK_len (its : List It) (k : Nat) : (atomsK its k).length ≤ k := by
  unfold atomsK
  have := List.length_filter_le (isA its) (List.range k)
  rw [List.length_range] at this
  exact this

theorem floatsK_len (its : List It) (k : Nat) : (floatsK its k).length ≤ k := by
  unfold floatsK
  have := List.length_filter_le (fun i => !isA its i) (List.range k)
  rw [List.length_range] at this
  exact this

section

variable {fs : List Fl} {f t y Z : Int} {its : List It} (hr : ∀ x ∈ its, RightI x) (hz : Z + 2147483648 * (its.length : Int) ≤ 140737488355328 + 140000000000000) (h : Lo Z ⟨fs, f, t, y, 0, []⟩) (hi : its.length ≤ 400) (hf : fs.length + its.length < 1000)

include hr hz h hi hf

theorem able_layK (k : Nat) (hk : k ≤ its.length) : Able its Z k (layK fs f t y its k) := by
  have K := layK_keep hr h hz k hk
  have T := lay_so hr hz (told_micro hr hz) h (told_start fs f t y its) k hk
  obtain ⟨dn, d1, d2⟩ := T.ft
  have a1 := congrArg List.length T.at'
  rw [List.length_append] at a1
  have a2 := atomsK_len its k
  have a3 := flat_len fun e he => (T.ln e he).2
  have a4 := congrArg List.length d1
  rw [List.length_append] at a4
  have a5 := floatsK_len its k
  have a6 := congrArg List.length d2
  rw [List.length_append, List.length_map] at a6
  exact ⟨K, hk, hr, hz, by omega, by omega, by omega, by omega⟩

omit hi hf in
theorem lay_nobox (k : Nat) (hk : k < its.length) : (layK fs f t y its k).box[k]? = some noBx := by
  have M : Micro its Z (fun k s => ∀ i, k ≤ i → bxAt s.box i = noBx) := by
    refine ⟨fun k s K hk h0 ha T i hi => T i (by omega), fun k s K hk hne T i hi => ?_, fun k s i ws K hk ha hw T j hj => ?_, fun k s K hk h0 ha hw T j hj => ?_, fun k s r K hk h0 hne hw hb T j hj => ?_, fun k s K hk h0 hne T i hi => T i (by omega)⟩
    · show bxAt (setRow its s.m.top s.m.l s.row s.box) i = noBx
      rw [setRow_out its s.m.top s.row i fun q => by have := (K.rw' i q).1; omega]
      exact T i hi
    · have hi' := (K.wt i (by rw [hw]; exact List.mem_cons_self)).1
      show bxAt (s.box.set i _) j = noBx
      rw [bxAt_ne (by omega)]
      exact T j hj
    · show bxAt (s.box.set k _) j = noBx
      rw [bxAt_ne (by omega)]
      exact T j (by omega)
    · show bxAt (s.box.set k _) j = noBx
      rw [bxAt_ne (by omega)]
      exact T j (by omega)
  have h0 : ∀ i, 0 ≤ i → bxAt (layK fs f t y its 0).box i = noBx := fun i _ => by
    show bxAt (List.replicate its.length noBx) i = noBx
    unfold bxAt
    rw [List.getD_eq_getElem?_getD, List.getElem?_replicate]
    split <;> rfl
  have h1 := lay_so hr hz M h h0 k (by omega) k (Nat.le_refl _)
  have h2 := (layK_keep hr h hz k (by omega)).bl
  obtain ⟨x, hx⟩ : ∃ x, (layK fs f t y its k).box[k]? = some x := ⟨_, List.getElem?_eq_getElem (by omega)⟩
  rw [hx]
  unfold bxAt at h1
  rw [List.getD_eq_getElem?_getD, hx] at h1
  exact congrArg some h1

end

theorem fin_still {its : List It} {Z : Int} {k : Nat} {s : Ly} (h : Keeps its Z k s) (ha : s.m.az = []) : s.fin its = s := by
  have hw := h.none ha
  have hrow : s.row = [] := List.map_eq_nil_iff.1 (h.az.symm.trans ha)
  unfold Ly.fin Ly.shut Ly.outs
  rw [hw]
  obtain ⟨m, row, wait, box, out⟩ := s
  dsimp only at *
  rw [ha]
  subst hw hrow
  rfl

end Go.Proofs.YtdibdfalahjmbaaGreat.Text

namespace Go.Proofs.YtdibdfalahjmbaaGreat.More

open Go.RowKit

section

variable {α : Type} (E : Enc α)

theorem made_cells (z : α) (zv : Value) (hz : zv.cells.toList = E.cells z) (n : Nat) : (madeCells zv.cells (n * E.size)).toList = (List.replicate n z).flatMap E.cells := by
  have hs : zv.cells.size = E.size := by rw [← Array.length_toList, hz, E.len]
  have hpos := E.pos
  apply List.ext_getElem?
  intro k
  by_cases hk : k < n * E.size
  · have hq : k / E.size < n := Nat.div_lt_of_lt_mul (by rw [Nat.mul_comm]; exact hk)
    have hr : k % E.size < E.size := Nat.mod_lt _ hpos
    have hkk : k = k / E.size * E.size + k % E.size := by rw [Nat.mul_comm]; exact (Nat.div_add_mod k E.size).symm
    have h1 : ((List.replicate n z).flatMap E.cells)[k]? = (E.cells z)[k % E.size]? := by
      conv => lhs; rw [hkk]
      exact E.flat_at _ (k / E.size) z (by simp [hq]) _ hr
    rw [h1]
    have h2 : (E.cells z)[k % E.size]? = zv.cells[k % zv.cells.size]? := by rw [← hz, hs]; simp
    rw [h2]
    have h3 : k % zv.cells.size < zv.cells.size := by rw [hs]; exact hr
    simp [madeCells, hk, h3]
  · have h1 : ((List.replicate n z).flatMap E.cells).length = n * E.size := by rw [E.flat_len]; simp
    rw [List.getElem?_eq_none (by simp [madeCells]; omega), List.getElem?_eq_none (by omega)]

theorem run_make_E {T TS : TypeId} {bytes : Nat} (z : α) (zv : Value) (hz : zv.cells.toList = E.cells z) (hS : Tryz.prog.underlying TS = some (.slice T)) (hi : (Tryz.prog.info? T).map (fun i => (i.zero, i.size, i.bytes)) = some (some zv, E.size, bytes)) (hb : bytes ≤ 100000) (w : World) (n : Nat) (hn : n ≤ 1000000) :
    ∃ w', (Instr.makeSlice TS (.int .i64 (n : Int)) (.int .i64 (n : Int))).run Tryz.prog w = .ok (.slice (some ⟨w.heap.size, 0, none⟩) n n) w' ∧
      MineE E T w' w.heap.size (some ⟨w.heap.size, 0, none⟩) n n (List.replicate n z) ∧ Below w.heap.size w w' := by
  obtain ⟨i0, hi0, hi1⟩ : ∃ i, Tryz.prog.info? T = some i ∧ (i.zero, i.size, i.bytes) = (some zv, E.size, bytes) := by
    cases h : Tryz.prog.info? T with
    | none => rw [h] at hi; cases hi
    | some i => rw [h] at hi; exact ⟨i, rfl, by simpa using hi⟩
  simp only [Prod.mk.injEq] at hi1
  obtain ⟨h1, h2, h3⟩ := hi1
  obtain ⟨w', hmk, hown, hg⟩ := run_make_full (P := Tryz.prog) w w.heap.size TS T i0 zv E.size hS hi0 h1 h2 .i64 .i64 n (by rw [h3]; exact Nat.le_trans (Nat.mul_le_mul hb hn) (by decide)) (by unfold maxLen; omega) (Nat.le_refl _)
  rw [made_cells E z zv hz] at hown
  exact ⟨w', hmk, hown, (Below.refl w.heap.size w).grown hg (Nat.le_refl _) (fun j e => by cases e)⟩

end

end Go.Proofs.YtdibdfalahjmbaaGreat.More
