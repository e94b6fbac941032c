/- Texts of this proof that follow each other, in one file. -/
import Derived.Test.YtdibdfalahjmbaaGreatPart2
import Derived.Test.YtdibdfalahjmbaaGreatPart1
import Derived.Deep.Slices
import Derived.SizedLaws
namespace Go.Proofs.YtdibdfalahjmbaaGreat.Shelf

open Go.ChangeShapes Go.WideShapes Go.ChangeAt Go.RowKit

set_option linter.unusedVariables false

set_option maxRecDepth 100000

theorem cellsI : Tryz.prog.cellsOf 3 = 1 := by kernel_rfl

theorem cellsR : Tryz.prog.cellsOf 44 = 4 := by kernel_rfl

theorem cellsF : Tryz.prog.cellsOf 56 = 5 := by kernel_rfl

def cellsFl (f : Fl) : List Value := [.int .i64 f.s, .int .i64 f.l, .int .i64 f.t, .int .i64 f.r, .int .i64 f.b]

theorem mapM_at {α β : Type} {f : α → Option β} : ∀ {l : List α} {r : List β}, l.mapM f = some r → ∀ (j : Nat) (x : α), l[j]? = some x → ∃ y, r[j]? = some y ∧ f x = some y := by
  intro l
  induction l with
  | nil => intro r h j x hx; simp at hx
  | cons a l ih =>
    intro r h j x hx
    rw [List.mapM_cons] at h
    simp only [bind, Option.bind_eq_some_iff, pure, Option.some.injEq] at h
    obtain ⟨b, hb, r', hr, rfl⟩ := h
    cases j with
    | zero =>
      simp only [List.getElem?_cons_zero, Option.some.injEq] at hx
      subst hx
      exact ⟨b, rfl, hb⟩
    | succ j =>
      simp only [List.getElem?_cons_succ] at hx ⊢
      exact ih hr j x hx

theorem lenM {α β : Type} {f : α → Option β} : ∀ {l : List α} {r : List β}, l.mapM f = some r → r.length = l.length := by
  intro l
  induction l with
  | nil => intro r h; simp at h; subst h; rfl
  | cons a l ih =>
    intro r h
    rw [List.mapM_cons] at h
    simp only [bind, Option.bind_eq_some_iff, pure, Option.some.injEq] at h
    obtain ⟨b, hb, r', hr, rfl⟩ := h
    simp [ih hr]

theorem cell_off (w : World) (p : Addr) (j : Nat) (v : Value) (hj : 0 < j) (h : w.cell? (p.add j) = some v) : w.cell? ⟨p.block, p.off + j, none⟩ = some v := by
  obtain ⟨q, rfl⟩ : ∃ q, j = q + 1 := ⟨j - 1, by omega⟩
  simpa [Addr.add] using h

theorem atF_of {w : World} {p : Addr} {f : Fl} (h : ∀ j v, (cellsFl f)[j]? = some v → w.cell? (p.add j) = some v) : AtF w p f := by
  refine ⟨?_, cell_off _ _ _ _ (by omega) (h 1 _ rfl), cell_off _ _ _ _ (by omega) (h 2 _ rfl), cell_off _ _ _ _ (by omega) (h 3 _ rfl), cell_off _ _ _ _ (by omega) (h 4 _ rfl)⟩
  have := h 0 _ rfl
  simpa [Addr.add] using this

section

variable {H : Type} {enc : TypeId × Value → H} {w : World} {base : Nat} {spare : Nat → Bool} {held : Bool}

theorem list5 {α : Type} {l : List α} (h : l.length = 5) : ∃ c0 c1 c2 c3 c4, l = [c0, c1, c2, c3, c4] := by
  match l, h with
  | [c0, c1, c2, c3, c4], _ => exact ⟨c0, c1, c2, c3, c4, rfl⟩

theorem cells_float {n : Nat} {cs : List Value} {y : DataW H × List MemPlace} (hl : cs.length = 5) (h : DataW.trod enc Tryz.prog w base spare held n 56 cs = some y) : ∃ f : Fl, cs = cellsFl f := by
  obtain ⟨c0, c1, c2, c3, c4, rfl⟩ := list5 hl
  obtain ⟨xs, n, _, _, _, hlen, hf⟩ := DataW.trod_struct Tryz.underlying56 h
  match xs, hlen with
  | [y0, y1], _ =>
    have f0 : DataW.trod enc Tryz.prog w base spare held n 3 (([c0, c1, c2, c3, c4].drop 0).take (Tryz.prog.cellsOf 3)) = some y0 := hf 0 _ rfl
    have f1 : DataW.trod enc Tryz.prog w base spare held n 44 (([c0, c1, c2, c3, c4].drop 1).take (Tryz.prog.cellsOf 44)) = some y1 := hf 1 _ rfl
    rw [cellsI] at f0
    rw [cellsR] at f1
    simp only [List.drop_succ_cons, List.drop_zero, List.take_succ_cons, List.take_zero] at f0 f1
    obtain ⟨x0, e0, -, -⟩ := DataW.trod_int Tryz.underlying3 f0
    obtain ⟨_, _, _, _, _, _, g1, g2, g3, g4⟩ := ChangeShapes.trod_array4 Tryz.underlying44 cellsI f1
    obtain ⟨x1, e1, -, -⟩ := DataW.trod_int Tryz.underlying3 g1
    obtain ⟨x2, e2, -, -⟩ := DataW.trod_int Tryz.underlying3 g2
    obtain ⟨x3, e3, -, -⟩ := DataW.trod_int Tryz.underlying3 g3
    obtain ⟨x4, e4, -, -⟩ := DataW.trod_int Tryz.underlying3 g4
    simp only [List.cons.injEq, and_true] at e0 e1 e2 e3 e4
    subst e0 e1 e2 e3 e4
    exact ⟨⟨x0, x1, x2, x3, x4⟩, rfl⟩

end

theorem open_floats {H : Type} {enc : TypeId × Value → H} {W : World} {v : Value} {d : DataW H} {ps : List MemPlace} (hv : ∃ a len cap, v = .slice a len cap)
    (h : DataW.Trod enc Tryz.prog W 0 (fun _ => true) true 22 v d ps) :
    ∃ A len cap fs, v = .slice A len cap ∧ len = fs.length ∧ len ≤ 9223372036854775807 ∧ len ≤ cap ∧ (A = none → cap = 0) ∧ Floats W W.heap.size A fs := by
  obtain ⟨a0, len, cap, rfl⟩ := hv
  obtain ⟨fuel, hf⟩ := h
  rcases Go.Deep.open_slice Tryz.underlying22 hf with ⟨hcs, hx⟩ | ⟨a, len', cap', m, n, D, Pl, hcs, _, hl, hm, hz, hx, hcell⟩
  · simp [Value.cells] at hcs
    obtain ⟨rfl, rfl, rfl⟩ := hcs
    exact ⟨none, 0, 0, [], rfl, rfl, by omega, by omega, fun _ => rfl, fun k f hk => by simp at hk⟩
  · simp [Value.cells] at hcs
    obtain ⟨rfl, rfl, rfl⟩ := hcs
    simp only [if_true] at hz
    subst hz
    unfold maxLen at hm
    have each : ∀ i, ∃ f : Fl, i < len → a.block < W.heap.size ∧ AtF W (a.add (i * 5)) f := fun i => by
      by_cases hi : i < len
      · obtain ⟨cs', hc, ht⟩ := hcell i (by omega)
        rw [cellsF] at hc
        unfold World.cells? at hc
        split at hc
        · have hl5 : cs'.length = 5 := by
            have := lenM hc
            simpa using this
          obtain ⟨f, rfl⟩ := cells_float hl5 ht
          refine ⟨f, fun _ => ?_⟩
          have hat : ∀ j v, (cellsFl f)[j]? = some v → W.cell? ((a.add (i * 5)).add j) = some v := fun j v hv => by
            have hj : j < 5 := (List.getElem?_eq_some_iff.1 hv).1
            obtain ⟨y, hy, hfy⟩ := mapM_at hc j j (by simp [List.getElem?_range hj])
            rw [hv] at hy
            injection hy with hy
            rw [hy]
            exact hfy
          refine ⟨?_, atF_of hat⟩
          have hb := World.block_lt_of_cell? _ _ (hat 0 _ rfl)
          rw [block_of_add, block_of_add] at hb
          exact hb
        · simp at hc
      · exact ⟨⟨0, 0, 0, 0, 0⟩, fun h => absurd h hi⟩
    obtain ⟨f, hf⟩ := Classical.axiomOfChoice each
    refine ⟨some a, len, _, (List.range len).map f, rfl, by simp, by omega, hl, fun e => (by cases e), fun k x hk => ?_⟩
    have hk' : k < len := by have := (List.getElem?_eq_some_iff.1 hk).1; simpa using this
    obtain ⟨h1, h2⟩ := hf k hk'
    refine ⟨a, rfl, h1, ?_⟩
    have : f k = x := by simpa [hk'] using hk
    rw [← this]
    exact h2

end Go.Proofs.YtdibdfalahjmbaaGreat.Shelf

namespace Go.Proofs.YtdibdfalahjmbaaGreat.Space

open Go.Proofs.YtdibdfalahjmbaaGreat.Shelf

def lastD : List Fl → Int
  | [] => 0
  | f :: fs => fs.foldl (fun m g => max m g.t) f.t

theorem lastD_snoc (fs : List Fl) (f : Fl) : lastD (fs ++ [f]) = if fs = [] then f.t else max (lastD fs) f.t := by
  cases fs with
  | nil => rfl
  | cons g gs => simp [lastD, List.foldl_append]

theorem lastD_take {fs : List Fl} {k : Nat} {f : Fl} (h : fs[k]? = some f) : lastD (fs.take (k + 1)) = if k = 0 then f.t else max (lastD (fs.take k)) f.t := by
  rw [List.take_add_one, h]
  show lastD (fs.take k ++ [f]) = _
  rw [lastD_snoc]
  have hk : k < fs.length := by
    rcases Nat.lt_or_ge k fs.length with g | g
    · exact g
    · rw [List.getElem?_eq_none g] at h; cases h
  by_cases e : k = 0
  · subst e; simp
  · rw [if_neg e, if_neg]
    intro h0
    have := congrArg List.length h0
    rw [List.length_take, List.length_nil] at this
    omega

theorem lastD_ge (fs : List Fl) (f : Fl) (h : f ∈ fs) : f.t ≤ lastD fs := by
  have key : ∀ (gs : List Fl) (m : Int), m ≤ gs.foldl (fun m g => max m g.t) m ∧ ∀ g ∈ gs, g.t ≤ gs.foldl (fun m g => max m g.t) m := by
    intro gs
    induction gs with
    | nil => intro m; exact ⟨Int.le_refl _, fun g hg => by cases hg⟩
    | cons a gs ih =>
      intro m
      obtain ⟨h1, h2⟩ := ih (max m a.t)
      simp only [List.foldl_cons]
      refine ⟨by omega, fun g hg => ?_⟩
      rcases List.mem_cons.1 hg with rfl | hg
      · omega
      · exact h2 g hg
  cases fs with
  | nil => cases h
  | cons g gs =>
    obtain ⟨h1, h2⟩ := key gs g.t
    rcases List.mem_cons.1 h with rfl | h
    · exact h1
    · exact h2 f h

theorem lastD_mem (fs : List Fl) (h : fs ≠ []) : ∃ f ∈ fs, f.t = lastD fs := by
  have key : ∀ (gs : List Fl) (m : Int), gs.foldl (fun m g => max m g.t) m = m ∨ ∃ g ∈ gs, g.t = gs.foldl (fun m g => max m g.t) m := by
    intro gs
    induction gs with
    | nil => intro m; exact .inl rfl
    | cons a gs ih =>
      intro m
      simp only [List.foldl_cons]
      rcases ih (max m a.t) with e | ⟨g, hg, e⟩
      · by_cases hm : a.t ≤ m
        · left; rw [e]; omega
        · right; exact ⟨a, List.mem_cons_self .., by rw [e]; omega⟩
      · exact .inr ⟨g, List.mem_cons_of_mem _ hg, e⟩
  cases fs with
  | nil => exact absurd rfl h
  | cons g gs =>
    rcases key gs g.t with e | ⟨f, hf, e⟩
    · exact ⟨g, List.mem_cons_self .., e.symm⟩
    · exact ⟨f, List.mem_cons_of_mem _ hf, e⟩

def clrB (c s : Int) : Bool := c == 3 || (c != 0 && c == s)

def botStep (c : Int) (s : Int × Bool) (f : Fl) : Int × Bool := if clrB c f.s && (!s.2 || decide (s.1 < f.b)) then (f.b, true) else s

def botS (fs : List Fl) (c : Int) : Int × Bool := fs.foldl (botStep c) (0, false)

theorem botS_snoc (fs : List Fl) (f : Fl) (c : Int) : botS (fs ++ [f]) c = botStep c (botS fs c) f := by unfold botS; rw [List.foldl_append]; rfl

theorem botS_take {fs : List Fl} {k : Nat} {f : Fl} (h : fs[k]? = some f) (c : Int) : botS (fs.take (k + 1)) c = botStep c (botS (fs.take k) c) f := by
  rw [List.take_add_one, h]
  exact botS_snoc _ f c

theorem botS_none (fs : List Fl) : botS fs 0 = (0, false) := by
  unfold botS
  induction fs with
  | nil => rfl
  | cons f fs ih => exact ih

def clearS (fs : List Fl) (c y : Int) : Int := if (botS fs c).2 && decide (y < (botS fs c).1) then (botS fs c).1 else y

def cleared (fs : List Fl) (c : Int) : List Fl := fs.filter (fun f => clrB c f.s)

theorem botS_is (fs : List Fl) (c : Int) : ((botS fs c).2 = false ∧ cleared fs c = [] ∧ (botS fs c).1 = 0) ∨ ((botS fs c).2 = true ∧ (∃ f ∈ cleared fs c, f.b = (botS fs c).1) ∧ ∀ f ∈ cleared fs c, f.b ≤ (botS fs c).1) := by
  rw [← List.reverse_reverse fs]
  induction fs.reverse with
  | nil => exact .inl ⟨rfl, rfl, rfl⟩
  | cons f gs ih =>
    rw [List.reverse_cons]
    generalize gs.reverse = fs at ih ⊢
    rw [botS_snoc]
    have hc : cleared (fs ++ [f]) c = cleared fs c ++ (if clrB c f.s then [f] else []) := by
      unfold cleared; rw [List.filter_append]; congr 1; by_cases g : clrB c f.s = true <;> simp [g]
    rw [hc]
    unfold botStep
    by_cases h1 : clrB c f.s = true
    · rw [if_pos h1]
      rcases ih with ⟨e1, e2, e3⟩ | ⟨e1, ⟨g, hg, e2⟩, e3⟩
      · rw [e1, e2, if_pos (by rw [h1]; rfl)]
        exact .inr ⟨rfl, ⟨f, by simp, rfl⟩, fun g hg => by simp at hg; rw [hg]; exact Int.le_refl _⟩
      · by_cases h2 : (botS fs c).1 < f.b
        · rw [if_pos (by rw [h1]; simp [h2])]
          refine .inr ⟨rfl, ⟨f, by simp, rfl⟩, fun g hg => ?_⟩
          rcases List.mem_append.1 hg with hg | hg
          · have := e3 g hg; show g.b ≤ f.b; omega
          · rw [List.mem_singleton.1 hg]; exact Int.le_refl _
        · rw [if_neg (by rw [h1, e1]; simp [h2])]
          refine .inr ⟨e1, ⟨g, List.mem_append_left _ hg, e2⟩, fun g hg => ?_⟩
          rcases List.mem_append.1 hg with hg | hg
          · exact e3 g hg
          · rw [List.mem_singleton.1 hg]; omega
    · rw [if_neg (by simp [h1]), if_neg h1, List.append_nil]
      exact ih

theorem clearS_ge (fs : List Fl) (c y : Int) : y ≤ clearS fs c y := by
  unfold clearS
  split
  · next h => simp at h; omega
  · exact Int.le_refl _

theorem clearS_is (fs : List Fl) (c y : Int) : (clearS fs c y = y ∨ ∃ f ∈ cleared fs c, f.b = clearS fs c y) ∧ ∀ f ∈ cleared fs c, f.b ≤ clearS fs c y := by
  unfold clearS
  rcases botS_is fs c with ⟨e1, e2, e3⟩ | ⟨e1, ⟨g, hg, e2⟩, e3⟩
  · rw [e1, e2]; simp
  · by_cases h : y < (botS fs c).1
    · rw [e1, if_pos (by simp [h])]; exact ⟨.inr ⟨g, hg, e2⟩, e3⟩
    · rw [e1, if_neg (by simp [h])]; exact ⟨.inl rfl, fun f hf => by have := e3 f hf; omega⟩

def highZ (h : Int) : Int := if h < 1 then 1 else h

theorem highZ_pos (h : Int) : 1 ≤ highZ h := by unfold highZ; split <;> omega

end Go.Proofs.YtdibdfalahjmbaaGreat.Space
