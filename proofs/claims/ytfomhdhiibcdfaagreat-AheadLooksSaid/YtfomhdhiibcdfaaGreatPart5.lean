/- Texts of this proof that follow each other, in one file. -/
import Derived.Test.YtfomhdhiibcdfaaGreatPart4
import Derived.Test.YtfomhdhiibcdfaaGreatPart1
import Derived.Deep.Slices
import Derived.SizedLaws
import Derived.Test.YtfomhdhiibcdfaaGreatPart2
import Derived.BigQuiet
import Derived.Deep.DeepCutAuto
/-! Floats that came in: a list of them, and one by itself. -/
namespace Go.Proofs.YtfomhdhiibcdfaaGreat.Shelf
open Go.ChangeShapes Go.WideShapes Go.ChangeAt Go.RowKit
set_option linter.unusedVariables false
set_option maxRecDepth 100000

theorem cellsI : Tryz.prog.cellsOf 3 = 1 := by kernel_rfl
theorem cellsR : Tryz.prog.cellsOf 55 = 4 := by kernel_rfl
theorem cellsF : Tryz.prog.cellsOf 57 = 5 := by kernel_rfl

def cellsFl (f : Fl) : List Value := [.int .i64 f.s, .int .i64 f.l, .int .i64 f.t, .int .i64 f.r, .int .i64 f.b]

theorem mapM_at {α β : Type} {f : α → Option β} : ∀ {l : List α} {r : List β}, l.mapM f = some r → ∀ (j : Nat) (x : α), l[j]? = some x → ∃ y, r[j]? = some y ∧ f x = some y := by
  intro l
  induction l with
  | nil => intro r h j x hx; simp at hx
  | cons a l ih =>
    intro r h j x hx
    rw [List.mapM_cons] at h
    simp only [bind, Option.bind_eq_some_iff, pure, Option.some.injEq] at h
    obtain ⟨b, hb, r', hr, rfl⟩ := h
    cases j with
    | zero =>
      simp only [List.getElem?_cons_zero, Option.some.injEq] at hx
      subst hx
      exact ⟨b, rfl, hb⟩
    | succ j =>
      simp only [List.getElem?_cons_succ] at hx ⊢
      exact ih hr j x hx

theorem lenM {α β : Type} {f : α → Option β} : ∀ {l : List α} {r : List β}, l.mapM f = some r → r.length = l.length := by
  intro l
  induction l with
  | nil => intro r h; simp at h; subst h; rfl
  | cons a l ih =>
    intro r h
    rw [List.mapM_cons] at h
    simp only [bind, Option.bind_eq_some_iff, pure, Option.some.injEq] at h
    obtain ⟨b, hb, r', hr, rfl⟩ := h
    simp [ih hr]

theorem cell_off (w : World) (p : Addr) (j : Nat) (v : Value) (hj : 0 < j) (h : w.cell? (p.add j) = some v) : w.cell? ⟨p.block, p.off + j, none⟩ = some v := by
  obtain ⟨q, rfl⟩ : ∃ q, j = q + 1 := ⟨j - 1, by omega⟩
  simpa [Addr.add] using h

theorem atF_of {w : World} {p : Addr} {f : Fl} (h : ∀ j v, (cellsFl f)[j]? = some v → w.cell? (p.add j) = some v) : AtF w p f := by
  refine ⟨?_, cell_off _ _ _ _ (by omega) (h 1 _ rfl), cell_off _ _ _ _ (by omega) (h 2 _ rfl), cell_off _ _ _ _ (by omega) (h 3 _ rfl), cell_off _ _ _ _ (by omega) (h 4 _ rfl)⟩
  have := h 0 _ rfl
  simpa [Addr.add] using this

section
variable {H : Type} {enc : TypeId × Value → H} {w : World} {base : Nat} {spare : Nat → Bool} {held : Bool}

theorem list5 {α : Type} {l : List α} (h : l.length = 5) : ∃ c0 c1 c2 c3 c4, l = [c0, c1, c2, c3, c4] := by
  match l, h with
  | [c0, c1, c2, c3, c4], _ => exact ⟨c0, c1, c2, c3, c4, rfl⟩

/-- The cells of a float that is read. -/
theorem cells_float {n : Nat} {cs : List Value} {y : DataW H × List MemPlace} (hl : cs.length = 5) (h : DataW.trod enc Tryz.prog w base spare held n 57 cs = some y) : ∃ f : Fl, cs = cellsFl f := by
  obtain ⟨c0, c1, c2, c3, c4, rfl⟩ := list5 hl
  obtain ⟨xs, n, _, _, _, hlen, hf⟩ := DataW.trod_struct Tryz.underlying57 h
  match xs, hlen with
  | [y0, y1], _ =>
    have f0 : DataW.trod enc Tryz.prog w base spare held n 3 (([c0, c1, c2, c3, c4].drop 0).take (Tryz.prog.cellsOf 3)) = some y0 := hf 0 _ rfl
    have f1 : DataW.trod enc Tryz.prog w base spare held n 55 (([c0, c1, c2, c3, c4].drop 1).take (Tryz.prog.cellsOf 55)) = some y1 := hf 1 _ rfl
    rw [cellsI] at f0
    rw [cellsR] at f1
    simp only [List.drop_succ_cons, List.drop_zero, List.take_succ_cons, List.take_zero] at f0 f1
    obtain ⟨x0, e0, -, -⟩ := DataW.trod_int Tryz.underlying3 f0
    obtain ⟨_, _, _, _, _, _, g1, g2, g3, g4⟩ := ChangeShapes.trod_array4 Tryz.underlying55 cellsI f1
    obtain ⟨x1, e1, -, -⟩ := DataW.trod_int Tryz.underlying3 g1
    obtain ⟨x2, e2, -, -⟩ := DataW.trod_int Tryz.underlying3 g2
    obtain ⟨x3, e3, -, -⟩ := DataW.trod_int Tryz.underlying3 g3
    obtain ⟨x4, e4, -, -⟩ := DataW.trod_int Tryz.underlying3 g4
    simp only [List.cons.injEq, and_true] at e0 e1 e2 e3 e4
    subst e0 e1 e2 e3 e4
    exact ⟨⟨x0, x1, x2, x3, x4⟩, rfl⟩

/-- One float that came in. -/
theorem open_float {r : Reach} {b0 : Nat} {v : Value} {d : DataW H} {p : List MemPlace} (hv : Value.okWide Tryz.prog w r b0 57 v) (h : DataW.Trod enc Tryz.prog w base spare held 57 v d p) :
    ∃ f : Fl, v = .agg #[.int .i64 f.s, .int .i64 f.l, .int .i64 f.t, .int .i64 f.r, .int .i64 f.b] := by
  obtain ⟨cs, rfl, hsz⟩ := okWide_struct Tryz.underlying57 hv
  obtain ⟨fuel, hf⟩ := h
  obtain ⟨f, hf2⟩ := cells_float (by rw [show (Value.agg cs).cells.toList = cs.toList by simp [Value.cells], Array.length_toList]; exact hsz.trans cellsF) hf
  refine ⟨f, ?_⟩
  have e : cs.toList = cellsFl f := by simpa [Value.cells] using hf2
  have e2 : cs = (cellsFl f).toArray := by rw [← e]
  rw [e2]
  rfl

end

/-- A slice of floats that came in. -/
theorem open_floats {H : Type} {enc : TypeId × Value → H} {W : World} {v : Value} {d : DataW H} {ps : List MemPlace} (hv : ∃ a len cap, v = .slice a len cap)
    (h : DataW.Trod enc Tryz.prog W 0 (fun _ => true) true 23 v d ps) :
    ∃ A len cap fs, v = .slice A len cap ∧ len = fs.length ∧ len ≤ 9223372036854775807 ∧ len ≤ cap ∧ (A = none → cap = 0) ∧ Floats W W.heap.size A fs := by
  obtain ⟨a0, len, cap, rfl⟩ := hv
  obtain ⟨fuel, hf⟩ := h
  rcases Go.Deep.open_slice Tryz.underlying23 hf with ⟨hcs, hx⟩ | ⟨a, len', cap', m, n, D, Pl, hcs, _, hl, hm, hz, hx, hcell⟩
  · simp [Value.cells] at hcs
    obtain ⟨rfl, rfl, rfl⟩ := hcs
    exact ⟨none, 0, 0, [], rfl, rfl, by omega, by omega, fun _ => rfl, fun k f hk => by simp at hk⟩
  · simp [Value.cells] at hcs
    obtain ⟨rfl, rfl, rfl⟩ := hcs
    simp only [if_true] at hz
    subst hz
    unfold maxLen at hm
    have each : ∀ i, ∃ f : Fl, i < len → a.block < W.heap.size ∧ AtF W (a.add (i * 5)) f := fun i => by
      by_cases hi : i < len
      · obtain ⟨cs', hc, ht⟩ := hcell i (by omega)
        rw [cellsF] at hc
        unfold World.cells? at hc
        split at hc
        · have hl5 : cs'.length = 5 := by
            have := lenM hc
            simpa using this
          obtain ⟨f, rfl⟩ := cells_float hl5 ht
          refine ⟨f, fun _ => ?_⟩
          have hat : ∀ j v, (cellsFl f)[j]? = some v → W.cell? ((a.add (i * 5)).add j) = some v := fun j v hv => by
            have hj : j < 5 := (List.getElem?_eq_some_iff.1 hv).1
            obtain ⟨y, hy, hfy⟩ := mapM_at hc j j (by simp [List.getElem?_range hj])
            rw [hv] at hy
            injection hy with hy
            rw [hy]
            exact hfy
          refine ⟨?_, atF_of hat⟩
          have hb := World.block_lt_of_cell? _ _ (hat 0 _ rfl)
          rw [block_of_add, block_of_add] at hb
          exact hb
        · simp at hc
      · exact ⟨⟨0, 0, 0, 0, 0⟩, fun h => absurd h hi⟩
    obtain ⟨f, hf⟩ := Classical.axiomOfChoice each
    refine ⟨some a, len, _, (List.range len).map f, rfl, by simp, by omega, hl, fun e => (by cases e), fun k x hk => ?_⟩
    have hk' : k < len := by have := (List.getElem?_eq_some_iff.1 hk).1; simpa using this
    obtain ⟨h1, h2⟩ := hf k hk'
    refine ⟨a, rfl, h1, ?_⟩
    have : f k = x := by simpa [hk'] using hk
    rw [← this]
    exact h2

/-- What is read of a slice of floats is as long as it; and no longer than the form lets it be. -/
theorem floats_data {H : Type} {enc : TypeId × Value → H} {W : World} {A : Option Addr} {n c : Nat} {d : DataW H} {ps : List MemPlace} (h : DataW.Trod enc Tryz.prog W 0 (fun _ => true) true 23 (.slice A n c) d ps) :
    n = 0 ∨ ∃ elems spare, d = .slice elems spare ∧ elems.length = n := by
  obtain ⟨fuel, hf⟩ := h
  rcases Go.Deep.open_slice Tryz.underlying23 hf with ⟨hcs, hx⟩ | ⟨a, len', cap', m, n', D, Pl, hcs, _, hl, hm, hz, hx, hcell⟩
  · simp [Value.cells] at hcs
    exact .inl hcs.2.1
  · simp [Value.cells] at hcs
    obtain ⟨rfl, rfl, rfl⟩ := hcs
    injection hx with h1 h2
    exact .inr ⟨_, _, h1, by simp⟩

theorem floats_sized {H : Type} {enc : TypeId × Value → H} {W : World} {A : Option Addr} {n c : Nat} {d : DataW H} {ps : List MemPlace} {ts : List TypeId} {ds : List (DataW H)} {j : Nat} (h : DataW.Trod enc Tryz.prog W 0 (fun _ => true) true 23 (.slice A n c) d ps)
    (hs : (DataW.weightsEach Tryz.prog ts ds).all (· ≤ reachBytes) = true) (ht : ts[j]? = some 23) (hd : ds[j]? = some d) : n * 40 ≤ 140737488351232 := by
  rcases floats_data h with e | ⟨elems, spare, e, hl⟩
  · omega
  · subst e
    have h1 := sized_slice hs ht hd Tryz.underlying23
    rw [show Tryz.prog.bytesOf 57 = 40 by kernel_rfl, show reachBytes = 140737488351232 from rfl, hl] at h1
    exact Nat.le_trans (Nat.mul_le_mul_right 40 (Nat.le_add_right n spare.length)) h1

theorem bounds16 {a : Int} (w : (Lit.int .i16 a).wf = true) : -32768 ≤ a ∧ a ≤ 32767 := by
  simpa [Lit.wf, IntKind.min, IntKind.max, IntKind.signed, IntKind.bits] using w

end Go.Proofs.YtfomhdhiibcdfaaGreat.Shelf

/-! Trees, by the depths of boxes in a list: where each one stands, where it ends, what stands in it, and whose context it belongs to. No program is in it. -/
namespace Go.Proofs.YtfomhdhiibcdfaaGreat.Tree
open Go.Proofs.YtfomhdhiibcdfaaGreat.Record Go.Proofs.YtfomhdhiibcdfaaGreat.Script

/-- The last place below k that lies one less deep than x; -1: there is none. -/
def parD (d : Nat → Int) (x : Int) : Nat → Int
  | 0 => -1
  | k + 1 => if d k = x - 1 then (k : Int) else parD d x k

def par (d : Nat → Int) (i : Nat) : Int := parD d (d i) i

/-- From k on, how far all lies deeper than x. -/
def endD (d : Nat → Int) (x : Int) : Nat → Nat → Nat
  | 0, k => k
  | f + 1, k => if x < d k then endD d x f (k + 1) else k

def en (d : Nat → Int) (n i : Nat) : Nat := endD d (d i) (n - (i + 1)) (i + 1)

/-- The places below m that stand in i, if m is no farther than i's end. -/
def kidsTo (d : Nat → Int) (i m : Nat) : List Nat := (List.range m).filter fun c => decide (i < c) && decide (d c = d i + 1)

def kids (d : Nat → Int) (n i : Nat) : List Nat := kidsTo d i (en d n i)

theorem parD_neg (d : Nat → Int) (x : Int) : ∀ k, -1 ≤ parD d x k ∧ parD d x k < k
  | 0 => by simp [parD]
  | k + 1 => by
    have h := parD_neg d x k
    unfold parD
    split <;> omega

theorem par_bounds (d : Nat → Int) (i : Nat) : -1 ≤ par d i ∧ par d i < i := parD_neg d (d i) i

theorem parD_some (d : Nat → Int) (x : Int) : ∀ k (j : Nat), parD d x k = j → j < k ∧ d j = x - 1 ∧ ∀ m, j < m → m < k → d m ≠ x - 1
  | 0, j, h => by simp [parD] at h
  | k + 1, j, h => by
    unfold parD at h
    split at h
    · rename_i e
      have : k = j := by omega
      subst this
      exact ⟨by omega, e, fun m h1 h2 => by omega⟩
    · rename_i e
      obtain ⟨h1, h2, h3⟩ := parD_some d x k j h
      refine ⟨by omega, h2, fun m a b => ?_⟩
      by_cases hm : m = k
      · subst hm; exact e
      · exact h3 m a (by omega)

theorem parD_none (d : Nat → Int) (x : Int) : ∀ k, parD d x k = -1 → ∀ m, m < k → d m ≠ x - 1
  | 0, _, m, hm => by omega
  | k + 1, h, m, hm => by
    unfold parD at h
    split at h
    · omega
    · rename_i e
      by_cases hk : m = k
      · subst hk; exact e
      · exact parD_none d x k h m (by omega)

theorem parD_here (d : Nat → Int) (x : Int) (j k : Nat) (hj : j < k) (h : d j = x - 1) (hm : ∀ m, j < m → m < k → d m ≠ x - 1) : parD d x k = j := by
  induction k with
  | zero => omega
  | succ k ih =>
    unfold parD
    by_cases e : j = k
    · subst e; rw [if_pos h]
    · rw [if_neg (hm k (by omega) (by omega))]
      exact ih (by omega) (fun m a b => hm m a (by omega))

/-- Boxes that begin at 0, and go down by one at a time. -/
structure Shape (d : Nat → Int) (n : Nat) : Prop where
  pos : 0 < n
  zero : d 0 = 0
  step : ∀ k, 0 < k → k < n → 1 ≤ d k ∧ d k ≤ d (k - 1) + 1

theorem Shape.front {d : Nat → Int} {n m : Nat} (h : Shape d n) (h0 : 0 < m) (hm : m ≤ n) : Shape d m :=
  ⟨h0, h.zero, fun k a b => h.step k a (by omega)⟩

theorem Shape.nonneg {d : Nat → Int} {n : Nat} (h : Shape d n) (k : Nat) (hk : k < n) : 0 ≤ d k := by
  rcases Nat.eq_zero_or_pos k with e | e
  · subst e; rw [h.zero]; omega
  · have := h.step k e hk; omega

/-- Where none of the places from j on below i lies just one less deep, all lie as deep as i. -/
theorem Shape.deep {d : Nat → Int} {n : Nat} (h : Shape d n) (i j : Nat) (hi : i < n) (hm : ∀ m, j ≤ m → m < i → d m ≠ d i - 1) : ∀ f m, m + f + 1 = i → j ≤ m → d i ≤ d m := by
  intro f
  induction f with
  | zero =>
    intro m e hj
    have h1 := h.step i (by omega) hi
    have h2 := hm m hj (by omega)
    have e2 : i - 1 = m := by omega
    rw [e2] at h1
    omega
  | succ f ih =>
    intro m e hj
    have h1 := h.step (m + 1) (by omega) (by omega)
    have h2 := hm m hj (by omega)
    have h3 := ih (m + 1) (by omega) (by omega)
    simp only [Nat.add_sub_cancel] at h1
    omega

theorem Shape.deep' {d : Nat → Int} {n : Nat} (h : Shape d n) (i j : Nat) (hi : i < n) (hm : ∀ m, j ≤ m → m < i → d m ≠ d i - 1) (m : Nat) (h1 : j ≤ m) (h2 : m < i) : d i ≤ d m :=
  h.deep i j hi hm (i - m - 1) m (by omega) h1

theorem par_zero (d : Nat → Int) : par d 0 = -1 := rfl

theorem Shape.parent {d : Nat → Int} {n : Nat} (h : Shape d n) (i : Nat) (h0 : 0 < i) (hi : i < n) : ∃ p : Nat, par d i = p ∧ p < i ∧ d p = d i - 1 ∧ ∀ m, p < m → m < i → d i ≤ d m := by
  have hb := par_bounds d i
  by_cases e : par d i = -1
  · have h1 := parD_none d (d i) i e
    have h2 := h.deep' i 0 hi (fun m _ hm => h1 m hm) 0 (by omega) h0
    have h3 := h.step i h0 hi
    rw [h.zero] at h2
    omega
  · obtain ⟨p, hp⟩ : ∃ p : Nat, par d i = p := ⟨(par d i).toNat, by omega⟩
    obtain ⟨h1, h2, h3⟩ := parD_some d (d i) i p hp
    exact ⟨p, hp, h1, h2, fun m a b => h.deep' i (p + 1) hi (fun m a b => h3 m (by omega) b) m (by omega) b⟩

theorem endD_spec (d : Nat → Int) (x : Int) : ∀ f k, k ≤ endD d x f k ∧ endD d x f k ≤ k + f ∧ (∀ m, k ≤ m → m < endD d x f k → x < d m) ∧ (endD d x f k = k + f ∨ d (endD d x f k) ≤ x)
  | 0, k => by simp [endD]; intro m a b; omega
  | f + 1, k => by
    unfold endD
    split
    · rename_i h
      obtain ⟨h1, h2, h3, h4⟩ := endD_spec d x f (k + 1)
      refine ⟨by omega, by omega, fun m a b => ?_, ?_⟩
      · by_cases e : m = k
        · subst e; exact h
        · exact h3 m (by omega) b
      · rcases h4 with h4 | h4
        · exact .inl (by omega)
        · exact .inr h4
    · exact ⟨by omega, by omega, fun m a b => by omega, .inr (by omega)⟩

theorem en_spec (d : Nat → Int) (n i : Nat) (hi : i < n) : i < en d n i ∧ en d n i ≤ n ∧ (∀ m, i < m → m < en d n i → d i < d m) ∧ (en d n i = n ∨ d (en d n i) ≤ d i) := by
  obtain ⟨h1, h2, h3, h4⟩ := endD_spec d (d i) (n - (i + 1)) (i + 1)
  unfold en
  refine ⟨by omega, by omega, fun m a b => h3 m (by omega) b, ?_⟩
  rcases h4 with h4 | h4
  · exact .inl (by omega)
  · exact .inr h4

theorem en_here (d : Nat → Int) (n i e : Nat) (h1 : i < e) (h2 : e ≤ n) (h3 : ∀ m, i < m → m < e → d i < d m) (h4 : e = n ∨ d e ≤ d i) : en d n i = e := by
  obtain ⟨g1, g2, g3, g4⟩ := en_spec d n i (by omega)
  rcases Nat.lt_trichotomy (en d n i) e with h | h | h
  · have := h3 _ g1 h
    rcases g4 with g4 | g4 <;> omega
  · exact h
  · rcases h4 with h4 | h4
    · omega
    · have := g3 e h1 h; omega

theorem mem_kidsTo (d : Nat → Int) (i m c : Nat) : c ∈ kidsTo d i m ↔ c < m ∧ i < c ∧ d c = d i + 1 := by
  simp [kidsTo]

theorem kidsTo_next (d : Nat → Int) (i m : Nat) : kidsTo d i (m + 1) = kidsTo d i m ++ (if i < m ∧ d m = d i + 1 then [m] else []) := by
  unfold kidsTo
  rw [List.range_succ, List.filter_append]
  congr 1
  by_cases h : i < m ∧ d m = d i + 1
  · rw [if_pos h]; simp [h.1, h.2]
  · rw [if_neg h]
    simp only [List.filter_cons, List.filter_nil]
    rw [if_neg]
    simp only [Bool.and_eq_true, decide_eq_true_eq]
    exact h

theorem kidsTo_start (d : Nat → Int) (i : Nat) : kidsTo d i (i + 1) = [] := by
  unfold kidsTo
  rw [List.filter_eq_nil_iff]
  intro c hc
  simp at hc
  simp; omega

theorem mem_kids (d : Nat → Int) (n i c : Nat) : c ∈ kids d n i ↔ c < en d n i ∧ i < c ∧ d c = d i + 1 := mem_kidsTo d i _ c

/-- A box stands in another one just if that is its parent. -/
theorem Shape.kid_iff {d : Nat → Int} {n : Nat} (h : Shape d n) (i c : Nat) (hi : i < n) (hc : c < n) : c ∈ kids d n i ↔ par d c = i := by
  rw [mem_kids]
  obtain ⟨e1, e2, e3, e4⟩ := en_spec d n i hi
  constructor
  · rintro ⟨h1, h2, h3⟩
    exact parD_here d (d c) i c h2 (by omega) (fun m a b => by have := e3 m a (by omega); omega)
  · intro hp
    obtain ⟨h1, h2, h3⟩ := parD_some d (d c) c i hp
    refine ⟨?_, h1, by omega⟩
    obtain ⟨p, q1, q2, q3, q4⟩ := h.parent c (by omega) hc
    have : p = i := by rw [hp] at q1; omega
    subst this
    rcases Nat.lt_or_ge c (en d n p) with g | g
    · exact g
    · rcases e4 with e4 | e4
      · omega
      · by_cases hx : en d n p = c
        · rw [hx] at e4; omega
        · have := q4 (en d n p) e1 (by omega); omega

theorem kids_sorted (d : Nat → Int) (i m : Nat) : (kidsTo d i m).Pairwise (· < ·) := List.Pairwise.filter _ List.pairwise_lt_range

/-- What stands in a box ends no later than that. -/
theorem en_nest (d : Nat → Int) (n i c : Nat) (hi : i < n) (h1 : i < c) (h2 : c < en d n i) : en d n c ≤ en d n i := by
  obtain ⟨e1, e2, e3, e4⟩ := en_spec d n i hi
  obtain ⟨g1, g2, g3, g4⟩ := en_spec d n c (by omega)
  rcases Nat.lt_or_ge (en d n i) (en d n c) with h | h
  · have := e3 c h1 h2
    rcases e4 with e4 | e4
    · omega
    · have := g3 (en d n i) h2 h; omega
  · exact h

/-- The next one whose context is its own, from p on towards the first box. -/
def ctxN (d : Nat → Int) (o : Nat → Bool) (p : Nat) : Nat :=
  if _h : p = 0 then 0 else if o p then p else ctxN d o (par d p).toNat
termination_by p
decreasing_by have := par_bounds d p; omega

def ctx (d : Nat → Int) (o : Nat → Bool) (i : Nat) : Nat := ctxN d o (par d i).toNat

theorem ctxN_zero (d : Nat → Int) (o : Nat → Bool) : ctxN d o 0 = 0 := by rw [ctxN]; simp

theorem ctxN_open (d : Nat → Int) (o : Nat → Bool) (p : Nat) (h : o p = true) : ctxN d o p = p := by
  rw [ctxN]
  by_cases hp : p = 0
  · simp [hp]
  · simp [hp, h]

theorem ctxN_next (d : Nat → Int) (o : Nat → Bool) (p : Nat) (h : o p = false) : ctxN d o p = ctxN d o (par d p).toNat := by
  by_cases hp : p = 0
  · subst hp; rw [par_zero]; rfl
  · rw [ctxN]; simp [hp, h]

theorem ctxN_le (d : Nat → Int) (o : Nat → Bool) (p : Nat) : ctxN d o p ≤ p := by
  induction p using Nat.strongRecOn with
  | _ p ih =>
    by_cases hp : p = 0
    · subst hp; rw [ctxN_zero]; omega
    · by_cases h : o p = true
      · rw [ctxN_open d o p h]; omega
      · have hb := par_bounds d p
        rw [ctxN_next d o p (by simpa using h)]
        have := ih (par d p).toNat (by omega)
        omega

theorem ctx_lt (d : Nat → Int) (o : Nat → Bool) (i : Nat) (hi : 0 < i) : ctx d o i < i := by
  have := ctxN_le d o (par d i).toNat
  have := par_bounds d i
  unfold ctx; omega

theorem ctx_zero (d : Nat → Int) (o : Nat → Bool) : ctx d o 0 = 0 := by
  unfold ctx; rw [par_zero]; exact ctxN_zero d o

/-- A box ends no later than the one whose context it belongs to. -/
theorem Shape.ctxN_en {d : Nat → Int} {n : Nat} (h : Shape d n) (o : Nat → Bool) (p : Nat) (hp : p < n) : en d n p ≤ en d n (ctxN d o p) := by
  induction p using Nat.strongRecOn with
  | _ p ih =>
    by_cases h0 : p = 0
    · subst h0; rw [ctxN_zero]; exact Nat.le_refl _
    · by_cases ho : o p = true
      · rw [ctxN_open d o p ho]; exact Nat.le_refl _
      · obtain ⟨q, q1, q2, q3, q4⟩ := h.parent p (by omega) hp
        rw [ctxN_next d o p (by simpa using ho), q1]
        have hk := (h.kid_iff q p (by omega) hp).2 q1
        rw [mem_kids] at hk
        have h1 := en_nest d n q p (by omega) hk.2.1 hk.1
        have h2 := ih q q2 (by omega)
        simp only [Int.toNat_natCast]
        omega

theorem Shape.ctx_en {d : Nat → Int} {n : Nat} (h : Shape d n) (o : Nat → Bool) (i : Nat) (hi : i < n) : en d n i ≤ en d n (ctx d o i) := by
  by_cases h0 : i = 0
  · subst h0; rw [ctx_zero]; exact Nat.le_refl _
  · obtain ⟨q, q1, q2, q3, q4⟩ := h.parent i (by omega) hi
    have hk := (h.kid_iff q i (by omega) hi).2 q1
    rw [mem_kids] at hk
    have h1 := en_nest d n q i (by omega) hk.2.1 hk.1
    have h2 := h.ctxN_en o q (by omega)
    unfold ctx
    rw [q1]
    simp only [Int.toNat_natCast]
    omega

end Go.Proofs.YtfomhdhiibcdfaaGreat.Tree

/-! The contracts of the law's own conversion of lists, and of the document's Encode. -/
namespace Go.Proofs.YtfomhdhiibcdfaaGreat.Script
open Go.RowKit Go.Sort Go.Proofs.YtfomhdhiibcdfaaGreat.Record

theorem infoApi : BoxInfo 64 65 := ⟨Tryz.underlying65, .agg #[.int .i64 0, .int .i64 0, .int .i64 0, .int .i64 0, .int .i64 0, .int .i64 0, .int .i64 0, .int .i64 0, .int .i64 0, .int .i64 0, .int .i64 0, .int .i64 0, .int .i64 0, .int .i64 0], rfl, by kernel_rfl⟩
theorem infoRef : BoxInfo 46 22 := ⟨Tryz.underlying22, .agg #[.int .i64 0, .int .i64 0, .int .i64 0, .int .i64 0, .int .i64 0, .int .i64 0, .int .i64 0, .int .i64 0, .int .i64 0, .int .i64 0, .int .i64 0, .int .i64 0, .int .i64 0, .int .i64 0], rfl, by kernel_rfl⟩

theorem takeB_next (bs : List Bx) (k : Nat) (h : k < bs.length) : bs.take (k + 1) = bs.take k ++ [bs.getD k noB] := by
  rw [List.take_succ_eq_append_getElem h]; simp [List.getD, h]

set_option maxHeartbeats 1000000 in
theorem ofs_any (A : Option Addr) (n c : Nat) (bs : List Bx) (w : World) (hn : n = bs.length) (hlen : n ≤ 100000) (hx : Boxes w w.heap.size A bs) :
    Calls Tryz.prog 34 #[.slice A n c] w fun e w' => (∃ A' c', e = .returned (.slice A' n c') ∧ MineB 64 w' w.heap.size A' n c' bs) ∧ Below w.heap.size w w' := by
  have HX := Lib.hid hx
  have HN := Lib.hid hn
  clear hx hn
  go_enter Tryz.func34, Tryz.ntmps34
  go_wp2_with fail
  go_loopw [3, 8] (fun s i wr => ∃ k : Nat, ∃ A' : Option Addr, ∃ c' : Nat, k ≤ n ∧ i = .int .i64 k ∧ s = .slice A' k c' ∧ Hid (MineB 64 wr w.heap.size A' k c' (bs.take k) ∧ Below w.heap.size w wr)) (fun _ i _ => n - (intOf i).toNat)
  case atStart => exact ⟨0, none, 0, Nat.zero_le _, rfl, rfl, Lib.hid ⟨noneB_mine _ _ _, Below.refl _ _⟩⟩
  case round wr =>
    obtain ⟨k, A', c', hk, rfl, rfl, H⟩ := hrel
    by_cases hlt : k < n
    · obtain ⟨ad, hA, _, hcx⟩ := (HX.out.below H.out.2) k (by rw [← HN.out]; exact hlt)
      subst hA
      have HT := Lib.hid (takeB_next bs k (by rw [← HN.out]; exact hlt))
      generalize bs.getD k noB = y at hcx HT
      obtain ⟨c0, c1, c2, c3, c4, c5, c6, c7, c8, c9, c10, c11, c12, c13⟩ := hcx
      have hsz := H.out.2.size
      go_wp2_with fail
      have hm1 := H.out.1.alloc (.cells (cellsOfB y).toArray 46)
      refine (of_any y _).mono ?_; rintro e w2 ⟨rfl, b2⟩
      have hm2 := hm1.below b2
      have hb2 := thru (H.out.2.alloc hsz (.cells (cellsOfB y).toArray 46)) b2
      have hsz2 := hb2.size
      have HM2 := Lib.hid hm2
      have HB2 := Lib.hid hb2
      clear hm1 b2 hm2 hb2 c0 c1 c2 c3 c4 c5 c6 c7 c8 c9 c10 c11 c12 c13
      go_wp2_with (first
        | (at_builtin; refine wpList_append_boxes infoApi _ rfl (.tmp 12) (.tmp 15) rfl w.heap.size A' k c' (bs.take k) rfl (HM2.out.alloc _) (some ⟨w2.heap.size, 0, none⟩) 1 1 [y] rfl (oneB_src w2 y 64) (by omega) (by simp; omega) ?_; intro A1 c1 W2 h1))
      have hb3 := h1.below (HM2.out.alloc _) (HB2.out.alloc hsz2 _) (Nat.le_refl _) (by simp; omega)
      go_roundw
      case rel => exact ⟨k + 1, A1, c1, by omega, by go_num, rfl, Lib.hid ⟨by rw [HT.out]; exact h1.1, hb3⟩⟩
      case measure => simp [intOf]; omega
    · obtain rfl : k = n := by omega
      have ht : bs.take k = bs := List.take_of_length_le (by rw [← HN.out]; omega)
      have hm := H.out.1
      rw [ht] at hm
      have HM := Lib.hid hm
      clear hm ht hlt hk
      go_wp2_with fail
      go_ret
      exact ⟨⟨_, _, rfl, HM.out⟩, H.out.2⟩

end Go.Proofs.YtfomhdhiibcdfaaGreat.Script

/-! The contracts of the document's Parent, End and Open. -/
namespace Go.Proofs.YtfomhdhiibcdfaaGreat.Tree
open Go.RowKit Go.Sort Go.Proofs.YtfomhdhiibcdfaaGreat.Record Go.Proofs.YtfomhdhiibcdfaaGreat.Script

/-- How deep the boxes of a list lie. -/
def dOf (bs : List Bx) (k : Nat) : Int := (bs.getD k noB).d

theorem Boxes.depth {w : World} {B : Nat} {A : Option Addr} {bs : List Bx} (h : Boxes w B A bs) (k : Nat) (hk : k < bs.length) : ∃ ad : Addr, A = some ad ∧ ad.block < B ∧ w.cell? (ad.add (k * 14)) = some (.int .i64 (dOf bs k)) := by
  obtain ⟨ad, e, hb, hc⟩ := h k hk
  exact ⟨ad, e, hb, hc.1⟩

set_option maxRecDepth 100000 in
set_option maxHeartbeats 1000000 in
theorem refpar_any (A : Option Addr) (n c : Nat) (bs : List Bx) (i : Nat) (w : World) (hn : n = bs.length) (hlen : n ≤ 9223372036854775807) (hi : i < n) (hx : Boxes w w.heap.size A bs) (hd : ∀ k, k ≤ i → 0 ≤ dOf bs k ∧ dOf bs k ≤ 256) :
    Calls Tryz.prog 33 #[.slice A n c, .int .i64 i] w fun e w' => e = .returned (.int .i64 (par (dOf bs) i)) ∧ Below w.heap.size w w' := by
  obtain ⟨ad, rfl, hab, ci⟩ := Boxes.depth hx i (by omega)
  obtain ⟨x, hxd⟩ : ∃ x, dOf bs i = x := ⟨_, rfl⟩
  have hx01 := hd i (Nat.le_refl _)
  obtain ⟨p, hp⟩ : ∃ p, par (dOf bs) i = p := ⟨_, rfl⟩
  unfold par at hp
  rw [hxd] at ci hp hx01
  rw [show par (dOf bs) i = p by unfold par; rw [hxd]; exact hp]
  have HX := Lib.hid hx
  have HN := Lib.hid hn
  have HD := Lib.hid hd
  have HI := Lib.hid hi
  have HP := Lib.hid hp
  have HAB := Lib.hid hab
  clear hx hn hd hp hab
  go_enter Tryz.func33, Tryz.ntmps33
  go_wp2_with fail
  go_loopw [5] (fun s wr => ∃ j : Nat, j ≤ i ∧ s = .int .i64 ((j : Int) - 1) ∧ Hid (parD (dOf bs) x j = p ∧ Below w.heap.size w wr)) (fun s _ => (intOf s + 1).toNat)
  case atStart => exact ⟨i, Nat.le_refl _, rfl, Lib.hid ⟨HP.out, Below.refl _ _⟩⟩
  case round =>
    obtain ⟨j, hj, hs, H⟩ := hrel
    rcases Nat.eq_zero_or_pos j with h0 | h0
    · subst h0
      subst hs
      have hp1 : p = -1 := H.out.1.symm
      subst hp1
      go_wp2_with fail
      go_ret
      exact ⟨rfl, H.out.2⟩
    · obtain ⟨k, rfl⟩ : ∃ k, j = k + 1 := ⟨j - 1, by omega⟩
      have e : ((k + 1 : Nat) : Int) - 1 = (k : Int) := by omega
      rw [e] at hs
      subst hs
      obtain ⟨_, h1, _, ck⟩ := Boxes.depth HX.out k (by have := HN.out; omega)
      injection h1 with h1
      subst h1
      have hk01 := HD.out k (by omega)
      obtain ⟨y, hy⟩ : ∃ y, dOf bs k = y := ⟨_, rfl⟩
      rw [hy] at ck hk01
      have hw := H.out.1
      rw [parD, hy] at hw
      have HW := Lib.hid hw
      clear hw hy
      have hci := (H.out.2.cell (p := ad.add (i * 14)) (by rw [block_of_add]; exact HAB.out)).trans ci
      have hck := (H.out.2.cell (p := ad.add (k * 14)) (by rw [block_of_add]; exact HAB.out)).trans ck
      have kx := fun d os => cell_regrown hci (d := d) (os := os)
      have ky := fun d os => cell_regrown hck (d := d) (os := os)
      clear hci hck
      have hwx : IntKind.i64.wrap (x - 1) = x - 1 := IntWalk.i64_in _ (by omega)
      have hin : i < n := HI.out
      have hkn : k < n := by omega
      by_cases hyx : y = x - 1
      · have hq : (y == x - 1) = true := by simp [hyx]
        have hpk : p = k := by have := HW.out; rw [if_pos hyx] at this; exact this.symm
        subst hpk
        go_wp2_with fail
        refine wp_region_quiet_below (by kernel_rfl) (by kernel_rfl) ?_
        repeat (quiet_step (fail))
        refine wpQuiet_nil ?_
        intro _ hw'
        obtain ⟨⟨dq, os⟩, hw''⟩ := hw'
        subst hw''
        clear kx ky
        have q := below_regrown wr dq os
        generalize grow (redrawn wr dq) os = w4 at q ⊢
        have HQ := Lib.hid (thru H.out.2 q)
        clear q
        go_wp2_with fail
        go_ret
        exact ⟨rfl, HQ.out⟩
      · have hq : (y == x - 1) = false := by simp [hyx]
        have hpk : parD (dOf bs) x k = p := by have := HW.out; rw [if_neg hyx] at this; exact this
        go_wp2_with fail
        refine wp_region_quiet_below (by kernel_rfl) (by kernel_rfl) ?_
        repeat (quiet_step (fail))
        refine wpQuiet_nil ?_
        intro _ hw'
        obtain ⟨⟨dq, os⟩, hw''⟩ := hw'
        subst hw''
        clear kx ky
        have q := below_regrown wr dq os
        generalize grow (redrawn wr dq) os = w4 at q ⊢
        have HQ := Lib.hid ((⟨hpk, thru H.out.2 q⟩ : parD (dOf bs) x k = p ∧ Below w.heap.size w w4))
        clear q hpk
        go_wp2_with fail
        go_roundw
        case rel => exact ⟨k, by omega, by go_num, HQ⟩
        case measure => simp [intOf]

set_option maxRecDepth 100000 in
set_option maxHeartbeats 1000000 in
theorem refend_any (A : Option Addr) (n c : Nat) (bs : List Bx) (i : Nat) (w : World) (hn : n = bs.length) (hlen : n ≤ 9223372036854775807) (hi : i < n) (hx : Boxes w w.heap.size A bs) :
    Calls Tryz.prog 49 #[.slice A n c, .int .i64 i] w fun e w' => e = .returned (.int .i64 (en (dOf bs) n i)) ∧ Below w.heap.size w w' := by
  obtain ⟨ad, rfl, hab, ci⟩ := Boxes.depth hx i (by omega)
  obtain ⟨x, hxd⟩ : ∃ x, dOf bs i = x := ⟨_, rfl⟩
  obtain ⟨p, hp⟩ : ∃ p, endD (dOf bs) x (n - (i + 1)) (i + 1) = p := ⟨_, rfl⟩
  rw [show en (dOf bs) n i = p by unfold en; rw [hxd]; exact hp]
  rw [hxd] at ci
  have HX := Lib.hid hx
  have HN := Lib.hid hn
  have HP := Lib.hid hp
  have HAB := Lib.hid hab
  clear hx hn hp hab hxd
  go_enter Tryz.func49, Tryz.ntmps49
  go_wp2_with fail
  go_loopw [5] (fun s wr => ∃ k : Nat, k ≤ n ∧ s = .int .i64 (k : Int) ∧ Hid (endD (dOf bs) x (n - k) k = p ∧ Below w.heap.size w wr)) (fun s _ => n - (intOf s).toNat)
  case atStart => exact ⟨i + 1, by omega, by go_num, Lib.hid ⟨HP.out, Below.refl _ _⟩⟩
  case round =>
    obtain ⟨k, hk, rfl, H⟩ := hrel
    have hci := (H.out.2.cell (p := ad.add (i * 14)) (by rw [block_of_add]; exact HAB.out)).trans ci
    by_cases hlt : k < n
    · obtain ⟨_, h1, _, ck⟩ := Boxes.depth HX.out k (by have := HN.out; omega)
      injection h1 with h1
      subst h1
      obtain ⟨y, hy⟩ : ∃ y, dOf bs k = y := ⟨_, rfl⟩
      have hw := H.out.1
      rw [show n - k = (n - (k + 1)) + 1 by omega, endD, hy] at hw
      have HW := Lib.hid hw
      rw [hy] at ck
      clear hw hy
      have hck := (H.out.2.cell (p := ad.add (k * 14)) (by rw [block_of_add]; exact HAB.out)).trans ck
      by_cases hyx : x < y
      · have hpk : endD (dOf bs) x (n - (k + 1)) (k + 1) = p := by have := HW.out; rw [if_pos hyx] at this; exact this
        go_upto_region 2 with fail
        go_quiet (fail)
        have q : Below wr.heap.size wr (wr.drewN nq) := ⟨rfl, rfl, rfl, Nat.le_refl _, fun _ _ => rfl⟩
        clear hci hck
        generalize wr.drewN nq = w4 at q ⊢
        have HQ := Lib.hid ((⟨hpk, thru H.out.2 q⟩ : endD (dOf bs) x (n - (k + 1)) (k + 1) = p ∧ Below w.heap.size w w4))
        clear q hpk
        go_wp2_with fail
        go_roundw
        case rel => exact ⟨k + 1, by omega, by go_num, HQ⟩
        case measure => simp [intOf]; omega
      · have hpk : p = k := by have := HW.out; rw [if_neg hyx] at this; exact this.symm
        subst hpk
        go_upto_region 2 with fail
        go_quiet (fail)
        have q : Below wr.heap.size wr (wr.drewN nq) := ⟨rfl, rfl, rfl, Nat.le_refl _, fun _ _ => rfl⟩
        clear hci hck
        generalize wr.drewN nq = w4 at q ⊢
        have HQ := Lib.hid (thru H.out.2 q)
        clear q
        go_wp2_with fail
        go_ret
        exact ⟨rfl, HQ.out⟩
    · obtain rfl : k = n := by omega
      have hpk : p = k := by have := H.out.1; rw [Nat.sub_self, endD] at this; exact this.symm
      subst hpk
      go_upto_region 2 with fail
      go_quiet (fail)
      have q : Below wr.heap.size wr (wr.drewN nq) := ⟨rfl, rfl, rfl, Nat.le_refl _, fun _ _ => rfl⟩
      clear hci
      generalize wr.drewN nq = w4 at q ⊢
      have HQ := Lib.hid (thru H.out.2 q)
      clear q
      go_wp2_with fail
      go_ret
      exact ⟨rfl, HQ.out⟩

end Go.Proofs.YtfomhdhiibcdfaaGreat.Tree

/-! The contracts of the document's Context, Children and Same. -/
namespace Go.Proofs.YtfomhdhiibcdfaaGreat.Tree
open Go.RowKit Go.Sort Go.Proofs.YtfomhdhiibcdfaaGreat.Record Go.Proofs.YtfomhdhiibcdfaaGreat.Script

/-- Which boxes of a list have a context of their own. -/
def oOf (bs : List Bx) (k : Nat) : Bool := openB (bs.getD k noB).k

set_option maxRecDepth 100000 in
set_option maxHeartbeats 1000000 in
theorem refkids_any (A : Option Addr) (n c : Nat) (bs : List Bx) (i : Nat) (w : World) (hn : n = bs.length) (hlen : n ≤ 1000) (hi : i < n) (hx : Boxes w w.heap.size A bs) (hd : ∀ k, k < n → 0 ≤ dOf bs k ∧ dOf bs k ≤ 256) :
    Calls Tryz.prog 26 #[.slice A n c, .int .i64 i] w fun e w' => (∃ A' c', e = .returned (.slice A' (kids (dOf bs) n i).length c') ∧ Mine w' w.heap.size A' (kids (dOf bs) n i).length c' ((kids (dOf bs) n i).map Int.ofNat)) ∧ Below w.heap.size w w' := by
  obtain ⟨ad, hA, hab, ci⟩ := Boxes.depth hx i (by omega)
  subst hA
  have hen := en_spec (dOf bs) n i hi
  obtain ⟨p, hp⟩ : ∃ p, en (dOf bs) n i = p := ⟨_, rfl⟩
  have HKP : Hid (kids (dOf bs) n i = kidsTo (dOf bs) i p) := Lib.hid (by unfold kids; rw [hp])
  rw [HKP.out]
  rw [hp] at hen
  obtain ⟨he1, he2, -, -⟩ := hen
  have HX := Lib.hid hx
  have HN := Lib.hid hn
  have HD := Lib.hid hd
  have HP := Lib.hid hp
  have HAB := Lib.hid hab
  obtain ⟨x, hxd⟩ : ∃ x, dOf bs i = x := ⟨_, rfl⟩
  have hx01 := hd i hi
  rw [hxd] at ci hx01
  have HXD := Lib.hid hxd
  clear hx hn hd hp hab hxd HKP
  go_enter Tryz.func26, Tryz.ntmps26
  go_wp2_with fail
  go_loopw [5, 6] (fun s t wr => ∃ m : Nat, ∃ A' : Option Addr, ∃ l c' : Nat, i + 1 ≤ m ∧ m ≤ p ∧ t = .int .i64 (m : Int) ∧ s = .slice A' l c' ∧ l ≤ m ∧ Hid (l = (kidsTo (dOf bs) i m).length ∧ Mine wr w.heap.size A' l c' ((kidsTo (dOf bs) i m).map Int.ofNat) ∧ Below w.heap.size w wr)) (fun _ t _ => p - (intOf t).toNat)
  case atStart => exact ⟨i + 1, _, 0, _, by omega, by omega, by go_num, rfl, by omega, Lib.hid ⟨by rw [kidsTo_start]; rfl, by rw [kidsTo_start]; exact none_mine _ _ (Nat.le_refl _), ba1 _ _⟩⟩
  case round =>
    obtain ⟨m, A', l, c', hm1, hm2, rfl, rfl, hlm, H⟩ := hrel
    have HE := Lib.hid (refend_any (some ad) n c bs i wr HN.out (by omega) hi ((HX.out.below H.out.2.2).more H.out.2.2.size))
    rw [HP.out] at HE
    by_cases hlt : m < p
    · go_upto_region 5 with (first | (go_at_call 49; refine HE.out.mono ?_; rintro e w1 ⟨rfl, k1⟩))
      have HM1 := Lib.hid (H.out.2.1.below k1)
      have K1 := Lib.hid (thru H.out.2.2 k1)
      clear k1 HE
      obtain ⟨_, h1, _, ck⟩ := Boxes.depth HX.out m (by have := HN.out; omega)
      injection h1 with h1
      subst h1
      have hmn : m < n := by omega
      have hy01 := HD.out m hmn
      obtain ⟨y, hy⟩ : ∃ y, dOf bs m = y := ⟨_, rfl⟩
      rw [hy] at ck hy01
      have HNX := Lib.hid (kidsTo_next (dOf bs) i m)
      rw [hy, HXD.out] at HNX
      clear hy
      have hci := (K1.out.cell (p := ad.add (i * 14)) (by rw [block_of_add]; exact HAB.out)).trans ci
      have hck := (K1.out.cell (p := ad.add (m * 14)) (by rw [block_of_add]; exact HAB.out)).trans ck
      have hwx : IntKind.i64.wrap (x + 1) = x + 1 := IntWalk.i64_in _ (by omega)
      by_cases hyx : y = x + 1
      · have hq : (y == x + 1) = true := by simp [hyx]
        go_quiet (fail)
        have q : Below w1.heap.size w1 (w1.drewN nq) := ⟨rfl, rfl, rfl, Nat.le_refl _, fun _ _ => rfl⟩
        clear hci hck
        generalize w1.drewN nq = w4 at q ⊢
        have HM4 := Lib.hid (HM1.out.below q)
        have K4 := Lib.hid (thru K1.out q)
        clear q HM1 K1
        go_wp2_with (first
          | (at_builtin; refine wpList_append_mine _ rfl (.tmp 29) (.tmp 31) rfl w.heap.size A' l c' ((kidsTo (dOf bs) i m).map Int.ofNat) rfl (HM4.out.alloc _) (some ⟨w4.heap.size, 0, none⟩) 1 1 [(m : Int)] rfl (one_src w4 (m : Int)) (by omega) (by have := K4.out.size; simp; omega) ?_; intro A1 c1' W1 h1; have hb1 := h1.below (HM4.out.alloc _) (K4.out.alloc K4.out.size _) (Nat.le_refl _) (by have := K4.out.size; simp; omega); have HM5 := Lib.hid h1.1; have K5 := Lib.hid hb1; clear h1 hb1))
        go_roundw
        case rel =>
          refine ⟨m + 1, A1, l + 1, c1', by omega, by omega, by go_num, rfl, by omega, Lib.hid ⟨?_, ?_, K5.out⟩⟩
          · rw [HNX.out, if_pos ⟨by omega, hyx⟩]; simp [H.out.1]
          · rw [HNX.out, if_pos ⟨by omega, hyx⟩, List.map_append]; exact HM5.out
        case measure => simp [intOf]; omega
      · have hq : (y == x + 1) = false := by simp [hyx]
        go_quiet (fail)
        have q : Below w1.heap.size w1 (w1.drewN nq) := ⟨rfl, rfl, rfl, Nat.le_refl _, fun _ _ => rfl⟩
        clear hci hck
        generalize w1.drewN nq = w4 at q ⊢
        have HM4 := Lib.hid (HM1.out.below q)
        have K4 := Lib.hid (thru K1.out q)
        clear q HM1 K1
        go_wp2_with fail
        go_roundw
        case rel =>
          refine ⟨m + 1, A', l, c', by omega, by omega, by go_num, rfl, by omega, Lib.hid ⟨?_, ?_, K4.out⟩⟩
          · rw [HNX.out, if_neg (fun h => hyx h.2)]; simp [H.out.1]
          · rw [HNX.out, if_neg (fun h => hyx h.2)]; simpa using HM4.out
        case measure => simp [intOf]; omega
    · obtain rfl : m = p := by omega
      go_wp2_with (first | (go_at_call 49; refine HE.out.mono ?_; rintro e w1 ⟨rfl, k1⟩))
      have HM1 := Lib.hid (H.out.2.1.below k1)
      have K1 := Lib.hid (thru H.out.2.2 k1)
      clear k1 HE
      go_ret
      have hl := H.out.1
      refine ⟨⟨A', c', by rw [← hl]; rfl, by rw [← hl]; exact HM1.out⟩, K1.out⟩

end Go.Proofs.YtfomhdhiibcdfaaGreat.Tree

/-! The contracts of the closures that Check's rules hold. -/
namespace Go.Proofs.YtfomhdhiibcdfaaGreat.Record
open Go.RowKit Go.Sort

set_option maxHeartbeats 400000 in
theorem r1_is (g : Nat) (b : Bx) (w : World) (ha : At w g b) (v : Bool) (hv : beyB b.k 1 5 = v) :
    Calls Tryz.prog 79 #[.pointer (some ⟨g, 0, none⟩)] w fun e w' => e = .returned (.bool v) ∧ Below w.heap.size w w' := by
  obtain ⟨c0, c1, c2, c3, c4, c5, -⟩ := ha
  have HV := Lib.hid hv
  clear hv
  go_enter Tryz.func79, Tryz.ntmps79
  go_wp2_with fail
  refine (beyond_is _ _ _ _ HV.out _).mono ?_; rintro e w' ⟨rfl, rfl⟩
  go_wp2_with fail
  go_ret
  exact ⟨rfl, Below.refl _ _⟩

set_option maxHeartbeats 400000 in
theorem r8_is (g : Nat) (b : Bx) (w : World) (ha : At w g b) (v : Bool) (hv : beyB b.d 0 256 = v) :
    Calls Tryz.prog 92 #[.pointer (some ⟨g, 0, none⟩)] w fun e w' => e = .returned (.bool v) ∧ Below w.heap.size w w' := by
  obtain ⟨c0, c1, c2, c3, c4, c5, -⟩ := ha
  have HV := Lib.hid hv
  clear hv
  go_enter Tryz.func92, Tryz.ntmps92
  go_wp2_with fail
  refine (beyond_is _ _ _ _ HV.out _).mono ?_; rintro e w' ⟨rfl, rfl⟩
  go_wp2_with fail
  go_ret
  exact ⟨rfl, Below.refl _ _⟩

set_option maxHeartbeats 400000 in
theorem r3_is (g : Nat) (b : Bx) (w : World) (ha : At w g b) (v : Bool) (hv : sideB b.k b.s = v) :
    Calls Tryz.prog 83 #[.pointer (some ⟨g, 0, none⟩)] w fun e w' => e = .returned (.bool (!v)) ∧ Below w.heap.size w w' := by
  obtain ⟨c0, c1, c2, c3, c4, c5, -⟩ := ha
  have HV := Lib.hid hv
  clear hv
  go_enter Tryz.func83, Tryz.ntmps83
  go_wp2_with fail
  refine (side_is _ _ _ HV.out _).mono ?_; rintro e w' ⟨rfl, rfl⟩
  go_wp2_with fail
  go_ret
  exact ⟨rfl, Below.refl _ _⟩

set_option maxHeartbeats 400000 in
theorem r4_is (g a : Nat) (b : Bx) (w : World) (ha : At w g b) (u : Bool) (hb : w.cell? ⟨a, 0, none⟩ = some (.bool u)) (v : Bool) (hv : beyB b.c 0 3 = v) :
    Calls Tryz.prog 85 #[.pointer (some ⟨g, 0, none⟩), .pointer (some ⟨a, 0, none⟩)] w fun e w' => e = .returned (.bool (v || (u && !(b.c == 0)))) ∧ Below w.heap.size w w' := by
  obtain ⟨c0, c1, c2, c3, c4, c5, -⟩ := ha
  have HV := Lib.hid hv
  clear hv
  cases v <;> cases u
  all_goals
    go_enter Tryz.func85, Tryz.ntmps85
    go_wp2_with fail
    refine (beyond_is _ _ _ _ HV.out _).mono ?_; rintro e w' ⟨rfl, rfl⟩
    go_wp2_with fail
    all_goals (go_ret; exact ⟨by simp [bne], Below.refl _ _⟩)

set_option maxHeartbeats 400000 in
theorem r5_is (g : Nat) (b : Bx) (w : World) (ha : At w g b) (x y : Int) (hx : leastW b.k = x) (hy : leastH b.k = y) (v : Bool) (hv : (decide (b.w < x) || decide (b.h < y)) = v) :
    Calls Tryz.prog 86 #[.pointer (some ⟨g, 0, none⟩)] w fun e w' => e = .returned (.bool v) ∧ Below w.heap.size w w' := by
  obtain ⟨c0, c1, c2, c3, c4, c5, -⟩ := ha
  have HX := Lib.hid hx
  have HY := Lib.hid hy
  have HV := Lib.hid hv
  clear hx hy hv
  obtain ⟨z, hz⟩ : ∃ z : Bool, decide (b.w < x) = z := ⟨_, rfl⟩
  have HZ := Lib.hid hz
  replace c0 := fun d os => cell_regrown c0 (d := d) (os := os)
  replace c1 := fun d os => cell_regrown c1 (d := d) (os := os)
  replace c4 := fun d os => cell_regrown c4 (d := d) (os := os)
  replace c5 := fun d os => cell_regrown c5 (d := d) (os := os)
  clear c2 c3
  cases z
  all_goals
    go_enter Tryz.func86, Tryz.ntmps86
    go_wp2_with fail
    refine wp_region_quiet_below (by kernel_rfl) (by kernel_rfl) ?_
    repeat (quiet_step (first
      | (go_at_call 87; exact Calls.regrown_of (calls_same_below (leastW_is _ _ HX.out _)))
      | (go_at_call 88; exact Calls.regrown_of (calls_same_below (leastH_is _ _ HY.out _)))))
    refine wpQuiet_nil ?_
    intro _ hw'
    obtain ⟨⟨dq4, os4⟩, hw''⟩ := hw'
    subst hw''
    go_wp2_with fail
    go_ret
    exact ⟨ret_bool (by rw [← HV.out, HZ.out]; simp), below_regrown _ _ _⟩

end Go.Proofs.YtfomhdhiibcdfaaGreat.Record

/-! The contracts of the closures that look at lists of a box's numbers. -/
namespace Go.Proofs.YtfomhdhiibcdfaaGreat.Record
open Go.RowKit Go.Sort

theorem nums2 (w : World) (x y : Int) (T : TypeId) : Nums (w.alloc (.cells #[.int .i64 x, .int .i64 y] T)) (w.heap.size + 1) (some ⟨w.heap.size, 0, none⟩) [x, y] := fun k hk => by
  simp at hk
  refine ⟨_, rfl, by simp, ?_⟩
  obtain rfl | rfl : k = 0 ∨ k = 1 := by omega
  all_goals simp [go_sem, Addr.add]

set_option maxHeartbeats 1000000 in
theorem r2_is (g : Nat) (b : Bx) (w : World) (ha : At w g b) (x y z : Bool) (hx : [b.w, b.h].any bigB = x) (hy : [b.m0, b.m1, b.m2, b.m3].any bigB = y) (hz : [b.e0, b.e1, b.e2, b.e3].any bigB = z) :
    Calls Tryz.prog 81 #[.pointer (some ⟨g, 0, none⟩)] w fun e w' => e = .returned (.bool (x || y || z)) ∧ Below w.heap.size w w' := by
  have hm := (ha.margins.below (ba1 w (.cells #[.int .i64 b.w, .int .i64 b.h] 3)))
  have he := (ha.edges.below (ba1 w (.cells #[.int .i64 b.w, .int .i64 b.h] 3)))
  obtain ⟨-, -, -, -, c4, c5, -⟩ := ha
  have HM := Lib.hid hm
  have HE := Lib.hid he
  have HX := Lib.hid hx
  have HY := Lib.hid hy
  have HZ := Lib.hid hz
  clear hx hy hz hm he
  cases x
  · cases y
    · go_enter Tryz.func81, Tryz.ntmps81
      go_wp2_with fail
      refine (toobig_is _ 2 2 [b.w, b.h] _ rfl (by omega) _ (nums2 _ _ _ _) _ HX.out).mono ?_; rintro e w' ⟨rfl, rfl⟩
      go_wp2_with fail
      refine (toobig_is _ 4 4 [b.m0, b.m1, b.m2, b.m3] _ rfl (by omega) _ HM.out _ HY.out).mono ?_; rintro e w' ⟨rfl, rfl⟩
      go_wp2_with fail
      refine (toobig_is _ 4 4 [b.e0, b.e1, b.e2, b.e3] _ rfl (by omega) _ HE.out _ HZ.out).mono ?_; rintro e w' ⟨rfl, rfl⟩
      go_wp2_with fail
      go_ret
      exact ⟨rfl, ba1 _ _⟩
    · go_enter Tryz.func81, Tryz.ntmps81
      go_wp2_with fail
      refine (toobig_is _ 2 2 [b.w, b.h] _ rfl (by omega) _ (nums2 _ _ _ _) _ HX.out).mono ?_; rintro e w' ⟨rfl, rfl⟩
      go_wp2_with fail
      refine (toobig_is _ 4 4 [b.m0, b.m1, b.m2, b.m3] _ rfl (by omega) _ HM.out _ HY.out).mono ?_; rintro e w' ⟨rfl, rfl⟩
      go_wp2_with fail
      go_ret
      exact ⟨rfl, ba1 _ _⟩
  · go_enter Tryz.func81, Tryz.ntmps81
    go_wp2_with fail
    refine (toobig_is _ 2 2 [b.w, b.h] _ rfl (by omega) _ (nums2 _ _ _ _) _ HX.out).mono ?_; rintro e w' ⟨rfl, rfl⟩
    go_wp2_with fail
    go_ret
    exact ⟨rfl, ba1 _ _⟩

theorem eq22 (a b c d x y z u : Int) (w : World) : (Op.equalIn 10000 44 (.agg #[.int .i64 a, .int .i64 b, .int .i64 c, .int .i64 d]) (.agg #[.int .i64 x, .int .i64 y, .int .i64 z, .int .i64 u])).run Tryz.prog w = .ok (a == x && b == y && c == z && d == u) w := by
  have u3 := Tryz.underlying3
  have a3 := Tryz.isAgg3
  have z3 := Tryz.sizeOf3
  rw [show (10000 : Nat) = 9999 + 1 from rfl, Op.equalIn]
  simp only [Sem.run_bind, run_underlying Tryz.underlying44, Result.andThen_ok]
  simp only [Std.Legacy.Range.forIn_eq_forIn_range', Std.Legacy.Range.size, Nat.sub_zero, Nat.add_sub_cancel, Nat.div_one, List.range'_succ, List.range'_zero, List.forIn_cons, List.forIn_nil]
  go_simp
  by_cases h1 : a = x <;> by_cases h2 : b = y <;> by_cases h3 : c = z <;> by_cases h4 : d = u <;> simp [h1, h2, h3, h4]

set_option maxHeartbeats 400000 in
theorem r6_is (g a : Nat) (b : Bx) (w : World) (ha : At w g b) (u : Bool) (hb : w.cell? ⟨a, 0, none⟩ = some (.bool u)) :
    Calls Tryz.prog 89 #[.pointer (some ⟨a, 0, none⟩), .pointer (some ⟨g, 0, none⟩)] w fun e w' => e = .returned (.bool (u && !(b.m0 == 0 && b.m1 == 0 && b.m2 == 0 && b.m3 == 0))) ∧ Below w.heap.size w w' := by
  obtain ⟨-, -, -, -, -, -, c6, c7, c8, c9, -⟩ := ha
  have E := eq22
  cases u
  all_goals
    go_enter Tryz.func89, Tryz.ntmps89
    go_wp2_with fail
    all_goals (go_ret; refine ⟨?_, Below.refl _ _⟩; first | rfl | exact ret_bool (by simp))

set_option maxHeartbeats 400000 in
theorem r7_is (g a : Nat) (b : Bx) (w : World) (ha : At w g b) (u : Bool) (hb : w.cell? ⟨a, 0, none⟩ = some (.bool u)) (v : Bool) (hv : decide (minOf [b.e0, b.e1, b.e2, b.e3] < 0) = v) :
    Calls Tryz.prog 90 #[.pointer (some ⟨g, 0, none⟩), .pointer (some ⟨a, 0, none⟩)] w fun e w' => e = .returned (.bool (v || (u && !(b.e0 == 0 && b.e1 == 0 && b.e2 == 0 && b.e3 == 0)))) ∧ Below w.heap.size w w' := by
  have HE := Lib.hid ha.edges
  obtain ⟨-, -, -, -, -, -, -, -, -, -, c6, c7, c8, c9⟩ := ha
  obtain ⟨n, hn⟩ : ∃ n, n = minOf [b.e0, b.e1, b.e2, b.e3] := ⟨_, rfl⟩
  rw [← hn] at hv
  have HN := Lib.hid hn
  have HV := Lib.hid hv
  clear hn
  have E := eq22
  cases v <;> cases u
  all_goals
    go_enter Tryz.func90, Tryz.ntmps90
    go_wp2_with fail
    refine (min_any _ 4 4 [b.e0, b.e1, b.e2, b.e3] _ rfl (by omega) (by omega) _ HE.out).mono ?_; rw [← HN.out]; rintro e w' ⟨rfl, rfl⟩
    go_wp2_with fail
    all_goals (go_ret; refine ⟨?_, Below.refl _ _⟩; first | rfl | exact ret_bool (by simp))

end Go.Proofs.YtfomhdhiibcdfaaGreat.Record

/-! The contracts of the rules that a box may break, and of Check. -/
namespace Go.Proofs.YtfomhdhiibcdfaaGreat.Record
open Go.RowKit Go.Sort

/-- The rules as they lie in a block. -/
def Rl (w : World) (q g a : Nat) : Prop :=
  w.cell? ⟨q, 0, none⟩ = some (.int .i64 4) ∧ w.cell? ⟨q, 1, none⟩ = some (.func (.func 79) #[] #[.pointer (some ⟨g, 0, none⟩)]) ∧
  w.cell? ⟨q, 2, none⟩ = some (.int .i64 10) ∧ w.cell? ⟨q, 3, none⟩ = some (.func (.func 81) #[] #[.pointer (some ⟨g, 0, none⟩)]) ∧
  w.cell? ⟨q, 4, none⟩ = some (.int .i64 5) ∧ w.cell? ⟨q, 5, none⟩ = some (.func (.func 83) #[] #[.pointer (some ⟨g, 0, none⟩)]) ∧
  w.cell? ⟨q, 6, none⟩ = some (.int .i64 6) ∧ w.cell? ⟨q, 7, none⟩ = some (.func (.func 85) #[] #[.pointer (some ⟨g, 0, none⟩), .pointer (some ⟨a, 0, none⟩)]) ∧
  w.cell? ⟨q, 8, none⟩ = some (.int .i64 7) ∧ w.cell? ⟨q, 9, none⟩ = some (.func (.func 86) #[] #[.pointer (some ⟨g, 0, none⟩)]) ∧
  w.cell? ⟨q, 10, none⟩ = some (.int .i64 8) ∧ w.cell? ⟨q, 11, none⟩ = some (.func (.func 89) #[] #[.pointer (some ⟨a, 0, none⟩), .pointer (some ⟨g, 0, none⟩)]) ∧
  w.cell? ⟨q, 12, none⟩ = some (.int .i64 9) ∧ w.cell? ⟨q, 13, none⟩ = some (.func (.func 90) #[] #[.pointer (some ⟨g, 0, none⟩), .pointer (some ⟨a, 0, none⟩)]) ∧
  w.cell? ⟨q, 14, none⟩ = some (.int .i64 11) ∧ w.cell? ⟨q, 15, none⟩ = some (.func (.func 92) #[] #[.pointer (some ⟨g, 0, none⟩)])

theorem Rl.below {w w' : World} {q g a : Nat} (h : Rl w q g a) (k : Below w.heap.size w w') : Rl w' q g a := by
  have hq : q < w.heap.size := block_lt_of_cell h.1
  have e : ∀ o, w'.cell? ⟨q, o, none⟩ = w.cell? ⟨q, o, none⟩ := fun o => k.cell (p := ⟨q, o, none⟩) hq
  unfold Rl at *
  simp only [e]
  exact h

/-- What Check reads after it has asked for the rules. -/
def Ready (w : World) (q g a : Nat) (b : Bx) : Prop := At w g b ∧ w.cell? ⟨a, 0, none⟩ = some (.bool (b.k == 5)) ∧ Rl w q g a

theorem Ready.below {w w' : World} {q g a : Nat} {b : Bx} (h : Ready w q g a b) (k : Below w.heap.size w w') : Ready w' q g a b := by
  obtain ⟨h1, h2, h3⟩ := h
  exact ⟨h1.below h1.lt k, by rw [k.cell (p := ⟨a, 0, none⟩) (block_lt_of_cell h2)]; exact h2, h3.below k⟩

set_option maxHeartbeats 1000000 in
theorem rules_any (b : Bx) (w : World) :
    Calls Tryz.prog 69 #[b.v] w fun e w' => (∃ q g a, e = .returned (.slice (some ⟨q, 0, none⟩) 8 8) ∧ Ready w' q g a b) ∧ Below w.heap.size w w' := by
  go_enter Tryz.func69, Tryz.ntmps69
  go_wp2
  go_ret
  refine ⟨⟨_, w.heap.size, w.heap.size + 1, rfl, ?_, ?_, ?_⟩, ba3 _ _ _ _⟩
  · unfold At; simp [go_sem]
  · simp [go_sem]
  · unfold Rl; simp [go_sem]

end Go.Proofs.YtfomhdhiibcdfaaGreat.Record

/-! The contract of Check. -/
namespace Go.Proofs.YtfomhdhiibcdfaaGreat.Record
open Go.RowKit Go.Sort

/-- The first error of those whose rule is broken. -/
def pickN : List (Bool × Int) → Int
  | [] => 0
  | (true, n) :: _ => n
  | (false, _) :: t => pickN t

/-- Which rules a box breaks, with their errors. -/
def brokenOf (b : Bx) : List (Bool × Int) :=
  [(beyB b.k 1 5, 4), ([b.w, b.h].any bigB || [b.m0, b.m1, b.m2, b.m3].any bigB || [b.e0, b.e1, b.e2, b.e3].any bigB, 10), (!sideB b.k b.s, 5), (beyB b.c 0 3 || ((b.k == 5) && !(b.c == 0)), 6),
    (decide (b.w < leastW b.k) || decide (b.h < leastH b.k), 7), ((b.k == 5) && !(b.m0 == 0 && b.m1 == 0 && b.m2 == 0 && b.m3 == 0), 8),
    (decide (minOf [b.e0, b.e1, b.e2, b.e3] < 0) || ((b.k == 5) && !(b.e0 == 0 && b.e1 == 0 && b.e2 == 0 && b.e3 == 0)), 9), (beyB b.d 0 256, 11)]

/-- What the i-th rule answers, as its closure tells it. -/
theorem closure_is (i f : Nat) (cap : Array Value) (s : Int) (q g a : Nat) (b : Bx) (w : World) (h : Ready w q g a b) (v : Bool) (hi : (brokenOf b)[i]? = some (v, s))
    (hc : w.cell? ⟨q, 2 * i + 1, none⟩ = some (.func (.func f) #[] cap)) :
    Calls Tryz.prog f cap w fun e w' => e = .returned (.bool v) ∧ Below w.heap.size w w' := by
  obtain ⟨h1, h2, h3⟩ := h
  obtain ⟨-, k0, -, k1, -, k2, -, k3, -, k4, -, k5, -, k6, -, k7⟩ := h3
  have hlt : i < 8 := by
    have := List.getElem?_eq_some_iff.1 hi
    obtain ⟨hl, -⟩ := this
    simpa [brokenOf] using hl
  obtain rfl | rfl | rfl | rfl | rfl | rfl | rfl | rfl : i = 0 ∨ i = 1 ∨ i = 2 ∨ i = 3 ∨ i = 4 ∨ i = 5 ∨ i = 6 ∨ i = 7 := by omega
  all_goals
    simp only [brokenOf, List.getElem?_cons_zero, List.getElem?_cons_succ, Option.some.injEq, Prod.mk.injEq] at hi
    obtain ⟨hv, -⟩ := hi
    simp only [Nat.reduceMul, Nat.reduceAdd, k0, k1, k2, k3, k4, k5, k6, k7, Option.some.injEq, Value.func.injEq, Fn.func.injEq, true_and] at hc
    obtain ⟨hf, hcap⟩ := hc
    subst hf hcap hv
  · exact r1_is g b w h1 _ rfl
  · exact r2_is g b w h1 _ _ _ rfl rfl rfl
  · exact r3_is g b w h1 _ rfl
  · exact r4_is g a b w h1 _ h2 _ rfl
  · exact r5_is g b w h1 _ _ rfl rfl _ rfl
  · exact r6_is g a b w h1 _ h2
  · exact r7_is g a b w h1 _ h2 _ rfl
  · exact r8_is g b w h1 _ rfl

end Go.Proofs.YtfomhdhiibcdfaaGreat.Record
