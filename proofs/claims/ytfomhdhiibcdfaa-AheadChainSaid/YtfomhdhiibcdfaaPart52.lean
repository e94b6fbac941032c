/- Texts of this proof that follow each other, in one file. -/
import Derived.Test.YtfomhdhiibcdfaaPart26
import Derived.OpenShut
import Derived.Test.YtfomhdhiibcdfaaPart49
import Derived.Test.YtfomhdhiibcdfaaPart29
/-! Pairs of small numbers that came in: a list of them. -/
namespace Go.Proofs.Ytfomhdhiibcdfaa.Ahead
open Go.ChangeShapes Go.WideShapes Go.ChangeAt Go.RowKit
set_option linter.unusedVariables false
set_option maxRecDepth 100000

theorem cells16 : Try.prog.cellsOf 54 = 1 := by kernel_rfl
theorem cellsP2 : Try.prog.cellsOf 55 = 2 := by kernel_rfl

def cellsPr (x : Int × Int) : List Value := [.int .i16 x.1, .int .i16 x.2]
def AtPr (w : World) (p : Addr) (x : Int × Int) : Prop := w.cell? p = some (.int .i16 x.1) ∧ w.cell? ⟨p.block, p.off + 1, none⟩ = some (.int .i16 x.2)
theorem AtPr.below {w w' : World} {B : Nat} {p : Addr} {x : Int × Int} (h : AtPr w p x) (hp : p.block < B) (k : Below B w w') : AtPr w' p x :=
  ⟨(k.cell (p := p) hp).trans h.1, (k.cell (p := ⟨p.block, p.off + 1, none⟩) hp).trans h.2⟩
/-- The pairs of a slice, below block B. -/
def Pairs (w : World) (B : Nat) (A : Option Addr) (l : List (Int × Int)) : Prop :=
  ∀ k x, l[k]? = some x → ∃ ad : Addr, A = some ad ∧ ad.block < B ∧ AtPr w (ad.add (k * 2)) x
theorem Pairs.below {w w' : World} {B : Nat} {A : Option Addr} {l : List (Int × Int)} (h : Pairs w B A l) (k : Below B w w') : Pairs w' B A l := fun i f hi => by
  obtain ⟨ad, e, hb, hc⟩ := h i f hi
  exact ⟨ad, e, hb, hc.below (by rw [block_of_add]; exact hb) k⟩
/-- Each of them is small. -/
def SmallP (l : List (Int × Int)) : Prop := ∀ x ∈ l, (-32768 ≤ x.1 ∧ x.1 ≤ 32767) ∧ -32768 ≤ x.2 ∧ x.2 ≤ 32767

theorem atPr_of {w : World} {p : Addr} {x : Int × Int} (h : ∀ j v, (cellsPr x)[j]? = some v → w.cell? (p.add j) = some v) : AtPr w p x := by
  refine ⟨?_, Shelf.cell_off _ _ _ _ (by omega) (h 1 _ rfl)⟩
  have := h 0 _ rfl
  simpa [Addr.add] using this

theorem bounds16 {a : Int} (w : (Lit.int .i16 a).wf = true) : -32768 ≤ a ∧ a ≤ 32767 := by
  simpa [Lit.wf, IntKind.min, IntKind.max, IntKind.signed, IntKind.bits] using w
theorem bounds32 {a : Int} (w : (Lit.int .i32 a).wf = true) : -2147483648 ≤ a ∧ a ≤ 2147483647 := by
  simpa [Lit.wf, IntKind.min, IntKind.max, IntKind.signed, IntKind.bits] using w

section
variable {H : Type} {enc : TypeId × Value → H} {w : World} {base : Nat} {spare : Nat → Bool} {held : Bool}

theorem list2 {α : Type} {l : List α} (h : l.length = 2) : ∃ c0 c1, l = [c0, c1] := by
  match l, h with
  | [c0, c1], _ => exact ⟨c0, c1, rfl⟩

/-- The cells of a pair that is read. -/
theorem cells_pair {n : Nat} {cs : List Value} {y : DataW H × List MemPlace} (hl : cs.length = 2) (h : DataW.trod enc Try.prog w base spare held n 55 cs = some y) : ∃ x : Int × Int, cs = cellsPr x ∧ (-32768 ≤ x.1 ∧ x.1 ≤ 32767) ∧ -32768 ≤ x.2 ∧ x.2 ≤ 32767 := by
  obtain ⟨c0, c1, rfl⟩ := list2 hl
  obtain ⟨xs, m, _, _, _, hlen, hf⟩ := DataW.trod_array Try.underlying55 h
  match xs, hlen with
  | [y0, y1], _ =>
    have f0 : DataW.trod enc Try.prog w base spare held m 54 ((([c0, c1] : List Value).drop (0 * Try.prog.cellsOf 54)).take (Try.prog.cellsOf 54)) = some y0 := hf 0 (by omega)
    have f1 : DataW.trod enc Try.prog w base spare held m 54 ((([c0, c1] : List Value).drop (1 * Try.prog.cellsOf 54)).take (Try.prog.cellsOf 54)) = some y1 := hf 1 (by omega)
    rw [cells16] at f0 f1
    simp only [Nat.zero_mul, Nat.one_mul, List.drop_succ_cons, List.drop_zero, List.take_succ_cons, List.take_zero] at f0 f1
    obtain ⟨x0, e0, -, w0⟩ := DataW.trod_int Try.underlying54 f0
    obtain ⟨x1, e1, -, w1⟩ := DataW.trod_int Try.underlying54 f1
    simp only [List.cons.injEq, and_true] at e0 e1
    subst e0 e1
    exact ⟨(x0, x1), rfl, bounds16 w0, bounds16 w1⟩

end

/-- A slice of pairs that came in. -/
theorem open_pairs {H : Type} {enc : TypeId × Value → H} {W : World} {v : Value} {d : DataW H} {ps : List MemPlace} (hv : ∃ a len cap, v = .slice a len cap)
    (h : DataW.Trod enc Try.prog W 0 (fun _ => true) true 53 v d ps) :
    ∃ A len cap xs, v = .slice A len cap ∧ len = xs.length ∧ len ≤ 9223372036854775807 ∧ len ≤ cap ∧ (A = none → cap = 0) ∧ Pairs W W.heap.size A xs ∧ SmallP xs := by
  obtain ⟨a0, len, cap, rfl⟩ := hv
  obtain ⟨fuel, hf⟩ := h
  rcases Go.Deep.open_slice Try.underlying53 hf with ⟨hcs, hx⟩ | ⟨a, len', cap', m, n, D, Pl, hcs, _, hl, hm, hz, hx, hcell⟩
  · simp [Value.cells] at hcs
    obtain ⟨rfl, rfl, rfl⟩ := hcs
    exact ⟨none, 0, 0, [], rfl, rfl, by omega, by omega, fun _ => rfl, fun k f hk => by simp at hk, fun x hx => by simp at hx⟩
  · simp [Value.cells] at hcs
    obtain ⟨rfl, rfl, rfl⟩ := hcs
    simp only [if_true] at hz
    subst hz
    unfold maxLen at hm
    have each : ∀ i, ∃ f : Int × Int, i < len → (a.block < W.heap.size ∧ AtPr W (a.add (i * 2)) f) ∧ (-32768 ≤ f.1 ∧ f.1 ≤ 32767) ∧ -32768 ≤ f.2 ∧ f.2 ≤ 32767 := fun i => by
      by_cases hi : i < len
      · obtain ⟨cs', hc, ht⟩ := hcell i (by omega)
        rw [cellsP2] at hc
        unfold World.cells? at hc
        split at hc
        · have hl2 : cs'.length = 2 := by
            have := Shelf.lenM hc
            simpa using this
          obtain ⟨f, rfl, hbd⟩ := cells_pair hl2 ht
          refine ⟨f, fun _ => ⟨?_, hbd⟩⟩
          have hat : ∀ j v, (cellsPr f)[j]? = some v → W.cell? ((a.add (i * 2)).add j) = some v := fun j v hv => by
            have hj : j < 2 := (List.getElem?_eq_some_iff.1 hv).1
            obtain ⟨y, hy, hfy⟩ := Shelf.mapM_at hc j j (by simp [List.getElem?_range hj])
            rw [hv] at hy
            injection hy with hy
            rw [hy]
            exact hfy
          refine ⟨?_, atPr_of hat⟩
          have hb := World.block_lt_of_cell? _ _ (hat 0 _ rfl)
          rw [block_of_add, block_of_add] at hb
          exact hb
        · simp at hc
      · exact ⟨(0, 0), fun h => absurd h hi⟩
    obtain ⟨f, hf⟩ := Classical.axiomOfChoice each
    refine ⟨some a, len, _, (List.range len).map f, rfl, by simp, by omega, hl, fun e => (by cases e), fun k x hk => ?_, fun x hx => ?_⟩
    · have hk' : k < len := by have := (List.getElem?_eq_some_iff.1 hk).1; simpa using this
      obtain ⟨⟨h1, h2⟩, -⟩ := hf k hk'
      refine ⟨a, rfl, h1, ?_⟩
      have : f k = x := by simpa [hk'] using hk
      rw [← this]
      exact h2
    · obtain ⟨i, hi, rfl⟩ := List.mem_map.1 hx
      exact (hf i (List.mem_range.1 hi)).2

end Go.Proofs.Ytfomhdhiibcdfaa.Ahead

/-! The list that the law of chains lays: what it is, and that nothing is wrong with it. No program is in it. -/
namespace Go.Proofs.Ytfomhdhiibcdfaa.Ahead
open Go.RowKit Go.Sort Go.Proofs.Ytfomhdhiibcdfaa.Record Go.Proofs.Ytfomhdhiibcdfaa.Script Go.Proofs.Ytfomhdhiibcdfaa.Tree Go.Proofs.Ytfomhdhiibcdfaa.Shelf Go.Proofs.Ytfomhdhiibcdfaa.Space Go.Proofs.Ytfomhdhiibcdfaa.Spot
set_option linter.unusedVariables false
set_option linter.unusedSimpArgs false

def chainB (high : Bool) (ml : List (Int × Int)) (j : Nat) : Bx :=
  if j = 0 then ⟨0, 3, 0, 0, 9, -1, 0, 0, 0, 0, 0, 0, 0, 0⟩
  else ⟨j, 1, 0, 0, -1, if high = true ∧ j = ml.length then 5 else -1, (ml.getD (j - 1) (0, 0)).1, 0, (ml.getD (j - 1) (0, 0)).2, 0, 0, 0, 0, 0⟩
def chainBs (high : Bool) (ml : List (Int × Int)) : List Bx := (List.range (ml.length + 1)).map (chainB high ml)

theorem chainBs_len (high : Bool) (ml : List (Int × Int)) : (chainBs high ml).length = ml.length + 1 := by simp [chainBs]
theorem chainBs_at (high : Bool) (ml : List (Int × Int)) (j : Nat) (h : j < ml.length + 1) : (chainBs high ml).getD j noB = chainB high ml j := by
  unfold chainBs
  rw [List.getD_eq_getElem?_getD, List.getElem?_map, List.getElem?_range h]
  rfl
theorem chainBs_deep (high : Bool) (ml : List (Int × Int)) (j : Nat) (h : j < ml.length + 1) : dOf (chainBs high ml) j = j := by
  unfold dOf
  rw [chainBs_at high ml j h]
  unfold chainB
  split
  · rename_i e; rw [e]; rfl
  · rfl

theorem chainBs_chain (high : Bool) (ml : List (Int × Int)) : Chain (chainBs high ml) high 1 ml := by
  have hl := chainBs_len high ml
  refine ⟨by omega, fun j hj => chainBs_deep high ml j (by omega), fun j h1 hj => ?_, fun j h1 hj => ?_, fun j a b h => ?_⟩
  · rw [chainBs_at high ml j (by omega)]
    unfold chainB
    rw [if_neg (by omega)]
    exact ⟨rfl, rfl, rfl, rfl⟩
  · rw [chainBs_at high ml j (by omega), hl]
    unfold chainB
    rw [if_neg (by omega)]
    show (if high = true ∧ j = ml.length then (5 : Int) else -1) = _
    by_cases e : j = ml.length
    · rw [e]; simp
    · have e2 : ¬ j + 1 = ml.length + 1 := by omega
      rw [if_neg (fun q => e q.2), if_neg (fun q => e2 q.2)]
  · have hj : j < ml.length := (List.getElem?_eq_some_iff.1 h).1
    rw [chainBs_at high ml (1 + j) (by omega)]
    unfold chainB
    rw [if_neg (by omega)]
    show (ml.getD (1 + j - 1) (0, 0)).1 = a ∧ (ml.getD (1 + j - 1) (0, 0)).2 = b
    rw [show 1 + j - 1 = j by omega, List.getD_eq_getElem?_getD, h]
    exact ⟨rfl, rfl⟩

/-- Nothing is wrong with it. -/
theorem chainBs_fine (high : Bool) (ml : List (Int × Int)) (h40 : ml.length ≤ 40) (hm : ∀ x ∈ ml, (-32768 ≤ x.1 ∧ x.1 ≤ 32767) ∧ -32768 ≤ x.2 ∧ x.2 ≤ 32767) : Fine (chainBs high ml) (chainBs high ml).length := by
  intro j hj
  rw [chainBs_len] at hj
  have hgood : Record.Good (chainB high ml j) := by
    by_cases h0 : j = 0
    · subst h0
      exact (good_iff _).1 (by unfold chainB; rw [if_pos rfl]; decide)
    · have hx : (-32768 ≤ (ml.getD (j - 1) (0, 0)).1 ∧ (ml.getD (j - 1) (0, 0)).1 ≤ 32767) ∧ -32768 ≤ (ml.getD (j - 1) (0, 0)).2 ∧ (ml.getD (j - 1) (0, 0)).2 ≤ 32767 := by
        have hjl : j - 1 < ml.length := by omega
        rw [List.getD_eq_getElem?_getD, List.getElem?_eq_getElem hjl]
        exact hm _ (List.getElem_mem hjl)
      unfold chainB
      rw [if_neg h0]
      generalize (ml.getD (j - 1) (0, 0)).1 = a at *
      generalize (ml.getD (j - 1) (0, 0)).2 = b at *
      have ha : bigB a = false := by unfold bigB beyB; simp; omega
      have hb : bigB b = false := by unfold bigB beyB; simp; omega
      have hh : ∀ h : Int, h = 5 ∨ h = -1 → Record.Good ⟨j, 1, 0, 0, -1, h, a, 0, b, 0, 0, 0, 0, 0⟩ := fun h hh => by
        have q : ∀ u : Bool, u = false → (bigB a || (bigB 0 || (bigB b || (bigB 0 || u)))) = false := fun u hu => by rw [ha, hb, hu]; rfl
        exact ⟨by dsimp only; decide, by rcases hh with rfl | rfl <;> (dsimp only; decide), q false rfl, by dsimp only; decide, by dsimp only; decide, by dsimp only; decide, fun _ => rfl, by rcases hh with rfl | rfl <;> (dsimp only; decide), by simp [badM], by dsimp only; decide, by show (0 : Int) ≤ j ∧ (j : Int) ≤ 256; omega⟩
      split
      · exact hh 5 (.inl rfl)
      · exact hh (-1) (.inr rfl)
  have hp := (good_iff _).2 hgood
  unfold badAt
  rw [chainBs_at high ml j hj, hp, if_neg (by simp)]
  by_cases h0 : j = 0
  · subst h0
    rw [if_pos rfl]
    rfl
  · rw [if_neg h0, chainBs_deep high ml j hj, chainBs_deep high ml (j - 1) (by omega), if_neg (by omega)]
    have hpar : par (dOf (chainBs high ml)) j = ((j - 1 : Nat) : Int) := by
      obtain ⟨q, rfl⟩ : ∃ q, j = q + 1 := ⟨j - 1, by omega⟩
      unfold par parD
      rw [chainBs_deep high ml (q + 1) hj, chainBs_deep high ml q (by omega), if_pos (by omega)]
      rfl
    rw [hpar]
    have hk : kOf (chainBs high ml) j = 1 := by
      unfold kOf
      rw [chainBs_at high ml j hj]
      unfold chainB
      rw [if_neg h0]
    have hk2 : kOf (chainBs high ml) (j - 1) = 1 ∨ kOf (chainBs high ml) (j - 1) = 3 := by
      unfold kOf
      rw [chainBs_at high ml (j - 1) (by omega)]
      unfold chainB
      split
      · exact .inr rfl
      · exact .inl rfl
    rw [hk, show ((j - 1 : Nat) : Int).toNat = j - 1 from rfl]
    rcases hk2 with e | e <;> rw [e] <;> rfl

/-- The margins that the law lists. -/
def wantL (high : Bool) : List (Int × Int) → List Int
  | [] => []
  | (a, _) :: rest => a :: wantC high rest

theorem chain_sp (high : Bool) (y : Int) (h s : Bool) (ml : List (Int × Int)) (hm : ml ≠ []) : (⟨y, chainI high ml, h, s⟩ : Rp).sp = (⟨y, wantL high ml, h, s⟩ : Rp).sp := by
  obtain _ | ⟨⟨a, b⟩, rest⟩ := ml
  · exact absurd rfl hm
  · obtain ⟨h1, h2⟩ := chain_most high a b rest
    have e : wantL high ((a, b) :: rest) = [a] ++ wantC high rest := rfl
    unfold Rp.sp
    rw [e, Strut.most_append, Strut.least_append]
    dsimp only
    rw [h1, h2]

theorem wantC_snoc (high : Bool) : ∀ (l : List (Int × Int)) (x : Int × Int), wantC high (l ++ [x]) = wantC high l ++ (if high = true then [x.1] else [x.1, x.2])
  | [], x => by obtain ⟨a, b⟩ := x; simp [wantC]
  | (a, b) :: l, x => by simp only [List.cons_append, wantC, wantC_snoc high l x, List.append_assoc]

theorem wantL_snoc (high : Bool) (l : List (Int × Int)) (x : Int × Int) (h : l ≠ []) : wantL high (l ++ [x]) = wantL high l ++ (if high = true then [x.1] else [x.1, x.2]) := by
  obtain _ | ⟨⟨a, b⟩, rest⟩ := l
  · exact absurd rfl h
  · show a :: wantC high (rest ++ [x]) = a :: wantC high rest ++ _
    rw [wantC_snoc]
    rfl

theorem wantC_all (high : Bool) (p : Int → Bool) : ∀ l : List (Int × Int), (∀ x ∈ l, p x.1 = true ∧ p x.2 = true) → (wantC high l).all p = true ∧ (wantC high l).length ≤ 2 * l.length
  | [], _ => ⟨rfl, by simp [wantC]⟩
  | (a, b) :: l, h => by
    obtain ⟨h1, h2⟩ := wantC_all high p l fun x hx => h x (List.mem_cons_of_mem _ hx)
    obtain ⟨q1, q2⟩ := h (a, b) (List.mem_cons_self ..)
    unfold wantC
    rw [List.all_append, h1]
    cases high
    · exact ⟨by simp [q1, q2], by simp; omega⟩
    · exact ⟨by simp [q1], by simp; omega⟩

theorem wantL_all (high : Bool) (p : Int → Bool) (l : List (Int × Int)) (h : ∀ x ∈ l, p x.1 = true ∧ p x.2 = true) : (wantL high l).all p = true ∧ (wantL high l).length ≤ 2 * l.length := by
  obtain _ | ⟨⟨a, b⟩, rest⟩ := l
  · exact ⟨rfl, by simp [wantL]⟩
  · obtain ⟨h1, h2⟩ := wantC_all high p rest fun x hx => h x (List.mem_cons_of_mem _ hx)
    obtain ⟨q1, q2⟩ := h (a, b) (List.mem_cons_self ..)
    unfold wantL
    exact ⟨by simp only [List.all_cons, h1, Bool.and_true]; exact q1, by simp; omega⟩

end Go.Proofs.Ytfomhdhiibcdfaa.Ahead

/-! The chain's list as it grows, its last box made high; the margins that the law lists. -/
namespace Go.Proofs.Ytfomhdhiibcdfaa.Ahead
open Go.RowKit Go.Sort Go.Proofs.Ytfomhdhiibcdfaa.More Go.Proofs.Ytfomhdhiibcdfaa.Record Go.Proofs.Ytfomhdhiibcdfaa.Script Go.Proofs.Ytfomhdhiibcdfaa.Tree Go.Proofs.Ytfomhdhiibcdfaa.Shelf Go.Proofs.Ytfomhdhiibcdfaa.Space Go.Proofs.Ytfomhdhiibcdfaa.Spot
set_option linter.unusedVariables false
set_option linter.unusedSimpArgs false

def chainT (ml : List (Int × Int)) (j : Nat) : List Bx := (List.range (j + 1)).map (chainB false ml)

theorem chainT_len (ml : List (Int × Int)) (j : Nat) : (chainT ml j).length = j + 1 := by simp [chainT]
theorem chainT_zero (ml : List (Int × Int)) : chainT ml 0 = [⟨0, 3, 0, 0, 9, -1, 0, 0, 0, 0, 0, 0, 0, 0⟩] := by
  unfold chainT
  rw [List.range_one, List.map_singleton]
  rfl
theorem chainT_next (ml : List (Int × Int)) (j : Nat) (a b : Int) (h : ml[j]? = some (a, b)) : chainT ml (j + 1) = chainT ml j ++ [⟨(j : Int) + 1, 1, 0, 0, -1, -1, a, 0, b, 0, 0, 0, 0, 0⟩] := by
  unfold chainT
  rw [List.range_succ (n := j + 1), List.map_append]
  congr 1
  show [chainB false ml (j + 1)] = _
  unfold chainB
  rw [if_neg (by omega), if_neg (by simp), Nat.add_sub_cancel, List.getD_eq_getElem?_getD, h]
  simp
theorem chainT_all (ml : List (Int × Int)) (n : Nat) (h : n = ml.length) : chainT ml n = chainBs false ml := by subst h; rfl
theorem chainBs_high (ml : List (Int × Int)) (h : 0 < ml.length) : chainBs true ml = (chainBs false ml).set ml.length { (chainBs false ml).getD ml.length noB with h := 5 } := by
  refine List.ext_getElem? fun i => ?_
  have hg := chainBs_at false ml ml.length (by omega)
  rw [hg, List.getElem?_set]
  by_cases e : ml.length = i
  · subst e
    rw [if_pos rfl, if_pos (by rw [chainBs_len]; omega)]
    have := chainBs_at true ml ml.length (by omega)
    rw [List.getD_eq_getElem?_getD, List.getElem?_eq_getElem (by rw [chainBs_len]; omega)] at this
    rw [List.getElem?_eq_getElem (by rw [chainBs_len]; omega)]
    simp only [Option.getD_some] at this
    have e1 : chainB true ml ml.length = ⟨(ml.length : Int), 1, 0, 0, -1, 5, (ml.getD (ml.length - 1) (0, 0)).1, 0, (ml.getD (ml.length - 1) (0, 0)).2, 0, 0, 0, 0, 0⟩ := by
      unfold chainB
      rw [if_neg (show ¬ ml.length = 0 by omega), if_pos ⟨rfl, rfl⟩]
    have e2 : chainB false ml ml.length = ⟨(ml.length : Int), 1, 0, 0, -1, -1, (ml.getD (ml.length - 1) (0, 0)).1, 0, (ml.getD (ml.length - 1) (0, 0)).2, 0, 0, 0, 0, 0⟩ := by
      unfold chainB
      rw [if_neg (show ¬ ml.length = 0 by omega), if_neg (by simp)]
    rw [this, e1, e2]
  · rw [if_neg e]
    by_cases hi : i < ml.length + 1
    · have h1 := chainBs_at true ml i hi
      have h2 := chainBs_at false ml i hi
      rw [List.getD_eq_getElem?_getD, List.getElem?_eq_getElem (by rw [chainBs_len]; omega)] at h1 h2
      rw [List.getElem?_eq_getElem (by rw [chainBs_len]; omega), List.getElem?_eq_getElem (by rw [chainBs_len]; omega)]
      simp only [Option.getD_some] at h1 h2
      rw [h1, h2]
      unfold chainB
      by_cases h0 : i = 0
      · rw [if_pos h0, if_pos h0]
      · rw [if_neg h0, if_neg h0, if_neg (fun q => e q.2.symm), if_neg (by simp)]
    · rw [List.getElem?_eq_none (by rw [chainBs_len]; omega), List.getElem?_eq_none (by rw [chainBs_len]; omega)]

theorem want_next (high : Bool) (ml : List (Int × Int)) (j : Nat) (a b : Int) (h : ml[j]? = some (a, b)) :
    wantL high (ml.take (j + 1)) = wantL high (ml.take j) ++ (if (decide (0 < j) && !high) = true then [a, b] else [a]) := by
  have hj : j < ml.length := (List.getElem?_eq_some_iff.1 h).1
  have ht : ml.take (j + 1) = ml.take j ++ [(a, b)] := by rw [List.take_add_one, h]; rfl
  rw [ht]
  by_cases h0 : j = 0
  · subst h0
    rfl
  · rw [wantL_snoc high _ _ (fun e => by have := congrArg List.length e; rw [List.length_take] at this; simp only [List.length_nil] at this; omega)]
    congr 1
    cases high
    · rw [if_neg (by simp), if_pos (by simp; omega)]
    · rw [if_pos rfl, if_neg (by simp)]

theorem want_len (high : Bool) (ml : List (Int × Int)) : (wantL high ml).length ≤ 2 * ml.length := (wantL_all high (fun _ => true) ml fun _ _ => ⟨rfl, rfl⟩).2

theorem chain_okB (high : Bool) (ml : List (Int × Int)) (h40 : ml.length ≤ 40) (hm : ∀ x ∈ ml, (-32768 ≤ x.1 ∧ x.1 ≤ 32767) ∧ -32768 ≤ x.2 ∧ x.2 ≤ 32767) : ∀ b ∈ chainBs high ml, OkB b := by
  intro b hb
  obtain ⟨j, hj, rfl⟩ := List.mem_map.1 hb
  have hj' := List.mem_range.1 hj
  have ok : ∀ n : Int, -9223372036854775808 ≤ n ∧ n ≤ 9223372036854775807 → (Lit.int .i64 n).wf = true := fun n hn => by
    simpa [Lit.wf, IntKind.min, IntKind.max, IntKind.signed, IntKind.bits] using hn
  unfold chainB
  by_cases h0 : j = 0
  · rw [if_pos h0]
    intro x hx
    simp only [List.mem_cons, List.not_mem_nil, or_false] at hx
    refine ok x ?_
    rcases hx with h | h | h | h | h | h | h | h | h | h | h | h | h | h <;> (subst h; omega)
  · rw [if_neg h0]
    have hx : (-32768 ≤ (ml.getD (j - 1) (0, 0)).1 ∧ (ml.getD (j - 1) (0, 0)).1 ≤ 32767) ∧ -32768 ≤ (ml.getD (j - 1) (0, 0)).2 ∧ (ml.getD (j - 1) (0, 0)).2 ≤ 32767 := by
      have hjl : j - 1 < ml.length := by omega
      rw [List.getD_eq_getElem?_getD, List.getElem?_eq_getElem hjl]
      exact hm _ (List.getElem_mem hjl)
    generalize (ml.getD (j - 1) (0, 0)).1 = a at *
    generalize (ml.getD (j - 1) (0, 0)).2 = b at *
    intro x hx
    simp only [List.mem_cons, List.not_mem_nil, or_false] at hx
    refine ok x ?_
    rcases hx with h | h | h | h | h | h | h | h | h | h | h | h | h | h <;> (subst h; first | omega | (split <;> omega))

/-- The height of one of one's own boxes is turned. -/
theorem boxes_high {T : TypeId} {w : World} {B n c g : Nat} {bs : List Bx} (h : MineB T w B (some ⟨g, 0, none⟩) n c bs) (k : Nat) (hk : k < n) (v : Int) :
    Boxes (w.setCell ⟨g, k * 14 + 5, none⟩ (.int .i64 v)) (w.setCell ⟨g, k * 14 + 5, none⟩ (.int .i64 v)).heap.size (some ⟨g, 0, none⟩) (bs.set k { bs.getD k noB with h := v }) := by
  have hl := h.len
  have addr : ∀ m : Nat, ((⟨g, 0, none⟩ : Addr).add m) = ⟨g, m, none⟩ := fun m => by
    unfold Addr.add
    by_cases e : m = 0
    · rw [if_pos e, e]
    · rw [if_neg e]; simp
  have old : ∀ m u, (bs.flatMap cellsOfB)[m]? = some u → w.cell? ⟨g, m, none⟩ = some u := fun m u hu => by
    obtain ⟨g', e, _, hc⟩ := h.cells m u hu
    injection e with e
    injection e with e1
    subst e1
    rw [addr] at hc
    exact hc
  have hg : g < w.heap.size := (h.lt g rfl).2
  intro i hi
  rw [List.length_set] at hi
  refine ⟨_, rfl, by simpa [World.setCell] using hg, AtP.of_cells fun j u hu => ?_⟩
  rw [add_add, addr]
  by_cases e : i = k
  · subst e
    have hb : (bs.set i { bs.getD i noB with h := v }).getD i noB = { bs.getD i noB with h := v } := by
      rw [List.getD_eq_getElem?_getD, List.getElem?_set_self hi]; rfl
    rw [hb] at hu
    have hj : j < 14 := by have := (List.getElem?_eq_some_iff.1 hu).1; rwa [cellsOfB_len] at this
    have ho := flat_at bs i hi
    by_cases h5 : j = 5
    · subst h5
      have hu' : Value.int .i64 v = u := by simpa [cellsOfB] using hu
      rw [← hu']
      exact World.cell?_setCell_same _ _ _ (old _ _ (ho 5 _ rfl))
    · rw [World.cell?_setCell_other _ _ _ _ (by simp <;> omega)]
      refine old _ _ (ho j u ?_)
      rw [← hu]
      obtain rfl | rfl | rfl | rfl | rfl | rfl | rfl | rfl | rfl | rfl | rfl | rfl | rfl : j = 0 ∨ j = 1 ∨ j = 2 ∨ j = 3 ∨ j = 4 ∨ j = 6 ∨ j = 7 ∨ j = 8 ∨ j = 9 ∨ j = 10 ∨ j = 11 ∨ j = 12 ∨ j = 13 := by omega
      all_goals rfl
  · have hb : (bs.set k { bs.getD k noB with h := v }).getD i noB = bs.getD i noB := by
      rw [List.getD_eq_getElem?_getD, List.getElem?_set_ne (Ne.symm e), ← List.getD_eq_getElem?_getD]
    rw [hb] at hu
    have hj : j < 14 := by have := (List.getElem?_eq_some_iff.1 hu).1; rwa [cellsOfB_len] at this
    rw [World.cell?_setCell_other _ _ _ _ (by simp <;> omega)]
    exact old _ _ (flat_at bs i hi j u hu)

/-- Another block isn't turned where a list of one's own grows. -/
theorem cell_grown {w w' : World} {row : Option Nat} (h : w.grownBy w' row) {b o : Nat} (hb : b < w.heap.size) (hne : some b ≠ row) : w'.cell? ⟨b, o, none⟩ = w.cell? ⟨b, o, none⟩ :=
  World.cell?_of_block (a := ⟨b, o, none⟩) (h.block b hb hne)

end Go.Proofs.Ytfomhdhiibcdfaa.Ahead

/-! The law of chains, of lists that are too long or empty. -/
namespace Go.Proofs.Ytfomhdhiibcdfaa.Ahead
open Go.RowKit Go.Sort Go.Proofs.Ytfomhdhiibcdfaa.More Go.Proofs.Ytfomhdhiibcdfaa.Record Go.Proofs.Ytfomhdhiibcdfaa.Script Go.Proofs.Ytfomhdhiibcdfaa.Tree Go.Proofs.Ytfomhdhiibcdfaa.Shelf Go.Proofs.Ytfomhdhiibcdfaa.Space Go.Proofs.Ytfomhdhiibcdfaa.Spot
set_option linter.unusedVariables false
set_option linter.unusedSimpArgs false

set_option maxRecDepth 100000 in
set_option maxHeartbeats 800000 in
theorem chain_no {T : World → Addr → List Bx → Prop} {S : World → (Nat → Prop) → Addr → List Fl → Prop} (hT : TreeOk T) (hS : SpaceOk S) (hA : AheadOk T S) (A : Option Addr) (n c : Nat) (y : Int) (high : Bool) (w : World) (hn : 40 < n ∨ n = 0) :
    Calls Try.prog 5 #[.slice A n c, .int .i32 y, .bool high] w fun e w' => e = .returned (.bool true) ∧ Below w.heap.size w w' := by
  rcases hn with hn | rfl
  · have h1 : (40 : Int) < (n : Int) := by omega
    clear hn
    go_enter Try.func5, Try.ntmps5
    go_wp2_with (first
      | (go_at_call 6; with_reducible refine (hspeaks hT hS hA w).mono ?_; rintro e w2 ⟨rfl, k2⟩; have K2 := Lib.hid k2; clear k2)
      | (go_at_call 6; with_reducible refine (hspeaks hT hS hA w2).mono ?_; rintro e w3 ⟨rfl, k3⟩; have K3 := Lib.hid (thru K2.out k3); clear k3))
    go_ret
    exact ⟨rfl, K3.out⟩
  · go_enter Try.func5, Try.ntmps5
    go_wp2_with (first
      | (go_at_call 6; with_reducible refine (hspeaks hT hS hA w).mono ?_; rintro e w2 ⟨rfl, k2⟩; have K2 := Lib.hid k2; clear k2)
      | (go_at_call 6; with_reducible refine (hspeaks hT hS hA w2).mono ?_; rintro e w3 ⟨rfl, k3⟩; have K3 := Lib.hid (thru K2.out k3); clear k3))
    go_ret
    exact ⟨rfl, K3.out⟩

end Go.Proofs.Ytfomhdhiibcdfaa.Ahead
