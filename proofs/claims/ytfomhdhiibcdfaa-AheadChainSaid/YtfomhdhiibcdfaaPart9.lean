/- Texts of this proof that follow each other, in one file. -/
import Derived.Test.YtfomhdhiibcdfaaPart1
import Derived.Test.YtfomhdhiibcdfaaPart2
import Derived.Deep.Slices
import Derived.Test.YtfomhdhiibcdfaaPart8
/-! A box that came in, by value. -/
namespace Go.Proofs.Ytfomhdhiibcdfaa.Record
open Go.ChangeShapes Go.WideShapes Go.ChangeAt Go.RowKit
set_option maxRecDepth 100000

theorem cellsInt : Try.prog.cellsOf 3 = 1 := by kernel_rfl
theorem cellsArr : Try.prog.cellsOf 39 = 4 := by kernel_rfl
theorem cellsBox : Try.prog.cellsOf 41 = 14 := by kernel_rfl

theorem array14 {α : Type} {cs : Array α} (h : cs.size = 14) : ∃ c0 c1 c2 c3 c4 c5 c6 c7 c8 c9 c10 c11 c12 c13, cs = #[c0, c1, c2, c3, c4, c5, c6, c7, c8, c9, c10, c11, c12, c13] := by
  obtain ⟨l⟩ := cs
  match l, h with
  | [c0, c1, c2, c3, c4, c5, c6, c7, c8, c9, c10, c11, c12, c13], _ => exact ⟨c0, c1, c2, c3, c4, c5, c6, c7, c8, c9, c10, c11, c12, c13, rfl⟩

section
variable {H : Type} {enc : TypeId × Value → H} {w : World} {base : Nat} {spare : Nat → Bool} {held : Bool}

theorem open_box {r : Reach} {b0 : Nat} {v : Value} {d : DataW H} {p : List MemPlace} (hv : Value.okWide Try.prog w r b0 41 v) (h : DataW.Trod enc Try.prog w base spare held 41 v d p) : ∃ b : Bx, v = b.v := by
  obtain ⟨cs, rfl, hsz⟩ := okWide_struct Try.underlying41 hv
  obtain ⟨c0, c1, c2, c3, c4, c5, c6, c7, c8, c9, c10, c11, c12, c13, rfl⟩ := array14 (hsz.trans cellsBox)
  obtain ⟨fuel, hf⟩ := h
  obtain ⟨xs, n, _, _, _, hlen, hf⟩ := DataW.trod_struct Try.underlying41 hf
  match xs, hlen with
  | [y0, y1, y2, y3, y4, y5, y6, y7], _ =>
    have f0 : DataW.trod enc Try.prog w base spare held n 3 (([c0, c1, c2, c3, c4, c5, c6, c7, c8, c9, c10, c11, c12, c13].drop 0).take (Try.prog.cellsOf 3)) = some y0 := hf 0 _ rfl
    have f1 : DataW.trod enc Try.prog w base spare held n 3 (([c0, c1, c2, c3, c4, c5, c6, c7, c8, c9, c10, c11, c12, c13].drop 1).take (Try.prog.cellsOf 3)) = some y1 := hf 1 _ rfl
    have f2 : DataW.trod enc Try.prog w base spare held n 3 (([c0, c1, c2, c3, c4, c5, c6, c7, c8, c9, c10, c11, c12, c13].drop 2).take (Try.prog.cellsOf 3)) = some y2 := hf 2 _ rfl
    have f3 : DataW.trod enc Try.prog w base spare held n 3 (([c0, c1, c2, c3, c4, c5, c6, c7, c8, c9, c10, c11, c12, c13].drop 3).take (Try.prog.cellsOf 3)) = some y3 := hf 3 _ rfl
    have f4 : DataW.trod enc Try.prog w base spare held n 3 (([c0, c1, c2, c3, c4, c5, c6, c7, c8, c9, c10, c11, c12, c13].drop 4).take (Try.prog.cellsOf 3)) = some y4 := hf 4 _ rfl
    have f5 : DataW.trod enc Try.prog w base spare held n 3 (([c0, c1, c2, c3, c4, c5, c6, c7, c8, c9, c10, c11, c12, c13].drop 5).take (Try.prog.cellsOf 3)) = some y5 := hf 5 _ rfl
    have f6 : DataW.trod enc Try.prog w base spare held n 39 (([c0, c1, c2, c3, c4, c5, c6, c7, c8, c9, c10, c11, c12, c13].drop 6).take (Try.prog.cellsOf 39)) = some y6 := hf 6 _ rfl
    have f7 : DataW.trod enc Try.prog w base spare held n 39 (([c0, c1, c2, c3, c4, c5, c6, c7, c8, c9, c10, c11, c12, c13].drop 10).take (Try.prog.cellsOf 39)) = some y7 := hf 7 _ rfl
    rw [cellsInt] at f0 f1 f2 f3 f4 f5
    rw [cellsArr] at f6 f7
    simp only [List.drop_succ_cons, List.drop_zero, List.take_succ_cons, List.take_zero] at f0 f1 f2 f3 f4 f5 f6 f7
    obtain ⟨x0, e0, -, -⟩ := DataW.trod_int Try.underlying3 f0
    obtain ⟨x1, e1, -, -⟩ := DataW.trod_int Try.underlying3 f1
    obtain ⟨x2, e2, -, -⟩ := DataW.trod_int Try.underlying3 f2
    obtain ⟨x3, e3, -, -⟩ := DataW.trod_int Try.underlying3 f3
    obtain ⟨x4, e4, -, -⟩ := DataW.trod_int Try.underlying3 f4
    obtain ⟨x5, e5, -, -⟩ := DataW.trod_int Try.underlying3 f5
    obtain ⟨_, _, _, _, _, _, g6, g7, g8, g9⟩ := ChangeShapes.trod_array4 Try.underlying39 cellsInt f6
    obtain ⟨_, _, _, _, _, _, g10, g11, g12, g13⟩ := ChangeShapes.trod_array4 Try.underlying39 cellsInt f7
    obtain ⟨x6, e6, -, -⟩ := DataW.trod_int Try.underlying3 g6
    obtain ⟨x7, e7, -, -⟩ := DataW.trod_int Try.underlying3 g7
    obtain ⟨x8, e8, -, -⟩ := DataW.trod_int Try.underlying3 g8
    obtain ⟨x9, e9, -, -⟩ := DataW.trod_int Try.underlying3 g9
    obtain ⟨x10, e10, -, -⟩ := DataW.trod_int Try.underlying3 g10
    obtain ⟨x11, e11, -, -⟩ := DataW.trod_int Try.underlying3 g11
    obtain ⟨x12, e12, -, -⟩ := DataW.trod_int Try.underlying3 g12
    obtain ⟨x13, e13, -, -⟩ := DataW.trod_int Try.underlying3 g13
    simp only [List.cons.injEq, and_true] at e0 e1 e2 e3 e4 e5 e6 e7 e8 e9 e10 e11 e12 e13
    subst e0 e1 e2 e3 e4 e5 e6 e7 e8 e9 e10 e11 e12 e13
    exact ⟨⟨x0, x1, x2, x3, x4, x5, x6, x7, x8, x9, x10, x11, x12, x13⟩, rfl⟩

end

end Go.Proofs.Ytfomhdhiibcdfaa.Record

/-! A list of boxes that came in. -/
namespace Go.Proofs.Ytfomhdhiibcdfaa.Script
open Go.ChangeShapes Go.WideShapes Go.ChangeAt Go.RowKit Go.Proofs.Ytfomhdhiibcdfaa.Record

theorem mapM_at {α β : Type} {f : α → Option β} : ∀ {l : List α} {r : List β}, l.mapM f = some r → ∀ (j : Nat) (x : α), l[j]? = some x → ∃ y, r[j]? = some y ∧ f x = some y := by
  intro l
  induction l with
  | nil => intro r h j x hx; simp at hx
  | cons a l ih =>
    intro r h j x hx
    rw [List.mapM_cons] at h
    simp only [bind, Option.bind_eq_some_iff, pure, Option.some.injEq] at h
    obtain ⟨b, hb, r', hr, rfl⟩ := h
    cases j with
    | zero =>
      simp only [List.getElem?_cons_zero, Option.some.injEq] at hx
      subst hx
      exact ⟨b, rfl, hb⟩
    | succ j =>
      simp only [List.getElem?_cons_succ] at hx ⊢
      exact ih hr j x hx

theorem lenM {α β : Type} {f : α → Option β} : ∀ {l : List α} {r : List β}, l.mapM f = some r → r.length = l.length := by
  intro l
  induction l with
  | nil => intro r h; simp at h; subst h; rfl
  | cons a l ih =>
    intro r h
    rw [List.mapM_cons] at h
    simp only [bind, Option.bind_eq_some_iff, pure, Option.some.injEq] at h
    obtain ⟨b, hb, r', hr, rfl⟩ := h
    simp [ih hr]

section
variable {H : Type} {enc : TypeId × Value → H} {w : World} {base : Nat} {spare : Nat → Bool} {held : Bool}

theorem list14 {α : Type} {l : List α} (h : l.length = 14) : ∃ c0 c1 c2 c3 c4 c5 c6 c7 c8 c9 c10 c11 c12 c13, l = [c0, c1, c2, c3, c4, c5, c6, c7, c8, c9, c10, c11, c12, c13] := by
  match l, h with
  | [c0, c1, c2, c3, c4, c5, c6, c7, c8, c9, c10, c11, c12, c13], _ => exact ⟨c0, c1, c2, c3, c4, c5, c6, c7, c8, c9, c10, c11, c12, c13, rfl⟩

/-- A box all whose numbers are ints. -/
def OkB (b : Bx) : Prop := ∀ x ∈ [b.d, b.k, b.s, b.c, b.w, b.h, b.m0, b.m1, b.m2, b.m3, b.e0, b.e1, b.e2, b.e3], (Lit.int .i64 x).wf = true

theorem okK {b : Bx} (h : OkB b) : (Lit.int .i64 b.k).wf = true := h b.k (by simp)

/-- The cells of a box that is read. -/
theorem cells_box {n : Nat} {cs : List Value} {y : DataW H × List MemPlace} (hl : cs.length = 14) (h : DataW.trod enc Try.prog w base spare held n 41 cs = some y) : ∃ b : Bx, cs = cellsOfB b ∧ OkB b := by
  obtain ⟨c0, c1, c2, c3, c4, c5, c6, c7, c8, c9, c10, c11, c12, c13, rfl⟩ := list14 hl
  obtain ⟨xs, n, _, _, _, hlen, hf⟩ := DataW.trod_struct Try.underlying41 h
  match xs, hlen with
  | [y0, y1, y2, y3, y4, y5, y6, y7], _ =>
    have f0 : DataW.trod enc Try.prog w base spare held n 3 (([c0, c1, c2, c3, c4, c5, c6, c7, c8, c9, c10, c11, c12, c13].drop 0).take (Try.prog.cellsOf 3)) = some y0 := hf 0 _ rfl
    have f1 : DataW.trod enc Try.prog w base spare held n 3 (([c0, c1, c2, c3, c4, c5, c6, c7, c8, c9, c10, c11, c12, c13].drop 1).take (Try.prog.cellsOf 3)) = some y1 := hf 1 _ rfl
    have f2 : DataW.trod enc Try.prog w base spare held n 3 (([c0, c1, c2, c3, c4, c5, c6, c7, c8, c9, c10, c11, c12, c13].drop 2).take (Try.prog.cellsOf 3)) = some y2 := hf 2 _ rfl
    have f3 : DataW.trod enc Try.prog w base spare held n 3 (([c0, c1, c2, c3, c4, c5, c6, c7, c8, c9, c10, c11, c12, c13].drop 3).take (Try.prog.cellsOf 3)) = some y3 := hf 3 _ rfl
    have f4 : DataW.trod enc Try.prog w base spare held n 3 (([c0, c1, c2, c3, c4, c5, c6, c7, c8, c9, c10, c11, c12, c13].drop 4).take (Try.prog.cellsOf 3)) = some y4 := hf 4 _ rfl
    have f5 : DataW.trod enc Try.prog w base spare held n 3 (([c0, c1, c2, c3, c4, c5, c6, c7, c8, c9, c10, c11, c12, c13].drop 5).take (Try.prog.cellsOf 3)) = some y5 := hf 5 _ rfl
    have f6 : DataW.trod enc Try.prog w base spare held n 39 (([c0, c1, c2, c3, c4, c5, c6, c7, c8, c9, c10, c11, c12, c13].drop 6).take (Try.prog.cellsOf 39)) = some y6 := hf 6 _ rfl
    have f7 : DataW.trod enc Try.prog w base spare held n 39 (([c0, c1, c2, c3, c4, c5, c6, c7, c8, c9, c10, c11, c12, c13].drop 10).take (Try.prog.cellsOf 39)) = some y7 := hf 7 _ rfl
    rw [cellsInt] at f0 f1 f2 f3 f4 f5
    rw [cellsArr] at f6 f7
    simp only [List.drop_succ_cons, List.drop_zero, List.take_succ_cons, List.take_zero] at f0 f1 f2 f3 f4 f5 f6 f7
    obtain ⟨x0, e0, -, o0⟩ := DataW.trod_int Try.underlying3 f0
    obtain ⟨x1, e1, -, o1⟩ := DataW.trod_int Try.underlying3 f1
    obtain ⟨x2, e2, -, o2⟩ := DataW.trod_int Try.underlying3 f2
    obtain ⟨x3, e3, -, o3⟩ := DataW.trod_int Try.underlying3 f3
    obtain ⟨x4, e4, -, o4⟩ := DataW.trod_int Try.underlying3 f4
    obtain ⟨x5, e5, -, o5⟩ := DataW.trod_int Try.underlying3 f5
    obtain ⟨_, _, _, _, _, _, g6, g7, g8, g9⟩ := ChangeShapes.trod_array4 Try.underlying39 cellsInt f6
    obtain ⟨_, _, _, _, _, _, g10, g11, g12, g13⟩ := ChangeShapes.trod_array4 Try.underlying39 cellsInt f7
    obtain ⟨x6, e6, -, o6⟩ := DataW.trod_int Try.underlying3 g6
    obtain ⟨x7, e7, -, o7⟩ := DataW.trod_int Try.underlying3 g7
    obtain ⟨x8, e8, -, o8⟩ := DataW.trod_int Try.underlying3 g8
    obtain ⟨x9, e9, -, o9⟩ := DataW.trod_int Try.underlying3 g9
    obtain ⟨x10, e10, -, o10⟩ := DataW.trod_int Try.underlying3 g10
    obtain ⟨x11, e11, -, o11⟩ := DataW.trod_int Try.underlying3 g11
    obtain ⟨x12, e12, -, o12⟩ := DataW.trod_int Try.underlying3 g12
    obtain ⟨x13, e13, -, o13⟩ := DataW.trod_int Try.underlying3 g13
    simp only [List.cons.injEq, and_true] at e0 e1 e2 e3 e4 e5 e6 e7 e8 e9 e10 e11 e12 e13
    subst e0 e1 e2 e3 e4 e5 e6 e7 e8 e9 e10 e11 e12 e13
    refine ⟨⟨x0, x1, x2, x3, x4, x5, x6, x7, x8, x9, x10, x11, x12, x13⟩, rfl, fun x hx => ?_⟩
    simp only [List.mem_cons, List.not_mem_nil, or_false] at hx
    rcases hx with h | h | h | h | h | h | h | h | h | h | h | h | h | h <;> (subst h; assumption)

end

/-- A slice of boxes that came in. -/
theorem open_boxes {H : Type} {enc : TypeId × Value → H} {W : World} {v : Value} {d : DataW H} {ps : List MemPlace} (hv : ∃ a len cap, v = .slice a len cap)
    (h : DataW.Trod enc Try.prog W 0 (fun _ => true) true 31 v d ps) :
    ∃ A len cap bs, v = .slice A len cap ∧ len = bs.length ∧ len ≤ 9223372036854775807 ∧ len ≤ cap ∧ (A = none → cap = 0) ∧ Boxes W W.heap.size A bs ∧ ∀ b ∈ bs, OkB b := by
  obtain ⟨a0, len, cap, rfl⟩ := hv
  obtain ⟨fuel, hf⟩ := h
  rcases Go.Deep.open_slice Try.underlying31 hf with ⟨hcs, hx⟩ | ⟨a, len', cap', m, n, D, Pl, hcs, _, hl, hm, hz, hx, hcell⟩
  · simp [Value.cells] at hcs
    obtain ⟨rfl, rfl, rfl⟩ := hcs
    exact ⟨none, 0, 0, [], rfl, rfl, by omega, by omega, fun _ => rfl, fun k hk => by simp at hk, fun b hb => by simp at hb⟩
  · simp [Value.cells] at hcs
    obtain ⟨rfl, rfl, rfl⟩ := hcs
    simp only [if_true] at hz
    subst hz
    unfold maxLen at hm
    have each : ∀ i, ∃ b : Bx, i < len → a.block < W.heap.size ∧ AtP W (a.add (i * 14)) b ∧ OkB b := fun i => by
      by_cases hi : i < len
      · obtain ⟨cs', hc, ht⟩ := hcell i (by omega)
        rw [cellsBox] at hc
        unfold World.cells? at hc
        split at hc
        · have hl14 : cs'.length = 14 := by
            have := lenM hc
            simpa using this
          obtain ⟨b, rfl, hok⟩ := cells_box hl14 ht
          refine ⟨b, fun _ => ?_⟩
          have hat : ∀ j v, (cellsOfB b)[j]? = some v → W.cell? ((a.add (i * 14)).add j) = some v := fun j v hv => by
            have hj : j < 14 := by
              have := (List.getElem?_eq_some_iff.1 hv).1
              rwa [cellsOfB_len] at this
            obtain ⟨y, hy, hfy⟩ := mapM_at hc j j (by simp [List.getElem?_range hj])
            rw [hv] at hy
            injection hy with hy
            rw [hy]
            exact hfy
          refine ⟨?_, AtP.of_cells hat, hok⟩
          have hb := World.block_lt_of_cell? _ _ (hat 0 _ rfl)
          rw [block_of_add, block_of_add] at hb
          exact hb
        · simp at hc
      · exact ⟨noB, fun h => absurd h hi⟩
    obtain ⟨f, hf⟩ := Classical.axiomOfChoice each
    refine ⟨some a, len, _, (List.range len).map f, rfl, by simp, by omega, hl, fun e => (by cases e), fun k hk => ?_, fun b hb => ?_⟩
    · have hk' : k < len := by simpa using hk
      obtain ⟨h1, h2, -⟩ := hf k hk'
      refine ⟨a, rfl, h1, ?_⟩
      simpa [List.getD, hk'] using h2
    · rw [List.mem_map] at hb
      obtain ⟨i, hi, rfl⟩ := hb
      exact (hf i (by simpa using hi)).2.2

end Go.Proofs.Ytfomhdhiibcdfaa.Script

/-! What is asked of the program's trees, whatever they look like in memory; the law's example, and its Begin. -/
namespace Go.Proofs.Ytfomhdhiibcdfaa.Tree
open Go.RowKit Go.Sort Go.Proofs.Ytfomhdhiibcdfaa.Record Go.Proofs.Ytfomhdhiibcdfaa.Script

/-- Has a tree a place? -/
def hasT (bs : List Bx) (i : Int) : Prop := 0 ≤ i ∧ i < bs.length

instance (bs : List Bx) (i : Int) : Decidable (hasT bs i) := inferInstanceAs (Decidable (_ ∧ _))

def boxT (bs : List Bx) (i : Int) : Bx := if hasT bs i then bs.getD i.toNat noB else noB
def parT (bs : List Bx) (i : Int) : Int := if hasT bs i then par (dOf bs) i.toNat else -1
def enT (bs : List Bx) (i : Int) : Int := if hasT bs i then (en (dOf bs) bs.length i.toNat : Int) else -1
def ctxT (bs : List Bx) (i : Int) : Int := if hasT bs i then (ctx (dOf bs) (oOf bs) i.toNat : Int) else -1
def kidsT (bs : List Bx) (i : Int) : List Int := if hasT bs i then (kids (dOf bs) bs.length i.toNat).map Int.ofNat else []
def opensT (bs : List Bx) : List Int := (((List.range bs.length).filter (oOf bs)).map Int.ofNat).reverse

theorem hasT_nat {bs : List Bx} {i : Nat} (h : i < bs.length) : hasT bs (i : Int) := ⟨by omega, by omega⟩
theorem boxT_nat {bs : List Bx} {i : Nat} (h : i < bs.length) : boxT bs (i : Int) = bs.getD i noB := by unfold boxT; rw [if_pos (hasT_nat h)]; rfl
theorem parT_nat {bs : List Bx} {i : Nat} (h : i < bs.length) : parT bs (i : Int) = par (dOf bs) i := by unfold parT; rw [if_pos (hasT_nat h)]; rfl
theorem enT_nat {bs : List Bx} {i : Nat} (h : i < bs.length) : enT bs (i : Int) = en (dOf bs) bs.length i := by unfold enT; rw [if_pos (hasT_nat h)]; rfl
theorem ctxT_nat {bs : List Bx} {i : Nat} (h : i < bs.length) : ctxT bs (i : Int) = ctx (dOf bs) (oOf bs) i := by unfold ctxT; rw [if_pos (hasT_nat h)]; rfl
theorem kidsT_nat {bs : List Bx} {i : Nat} (h : i < bs.length) : kidsT bs (i : Int) = (kids (dOf bs) bs.length i).map Int.ofNat := by unfold kidsT; rw [if_pos (hasT_nat h)]; rfl

/-- A slice of numbers that lies somewhere. -/
def GivesL (xs : List Int) (w : World) (u : Value) : Prop := ∃ A c, u = .slice A xs.length c ∧ Nums w w.heap.size A xs

/-- .. in new memory, if it has numbers. -/
def GivesN (B : Nat) (xs : List Int) (w : World) (u : Value) : Prop := ∃ A c, u = .slice A xs.length c ∧ Nums w w.heap.size A xs ∧ (xs ≠ [] → ∀ ad, A = some ad → B ≤ ad.block)

/-- The contracts of the program's trees. -/
structure TreeOk (T : World → Addr → List Bx → Prop) : Prop where
  keep : ∀ w w' p bs, T w p bs → Below w.heap.size w w' → T w' p bs
  yes : ∀ (A : Option Addr) (n c : Nat) (bs : List Bx) (w : World), n = bs.length → n ≤ 1000 → 0 < n → Boxes w w.heap.size A bs → (∀ b ∈ bs, OkB b) → Fine bs n →
    Calls Try.prog 16 #[.slice A n c] w fun r w' => (∃ p, r = .returned (.tuple #[.pointer (some p), .int .i64 (-1), .int .i64 0]) ∧ T w' p bs) ∧ Below w.heap.size w w'
  no : ∀ (A : Option Addr) (n c : Nat) (bs : List Bx) (w : World) (a e : Int), n = bs.length → n ≤ 1000 → Boxes w w.heap.size A bs → (∀ b ∈ bs, OkB b) → chk bs = (a, e) → e ≠ 0 →
    Calls Try.prog 16 #[.slice A n c] w fun r w' => r = .returned (.tuple #[.pointer none, .int .i64 a, .int .i64 e]) ∧ Below w.heap.size w w'
  box : ∀ w p bs (i : Int), T w p bs → Calls Try.prog 40 #[.pointer (some p), .int .i64 i] w fun r w' => r = .returned (boxT bs i).v ∧ Below w.heap.size w w'
  en : ∀ w p bs (i : Int), T w p bs → Calls Try.prog 54 #[.pointer (some p), .int .i64 i] w fun r w' => r = .returned (.int .i64 (enT bs i)) ∧ Below w.heap.size w w'

/-- What a list's Check answers is right: no error just if it's fine. -/
theorem chkF_fine (bs : List Bx) : ∀ f i, (∀ j, i ≤ j → j < i + f → badAt bs j = 0) → chkF bs f i = (-1, 0)
  | 0, _, _ => rfl
  | f + 1, i, h => by
    rw [chkF, if_pos (h i (Nat.le_refl _) (by omega))]
    exact chkF_fine bs f (i + 1) (fun j a b => h j (by omega) (by omega))

theorem chkF_ok (bs : List Bx) : ∀ f i a, chkF bs f i = (a, 0) → a = -1 ∧ ∀ j, i ≤ j → j < i + f → badAt bs j = 0
  | 0, i, a, h => by
    rw [chkF] at h
    injection h with h1 h2
    exact ⟨h1.symm, fun j x y => by omega⟩
  | f + 1, i, a, h => by
    rw [chkF] at h
    split at h
    · rename_i hb
      obtain ⟨h1, h2⟩ := chkF_ok bs f (i + 1) a h
      refine ⟨h1, fun j x y => ?_⟩
      by_cases e : j = i
      · subst e; exact hb
      · exact h2 j (by omega) (by omega)
    · rename_i hb
      injection h with h1 h2
      exact absurd h2 hb

theorem chk_fine {bs : List Bx} {n : Nat} (hn : n = bs.length) (h0 : 0 < n) (h : Fine bs n) : chk bs = (-1, 0) := by
  unfold chk
  rw [if_neg (by omega), ← hn]
  exact chkF_fine bs n 0 (fun j _ hj => h j (by omega))

theorem chk_ok {bs : List Bx} {n : Nat} {a : Int} (hn : n = bs.length) (h : chk bs = (a, 0)) : a = -1 ∧ 0 < n ∧ Fine bs n := by
  unfold chk at h
  split at h
  · injection h with h1 h2
    exact absurd h2 (by decide)
  · rename_i h0
    obtain ⟨h1, h2⟩ := chkF_ok bs bs.length 0 a h
    exact ⟨h1, by omega, fun j hj => h2 j (by omega) (by omega)⟩

section
variable {T : World → Addr → List Bx → Prop}

theorem oneB_boxes (w : World) (b : Bx) (t : TypeId) : Boxes (w.alloc (.cells (cellsOfB b).toArray t)) (w.alloc (.cells (cellsOfB b).toArray t)).heap.size (some ⟨w.heap.size, 0, none⟩) [b] := by
  have hm : MineB t (w.alloc (.cells (cellsOfB b).toArray t)) 0 (some ⟨w.heap.size, 0, none⟩) 1 1 [b] := by
    have := World.ownsRow_lit (e := t) (size := 14) (base := 0) w (cellsOfB b).toArray 1 (Nat.zero_le _) (by unfold maxLen; omega) rfl
    simpa [MineB] using this
  exact hm.boxes

theorem okB_zero (k : Int) (hk : (Lit.int .i64 k).wf = true) : OkB ⟨0, k, 0, 0, 0, 0, 0, 0, 0, 0, 0, 0, 0, 0⟩ := by
  intro x hx
  simp only [List.mem_cons, List.not_mem_nil, or_false] at hx
  rcases hx with h | h | h | h | h | h | h | h | h | h | h | h | h | h <;> subst h <;> first | exact hk | decide

set_option maxRecDepth 100000 in
set_option maxHeartbeats 1000000 in
theorem begin_some (hT : TreeOk T) (A : Option Addr) (n c : Nat) (bs : List Bx) (w : World) (hn : n = bs.length) (hlen : n ≤ 1000) (h0 : 0 < n) (hx : Boxes w w.heap.size A bs) (hb : ∀ b ∈ bs, OkB b) (hf : Fine bs n) :
    Calls Try.prog 22 #[.slice A n c] w fun r w' => (∃ p, r = .returned (.pointer (some p)) ∧ T w' p bs) ∧ Below w.heap.size w w' := by
  have HX := Lib.hid hx
  have HN := Lib.hid hn
  have HB := Lib.hid hb
  have HF := Lib.hid hf
  clear hx hn hb hf
  go_enter Try.func22, Try.ntmps22
  go_wp2_with fail
  refine (ofs_any A n c bs w HN.out (by omega) HX.out).mono ?_; rintro e w1 ⟨⟨A1, c1, rfl, h1⟩, k1⟩
  have K1 := Lib.hid k1
  have HM := Lib.hid h1
  clear k1 h1
  go_wp2_with fail
  refine (hT.yes A1 n c1 bs w1 HN.out hlen h0 HM.out.boxes HB.out HF.out).mono ?_; rintro e w2 ⟨⟨p, rfl, ht⟩, k2⟩
  have K2 := Lib.hid (thru K1.out k2)
  have HT2 := Lib.hid ht
  clear k2 ht
  go_wp2_with fail
  go_ret
  exact ⟨⟨p, rfl, HT2.out⟩, K2.out⟩

set_option maxRecDepth 100000 in
set_option maxHeartbeats 1000000 in
theorem begin_none (hT : TreeOk T) (A : Option Addr) (n c : Nat) (bs : List Bx) (w : World) (a e : Int) (hn : n = bs.length) (hlen : n ≤ 1000) (hx : Boxes w w.heap.size A bs) (hb : ∀ b ∈ bs, OkB b) (hc : chk bs = (a, e)) (he : e ≠ 0) :
    Calls Try.prog 22 #[.slice A n c] w fun r w' => r = .returned (.pointer none) ∧ Below w.heap.size w w' := by
  have HX := Lib.hid hx
  have HN := Lib.hid hn
  have HB := Lib.hid hb
  have HC := Lib.hid hc
  clear hx hn hb hc
  have he' : (e == 0) = false := by simp [he]
  go_enter Try.func22, Try.ntmps22
  go_wp2_with fail
  refine (ofs_any A n c bs w HN.out (by omega) HX.out).mono ?_; rintro r w1 ⟨⟨A1, c1, rfl, h1⟩, k1⟩
  have K1 := Lib.hid k1
  have HM := Lib.hid h1
  clear k1 h1
  go_wp2_with fail
  refine (hT.no A1 n c1 bs w1 a e HN.out hlen HM.out.boxes HB.out HC.out he).mono ?_; rintro r w2 ⟨rfl, k2⟩
  have K2 := Lib.hid (thru K1.out k2)
  clear k2
  go_wp2_with fail
  go_ret
  exact ⟨rfl, K2.out⟩

end

end Go.Proofs.Ytfomhdhiibcdfaa.Tree

/-! Floats in a list: what they leave free of rows, and shelves as the one shortest list that draws it. No program is in it. -/
namespace Go.Proofs.Ytfomhdhiibcdfaa.Shelf

/-- A float: its side, and its rectangle's numbers. -/
structure Fl where
  s : Int
  l : Int
  t : Int
  r : Int
  b : Int

abbrev far : Int := 4503599627370496

/-- Does a float count? -/
def cntF (f : Fl) : Bool := decide (f.l < f.r) && decide (f.t < f.b) && (decide (f.s = 1) || decide (f.s = 2))

/-- Does one that counts stand at a side, in some of the rows? -/
def hitF (side a z : Int) (f : Fl) : Bool := cntF f && decide (f.s = side) && decide (f.t < z) && decide (a < f.b) && decide (a < z)

theorem cntF_iff {f : Fl} : cntF f = true ↔ f.l < f.r ∧ f.t < f.b ∧ (f.s = 1 ∨ f.s = 2) := by
  unfold cntF; simp [and_assoc]
theorem hitF_iff {side a z : Int} {f : Fl} : hitF side a z f = true ↔ cntF f = true ∧ f.s = side ∧ f.t < z ∧ a < f.b ∧ a < z := by
  unfold hitF; simp [and_assoc]

/-- The greatest left bound of the rows from a up to z, and the least right one. -/
def bandL (fs : List Fl) (a z : Int) : Int := fs.foldl (fun v f => if hitF 1 a z f then max v f.r else v) (-far)
def bandR (fs : List Fl) (a z : Int) : Int := fs.foldl (fun v f => if hitF 2 a z f then min v f.l else v) far

theorem foldL_le (a z : Int) : ∀ (fs : List Fl) (v0 v : Int), fs.foldl (fun v f => if hitF 1 a z f then max v f.r else v) v0 ≤ v ↔ v0 ≤ v ∧ ∀ f ∈ fs, hitF 1 a z f = true → f.r ≤ v
  | [], v0, v => by simp
  | f :: fs, v0, v => by
    rw [List.foldl_cons, foldL_le a z fs]
    by_cases h : hitF 1 a z f = true
    · rw [if_pos h]
      constructor
      · rintro ⟨h1, h2⟩
        exact ⟨by omega, fun g hg hh => by
          rcases List.mem_cons.1 hg with e | e
          · subst e; omega
          · exact h2 g e hh⟩
      · rintro ⟨h1, h2⟩
        have := h2 f (by simp) h
        exact ⟨by omega, fun g hg hh => h2 g (by simp [hg]) hh⟩
    · rw [if_neg h]
      constructor
      · rintro ⟨h1, h2⟩
        exact ⟨h1, fun g hg hh => by
          rcases List.mem_cons.1 hg with e | e
          · subst e; exact absurd hh h
          · exact h2 g e hh⟩
      · rintro ⟨h1, h2⟩
        exact ⟨h1, fun g hg hh => h2 g (by simp [hg]) hh⟩

theorem foldR_le (a z : Int) : ∀ (fs : List Fl) (v0 v : Int), v ≤ fs.foldl (fun v f => if hitF 2 a z f then min v f.l else v) v0 ↔ v ≤ v0 ∧ ∀ f ∈ fs, hitF 2 a z f = true → v ≤ f.l
  | [], v0, v => by simp
  | f :: fs, v0, v => by
    rw [List.foldl_cons, foldR_le a z fs]
    by_cases h : hitF 2 a z f = true
    · rw [if_pos h]
      constructor
      · rintro ⟨h1, h2⟩
        exact ⟨by omega, fun g hg hh => by
          rcases List.mem_cons.1 hg with e | e
          · subst e; omega
          · exact h2 g e hh⟩
      · rintro ⟨h1, h2⟩
        have := h2 f (by simp) h
        exact ⟨by omega, fun g hg hh => h2 g (by simp [hg]) hh⟩
    · rw [if_neg h]
      constructor
      · rintro ⟨h1, h2⟩
        exact ⟨h1, fun g hg hh => by
          rcases List.mem_cons.1 hg with e | e
          · subst e; exact absurd hh h
          · exact h2 g e hh⟩
      · rintro ⟨h1, h2⟩
        exact ⟨h1, fun g hg hh => h2 g (by simp [hg]) hh⟩

theorem bandL_le {fs : List Fl} {a z v : Int} : bandL fs a z ≤ v ↔ -far ≤ v ∧ ∀ f ∈ fs, hitF 1 a z f = true → f.r ≤ v := foldL_le a z fs _ v
theorem le_bandR {fs : List Fl} {a z v : Int} : v ≤ bandR fs a z ↔ v ≤ far ∧ ∀ f ∈ fs, hitF 2 a z f = true → v ≤ f.l := foldR_le a z fs _ v

theorem eq_of_le {x y : Int} (h : ∀ v, x ≤ v ↔ y ≤ v) : x = y := by
  have h1 := (h y).2 (Int.le_refl _)
  have h2 := (h x).1 (Int.le_refl _)
  omega
theorem eq_of_ge {x y : Int} (h : ∀ v, v ≤ x ↔ v ≤ y) : x = y := by
  have h1 := (h x).1 (Int.le_refl _)
  have h2 := (h y).2 (Int.le_refl _)
  omega

/-- What is free hangs on which floats there are, on nothing else. -/
theorem bandL_congr {fs gs : List Fl} (h : ∀ f, f ∈ fs ↔ f ∈ gs) (a z : Int) : bandL fs a z = bandL gs a z :=
  eq_of_le fun v => by rw [bandL_le, bandL_le]; exact ⟨fun ⟨h1, h2⟩ => ⟨h1, fun f hf => h2 f ((h f).2 hf)⟩, fun ⟨h1, h2⟩ => ⟨h1, fun f hf => h2 f ((h f).1 hf)⟩⟩
theorem bandR_congr {fs gs : List Fl} (h : ∀ f, f ∈ fs ↔ f ∈ gs) (a z : Int) : bandR fs a z = bandR gs a z :=
  eq_of_ge fun v => by rw [le_bandR, le_bandR]; exact ⟨fun ⟨h1, h2⟩ => ⟨h1, fun f hf => h2 f ((h f).2 hf)⟩, fun ⟨h1, h2⟩ => ⟨h1, fun f hf => h2 f ((h f).1 hf)⟩⟩

/-- More floats leave no more free. -/
theorem bandL_more {fs gs : List Fl} (h : ∀ f ∈ fs, f ∈ gs) (a z : Int) : bandL fs a z ≤ bandL gs a z :=
  bandL_le.2 ⟨(bandL_le.1 (Int.le_refl _)).1, fun f hf hh => (bandL_le.1 (Int.le_refl (bandL gs a z))).2 f (h f hf) hh⟩
theorem bandR_more {fs gs : List Fl} (h : ∀ f ∈ fs, f ∈ gs) (a z : Int) : bandR gs a z ≤ bandR fs a z :=
  le_bandR.2 ⟨(le_bandR.1 (Int.le_refl _)).1, fun f hf hh => (le_bandR.1 (Int.le_refl (bandR gs a z))).2 f (h f hf) hh⟩

/-- No rows: all is free. -/
theorem bandL_none (fs : List Fl) {a z : Int} (h : z ≤ a) : bandL fs a z = -far :=
  eq_of_le fun v => by
    rw [bandL_le]
    exact ⟨fun h1 => h1.1, fun h1 => ⟨h1, fun f _ hh => by have := (hitF_iff.1 hh).2.2.2.2; omega⟩⟩
theorem bandR_none (fs : List Fl) {a z : Int} (h : z ≤ a) : bandR fs a z = far :=
  eq_of_ge fun v => by
    rw [le_bandR]
    exact ⟨fun h1 => h1.1, fun h1 => ⟨h1, fun f _ hh => by have := (hitF_iff.1 hh).2.2.2.2; omega⟩⟩

theorem hit_split {side a m z : Int} {f : Fl} (h1 : a ≤ m) (h2 : m ≤ z) : hitF side a z f = true ↔ hitF side a m f = true ∨ hitF side m z f = true := by
  simp only [hitF_iff]
  constructor
  · rintro ⟨c, s, h3, h4, h5⟩
    have := (cntF_iff.1 c).2.1
    by_cases h6 : f.t < m ∧ a < m
    · exact .inl ⟨c, s, h6.1, h4, h6.2⟩
    · exact .inr ⟨c, s, h3, by omega, by omega⟩
  · rintro (⟨c, s, h3, h4, h5⟩ | ⟨c, s, h3, h4, h5⟩)
    · exact ⟨c, s, by omega, h4, by omega⟩
    · exact ⟨c, s, h3, by omega, by omega⟩

/-- Rows, and more rows below them. -/
theorem bandL_split (fs : List Fl) {a m z : Int} (h1 : a ≤ m) (h2 : m ≤ z) : bandL fs a z = max (bandL fs a m) (bandL fs m z) :=
  eq_of_le fun v => by
    have e : max (bandL fs a m) (bandL fs m z) ≤ v ↔ bandL fs a m ≤ v ∧ bandL fs m z ≤ v := by omega
    rw [e, bandL_le, bandL_le, bandL_le]
    constructor
    · rintro ⟨h3, h4⟩
      exact ⟨⟨h3, fun f hf hh => h4 f hf ((hit_split h1 h2).2 (.inl hh))⟩, ⟨h3, fun f hf hh => h4 f hf ((hit_split h1 h2).2 (.inr hh))⟩⟩
    · rintro ⟨⟨h3, h4⟩, -, h5⟩
      exact ⟨h3, fun f hf hh => by
        rcases (hit_split h1 h2).1 hh with h | h
        · exact h4 f hf h
        · exact h5 f hf h⟩
theorem bandR_split (fs : List Fl) {a m z : Int} (h1 : a ≤ m) (h2 : m ≤ z) : bandR fs a z = min (bandR fs a m) (bandR fs m z) :=
  eq_of_ge fun v => by
    have e : v ≤ min (bandR fs a m) (bandR fs m z) ↔ v ≤ bandR fs a m ∧ v ≤ bandR fs m z := by omega
    rw [e, le_bandR, le_bandR, le_bandR]
    constructor
    · rintro ⟨h3, h4⟩
      exact ⟨⟨h3, fun f hf hh => h4 f hf ((hit_split h1 h2).2 (.inl hh))⟩, ⟨h3, fun f hf hh => h4 f hf ((hit_split h1 h2).2 (.inr hh))⟩⟩
    · rintro ⟨⟨h3, h4⟩, -, h5⟩
      exact ⟨h3, fun f hf hh => by
        rcases (hit_split h1 h2).1 hh with h | h
        · exact h4 f hf h
        · exact h5 f hf h⟩

/-- The bounds of one row. -/
def bndF (fs : List Fl) (y : Int) : Int × Int := (bandL fs y (y + 1), bandR fs y (y + 1))

/-! Shelves: the one shortest list that draws what each row has. -/

/-- A list draws F from a row on: each item has what the rows have from its own up to the next one's, and neighbours are unlike. -/
def Draws {β : Type} (F : Int → β) : Int → List (Int × β) → Prop
  | _, [] => False
  | a, [(t, b)] => t = a ∧ ∀ y, a ≤ y → F y = b
  | a, (t, b) :: (t2, b2) :: rest => t = a ∧ a < t2 ∧ b ≠ b2 ∧ (∀ y, a ≤ y → y < t2 → F y = b) ∧ Draws F t2 ((t2, b2) :: rest)

theorem draws_head {β : Type} {F : Int → β} {a t : Int} {b : β} {rest : List (Int × β)} (h : Draws F a ((t, b) :: rest)) : t = a ∧ F a = b := by
  cases rest with
  | nil => exact ⟨h.1, h.2 a (Int.le_refl _)⟩
  | cons x xs => obtain ⟨t2, b2⟩ := x; exact ⟨h.1, h.2.2.2.1 a (Int.le_refl _) h.2.1⟩

/-- There is one such list at most. -/
theorem draws_one {β : Type} {F : Int → β} : ∀ (xs ys : List (Int × β)) (a : Int), Draws F a xs → Draws F a ys → xs = ys
  | [], _, _, h, _ => h.elim
  | _ :: _, [], _, _, h => h.elim
  | [(t, b)], [(t', b')], a, h, h' => by
    have h1 := draws_head h
    have h2 := draws_head h'
    rw [h1.1, h2.1, ← h1.2, ← h2.2]
  | [(t, b)], (t', b') :: (t2', b2') :: r', a, h, h' => by
    obtain ⟨-, h2, h3, h4, h5⟩ := h'
    have h6 := (draws_head h5).2
    have h7 := h.2 t2' (by omega)
    have h8 := h4 a (Int.le_refl _) h2
    have h9 := h.2 a (Int.le_refl _)
    exact absurd (by rw [← h8, h9, ← h7, h6]) h3
  | (t, b) :: (t2, b2) :: r, [(t', b')], a, h, h' => by
    obtain ⟨-, h2, h3, h4, h5⟩ := h
    have h6 := (draws_head h5).2
    have h7 := h'.2 t2 (by omega)
    have h8 := h4 a (Int.le_refl _) h2
    have h9 := h'.2 a (Int.le_refl _)
    exact absurd (by rw [← h8, h9, ← h7, h6]) h3
  | (t, b) :: (t2, b2) :: r, (t', b') :: (t2', b2') :: r', a, h, h' => by
    have g1 := draws_head h
    have g2 := draws_head h'
    obtain ⟨-, h2, h3, h4, h5⟩ := h
    obtain ⟨-, k2, k3, k4, k5⟩ := h'
    have e1 := (draws_head h5).2
    have e2 := (draws_head k5).2
    have hb : b = b' := by rw [← g1.2, ← g2.2]
    have ht : t2 = t2' := by
      rcases Int.lt_trichotomy t2 t2' with hh | hh | hh
      · have := k4 t2 (by omega) hh
        exact absurd (by rw [hb, ← this, e1]) h3
      · exact hh
      · have := h4 t2' (by omega) hh
        exact absurd (by rw [← hb, ← this, e2]) k3
    subst ht
    have := draws_one ((t2, b2) :: r) ((t2, b2') :: r') t2 h5 k5
    rw [g1.1, g2.1, hb, this]

theorem draws_congr {β : Type} {F G : Int → β} : ∀ (xs : List (Int × β)) (a : Int), (∀ y, a ≤ y → F y = G y) → Draws F a xs → Draws G a xs
  | [], _, _, h => h
  | [(t, b)], a, hf, h => ⟨h.1, fun y hy => (hf y hy).symm.trans (h.2 y hy)⟩
  | (t, b) :: (t2, b2) :: r, a, hf, ⟨h1, h2, h3, h4, h5⟩ => ⟨h1, h2, h3, fun y hy h => (hf y hy).symm.trans (h4 y hy h), draws_congr ((t2, b2) :: r) t2 (fun y hy => hf y (by omega)) h5⟩

end Go.Proofs.Ytfomhdhiibcdfaa.Shelf

/-! The document's walk from edge to edge: it draws what each row has; its band over rows. No program is in it. -/
namespace Go.Proofs.Ytfomhdhiibcdfaa.Shelf

def stepN (y : Int) (c : Bool) (s : Int × Bool) (e : Int) : Int × Bool := if c && decide (y < e) && (!s.2 || decide (e < s.1)) then (e, true) else s

/-- The least edge below a row. -/
def nextF (fs : List Fl) (y : Int) : Int × Bool := fs.foldl (fun s f => stepN y (cntF f) (stepN y (cntF f) s f.t) f.b) (0, false)

/-- What has been found of the edges below a row that a test lets by. -/
def Least (y : Int) (P : Int → Prop) (s : Int × Bool) : Prop := if s.2 then y < s.1 ∧ P s.1 ∧ ∀ e, P e → y < e → s.1 ≤ e else s = (0, false) ∧ ∀ e, P e → ¬ y < e

theorem least_step {y : Int} {P : Int → Prop} {s : Int × Bool} (h : Least y P s) (c : Bool) (e : Int) : Least y (fun x => P x ∨ (c = true ∧ x = e)) (stepN y c s e) := by
  obtain ⟨v, ok⟩ := s
  unfold stepN
  unfold Least at h ⊢
  cases c
  · simp only [Bool.false_and, Bool.false_eq_true, if_false]
    cases ok
    · simp only [Bool.false_eq_true, if_false] at h ⊢
      exact ⟨h.1, fun x hx => by rcases hx with hx | hx; exact h.2 x hx; exact hx.1.elim⟩
    · simp only [if_true] at h ⊢
      exact ⟨h.1, .inl h.2.1, fun x hx => by rcases hx with hx | hx; exact h.2.2 x hx; exact hx.1.elim⟩
  · by_cases hy : y < e
    · cases ok
      · simp only [Bool.false_eq_true, if_false] at h
        simp only [hy, decide_true, Bool.not_false, Bool.true_or, Bool.and_true, if_true]
        exact ⟨trivial, .inr ⟨trivial, trivial⟩, fun x hx hxy => by
          rcases hx with hx | hx
          · exact absurd hxy (h.2 x hx)
          · omega⟩
      · simp only [if_true] at h
        by_cases he : e < v
        · simp only [Bool.true_and, hy, he, decide_true, Bool.not_true, Bool.false_or, if_true]
          exact ⟨trivial, .inr ⟨trivial, trivial⟩, fun x hx hxy => by
            rcases hx with hx | hx
            · have := h.2.2 x hx hxy; omega
            · omega⟩
        · simp only [Bool.true_and, hy, he, decide_true, decide_false, Bool.not_true, Bool.or_false, Bool.and_false, Bool.false_eq_true, if_false, if_true]
          exact ⟨h.1, .inl h.2.1, fun x hx hxy => by
            rcases hx with hx | hx
            · exact h.2.2 x hx hxy
            · omega⟩
    · simp only [hy, decide_false, Bool.and_false, Bool.false_and, Bool.false_eq_true, if_false]
      cases ok
      · simp only [Bool.false_eq_true, if_false] at h ⊢
        exact ⟨h.1, fun x hx => by
          rcases hx with hx | hx
          · exact h.2 x hx
          · rw [hx.2]; exact hy⟩
      · simp only [if_true] at h ⊢
        exact ⟨h.1, .inl h.2.1, fun x hx hxy => by
          rcases hx with hx | hx
          · exact h.2.2 x hx hxy
          · rw [hx.2] at hxy; exact absurd hxy hy⟩

theorem least_congr {y : Int} {P Q : Int → Prop} (h : ∀ x, P x ↔ Q x) {s : Int × Bool} (hs : Least y P s) : Least y Q s := by
  have : P = Q := funext fun x => propext (h x)
  rwa [← this]

/-- Is a number an edge of a float that counts? -/
def edge (fs : List Fl) (e : Int) : Prop := ∃ f ∈ fs, cntF f = true ∧ (e = f.t ∨ e = f.b)

theorem least_fold (y : Int) : ∀ (fs gs : List Fl) (s : Int × Bool), Least y (edge gs) s → Least y (edge (gs ++ fs)) (fs.foldl (fun s f => stepN y (cntF f) (stepN y (cntF f) s f.t) f.b) s)
  | [], gs, s, h => by rwa [List.append_nil]
  | f :: fs, gs, s, h => by
    rw [List.foldl_cons]
    have h1 := least_step (least_step h (cntF f) f.t) (cntF f) f.b
    have h2 := least_fold y fs (gs ++ [f]) _ (least_congr (Q := edge (gs ++ [f])) (fun x => by
      unfold edge
      constructor
      · rintro ((⟨g, hg, h3⟩ | ⟨hc, he⟩) | ⟨hc, he⟩)
        · exact ⟨g, by simp [hg], h3⟩
        · exact ⟨f, by simp, hc, .inl he⟩
        · exact ⟨f, by simp, hc, .inr he⟩
      · rintro ⟨g, hg, hc, he⟩
        rcases List.mem_append.1 hg with hg | hg
        · exact .inl (.inl ⟨g, hg, hc, he⟩)
        · rw [List.mem_singleton.1 hg] at hc he
          rcases he with he | he
          · exact .inl (.inr ⟨hc, he⟩)
          · exact .inr ⟨hc, he⟩) h1)
    rwa [List.append_assoc, List.singleton_append] at h2

theorem nextF_least (fs : List Fl) (y : Int) : Least y (edge fs) (nextF fs y) := by
  have := least_fold y fs [] (0, false) (by unfold Least; simp [edge])
  rwa [List.nil_append] at this

/-- Rows without an edge between them have the same bounds. -/
theorem bnd_same {fs : List Fl} {x y : Int} (hxy : y ≤ x) (h : ∀ e, edge fs e → y < e → x < e) : bndF fs x = bndF fs y := by
  have key : ∀ side, ∀ f ∈ fs, hitF side x (x + 1) f = true ↔ hitF side y (y + 1) f = true := by
    intro side f hf
    simp only [hitF_iff]
    constructor
    · rintro ⟨c, s, h1, h2, -⟩
      have ht := h f.t ⟨f, hf, c, .inl rfl⟩
      exact ⟨c, s, by omega, by omega, by omega⟩
    · rintro ⟨c, s, h1, h2, -⟩
      have hb := h f.b ⟨f, hf, c, .inr rfl⟩ h2
      exact ⟨c, s, by omega, by omega, by omega⟩
  unfold bndF
  rw [eq_of_le (x := bandL fs x (x + 1)) (y := bandL fs y (y + 1)) fun v => by
      rw [bandL_le, bandL_le]; exact ⟨fun ⟨h1, h2⟩ => ⟨h1, fun f hf hh => h2 f hf ((key 1 f hf).2 hh)⟩, fun ⟨h1, h2⟩ => ⟨h1, fun f hf hh => h2 f hf ((key 1 f hf).1 hh)⟩⟩,
    eq_of_ge (x := bandR fs x (x + 1)) (y := bandR fs y (y + 1)) fun v => by
      rw [le_bandR, le_bandR]; exact ⟨fun ⟨h1, h2⟩ => ⟨h1, fun f hf hh => h2 f hf ((key 2 f hf).2 hh)⟩, fun ⟨h1, h2⟩ => ⟨h1, fun f hf hh => h2 f hf ((key 2 f hf).1 hh)⟩⟩]

/-- A row that no float that counts has is as free as can be. -/
theorem bnd_free {fs : List Fl} {y : Int} (h : ∀ f ∈ fs, cntF f = true → y < f.t ∨ f.b ≤ y) : bndF fs y = (-far, far) := by
  have key : ∀ side, ∀ f ∈ fs, hitF side y (y + 1) f = true → False := fun side f hf hh => by
    obtain ⟨c, -, h1, h2, -⟩ := hitF_iff.1 hh
    have := h f hf c
    omega
  unfold bndF
  rw [eq_of_le (x := bandL fs y (y + 1)) (y := -far) fun v => by rw [bandL_le]; exact ⟨fun h1 => h1.1, fun h1 => ⟨h1, fun f hf hh => (key 1 f hf hh).elim⟩⟩,
    eq_of_ge (x := bandR fs y (y + 1)) (y := far) fun v => by rw [le_bandR]; exact ⟨fun h1 => h1.1, fun h1 => ⟨h1, fun f hf hh => (key 2 f hf hh).elim⟩⟩]

/-- The edges, with repeats. -/
def edgesL (fs : List Fl) : List Int := (fs.filter cntF).flatMap fun f => [f.t, f.b]
theorem edgesL_mem {fs : List Fl} {e : Int} : e ∈ edgesL fs ↔ edge fs e := by
  unfold edgesL edge
  simp only [List.mem_flatMap, List.mem_filter, List.mem_cons, List.not_mem_nil, or_false, and_assoc]
theorem edgesL_len (fs : List Fl) : (edgesL fs).length ≤ 2 * fs.length := by
  unfold edgesL
  have h1 : ∀ gs : List Fl, (gs.flatMap fun f => [f.t, f.b]).length = 2 * gs.length := fun gs => by
    induction gs with
    | nil => rfl
    | cons g gs ih => rw [List.flatMap_cons, List.length_append, ih]; simp; omega
  rw [h1]
  have := List.length_filter_le cntF fs
  omega
def leftN (fs : List Fl) (y : Int) : Nat := (edgesL fs).countP fun e => decide (y ≤ e)
theorem leftN_less {fs : List Fl} {y z : Int} (h : edge fs y) (hz : y < z) : leftN fs z < leftN fs y := by
  unfold leftN
  have hm := edgesL_mem.2 h
  generalize edgesL fs = es at hm
  induction es with
  | nil => cases hm
  | cons e es ih =>
    rw [List.countP_cons, List.countP_cons]
    have hmono : ∀ l : List Int, l.countP (fun e => decide (z ≤ e)) ≤ l.countP (fun e => decide (y ≤ e)) := fun l => List.countP_mono_left (fun x _ hx => by simp only [decide_eq_true_eq] at hx ⊢; omega)
    rcases List.mem_cons.1 hm with e1 | e1
    · subst e1
      have := hmono es
      rw [if_neg (by simp; omega), if_pos (by simp)]
      omega
    · have := ih e1
      by_cases h2 : z ≤ e
      · rw [if_pos (by simp [h2]), if_pos (by simp; omega)]; omega
      · rw [if_neg (by simp [h2])]; split <;> omega

/-- From an edge on: the shelves that begin there, or below. -/
def restS (fs : List Fl) : Nat → Int × Int → Int → List (Int × (Int × Int))
  | 0, _, _ => []
  | q + 1, b, y =>
    if bndF fs y = b then (if (nextF fs y).2 then restS fs q b (nextF fs y).1 else [])
    else (y, bndF fs y) :: (if (nextF fs y).2 then restS fs q (bndF fs y) (nextF fs y).1 else [])

theorem restS_draws {fs : List Fl} : ∀ (q : Nat) (a y : Int) (b : Int × Int), a < y → edge fs y → (∀ x, a ≤ x → x < y → bndF fs x = b) → leftN fs y ≤ q → Draws (bndF fs) a ((a, b) :: restS fs q b y)
  | 0, a, y, b, _, he, _, hq => by
    exfalso
    have h1 : 0 < leftN fs y := List.countP_pos_iff.2 ⟨y, edgesL_mem.2 he, by simp⟩
    omega
  | q + 1, a, y, b, ha, he, hc, hq => by
    have hn := nextF_least fs y
    unfold Least at hn
    unfold restS
    cases hok : (nextF fs y).2
    · rw [hok] at hn
      simp only [Bool.false_eq_true, if_false] at hn ⊢
      have hsame : ∀ x, y ≤ x → bndF fs x = bndF fs y := fun x hx => bnd_same hx (fun e h1 h2 => absurd h2 (hn.2 e h1))
      by_cases hb : bndF fs y = b
      · rw [if_pos hb]
        exact ⟨rfl, fun x hx => by
          by_cases h : x < y
          · exact hc x hx h
          · rw [hsame x (by omega), hb]⟩
      · rw [if_neg hb]
        exact ⟨rfl, ha, fun e => hb e.symm, hc, rfl, hsame⟩
    · rw [hok] at hn
      simp only [if_true] at hn ⊢
      obtain ⟨h1, h2, h3⟩ := hn
      have hsame : ∀ x, y ≤ x → x < (nextF fs y).1 → bndF fs x = bndF fs y := fun x hx hx2 => bnd_same hx (fun e g1 g2 => by have := h3 e g1 g2; omega)
      have hl := leftN_less he h1
      by_cases hb : bndF fs y = b
      · rw [if_pos hb]
        exact restS_draws q a _ b (by omega) h2 (fun x hx hx2 => by
          by_cases h : x < y
          · exact hc x hx h
          · rw [hsame x (by omega) hx2, hb]) (by omega)
      · rw [if_neg hb]
        have := restS_draws q y _ (bndF fs y) h1 h2 hsame (by omega)
        exact ⟨rfl, ha, fun e => hb e.symm, hc, this⟩

theorem restS_len {fs : List Fl} : ∀ (q : Nat) (b : Int × Int) (y : Int), (restS fs q b y).length ≤ q
  | 0, _, _ => Nat.le_refl _
  | q + 1, b, y => by
    unfold restS
    split <;> split
    · have := restS_len (fs := fs) q b (nextF fs y).1; omega
    · simp
    · have := restS_len (fs := fs) q (bndF fs y) (nextF fs y).1; simp; omega
    · simp

/-- The shelves. -/
def shelvesD (fs : List Fl) : List (Int × (Int × Int)) := (-far, (-far, far)) :: (if (nextF fs (-far)).2 then restS fs (2 * fs.length) (-far, far) (nextF fs (-far)).1 else [])

/-- Floats that aren't too far away. -/
def Near (fs : List Fl) : Prop := ∀ f ∈ fs, -2251799813685248 < f.t ∧ f.b < 2251799813685248

theorem shelvesD_draws {fs : List Fl} (hn : Near fs) : Draws (bndF fs) (-far) (shelvesD fs) := by
  have hfree : ∀ x, (∀ f ∈ fs, cntF f = true → x < f.t) → bndF fs x = (-far, far) := fun x h => bnd_free (fun f hf hc => .inl (h f hf hc))
  have hl := nextF_least fs (-far)
  unfold Least at hl
  unfold shelvesD
  cases hok : (nextF fs (-far)).2
  · rw [hok] at hl
    simp only [Bool.false_eq_true, if_false] at hl ⊢
    exact ⟨rfl, fun x _ => hfree x (fun f hf hc => absurd (by have := (hn f hf).1; unfold far; omega) (hl.2 f.t ⟨f, hf, hc, .inl rfl⟩))⟩
  · rw [hok] at hl
    simp only [if_true] at hl ⊢
    obtain ⟨h1, h2, h3⟩ := hl
    refine restS_draws _ _ _ _ h1 h2 (fun x hx hx2 => hfree x fun f hf hc => ?_) ?_
    · have := h3 f.t ⟨f, hf, hc, .inl rfl⟩ (by have := (hn f hf).1; unfold far; omega)
      omega
    · exact Nat.le_trans (List.countP_le_length ..) (edgesL_len fs)

theorem shelvesD_len (fs : List Fl) : (shelvesD fs).length ≤ 2 * fs.length + 1 := by
  unfold shelvesD
  rw [List.length_cons]
  split
  · have := restS_len (fs := fs) (2 * fs.length) (-far, far) (nextF fs (-far)).1; omega
  · simp

/-- What any list that draws the rows is. -/
theorem shelves_one {fs : List Fl} (hn : Near fs) {xs : List (Int × (Int × Int))} (h : Draws (bndF fs) (-far) xs) : xs = shelvesD fs := draws_one _ _ _ h (shelvesD_draws hn)

/-- The shelves hang on which floats there are, on nothing else. -/
theorem shelvesD_congr {fs gs : List Fl} (hn : Near fs) (hm : Near gs) (h : ∀ f, f ∈ fs ↔ f ∈ gs) : shelvesD fs = shelvesD gs :=
  draws_one _ _ _ (shelvesD_draws hn) (draws_congr _ _ (fun y _ => by unfold bndF; rw [bandL_congr h, bandR_congr h]) (shelvesD_draws hm))

/-- The document's band: the first row, and those where a float begins. -/
def docL (fs : List Fl) (a z : Int) : Int := fs.foldl (fun v f => if decide (a < f.t) && decide (f.t < z) then max v (bandL fs f.t (f.t + 1)) else v) (bandL fs a (a + 1))
def docR (fs : List Fl) (a z : Int) : Int := fs.foldl (fun v f => if decide (a < f.t) && decide (f.t < z) then min v (bandR fs f.t (f.t + 1)) else v) (bandR fs a (a + 1))

theorem foldM_le (p : Fl → Bool) (g : Fl → Int) : ∀ (fs : List Fl) (v0 v : Int), fs.foldl (fun v f => if p f then max v (g f) else v) v0 ≤ v ↔ v0 ≤ v ∧ ∀ f ∈ fs, p f = true → g f ≤ v
  | [], v0, v => by simp
  | f :: fs, v0, v => by
    rw [List.foldl_cons, foldM_le p g fs]
    simp only [List.mem_cons, forall_eq_or_imp]
    by_cases h : p f = true
    · rw [if_pos h]
      constructor
      · rintro ⟨h1, h2⟩; exact ⟨by omega, fun _ => by omega, h2⟩
      · rintro ⟨h1, h2, h3⟩; have := h2 h; exact ⟨by omega, h3⟩
    · rw [if_neg h]
      exact ⟨fun ⟨h1, h2⟩ => ⟨h1, fun e => absurd e h, h2⟩, fun ⟨h1, _, h3⟩ => ⟨h1, h3⟩⟩
theorem foldm_le (p : Fl → Bool) (g : Fl → Int) : ∀ (fs : List Fl) (v0 v : Int), v ≤ fs.foldl (fun v f => if p f then min v (g f) else v) v0 ↔ v ≤ v0 ∧ ∀ f ∈ fs, p f = true → v ≤ g f
  | [], v0, v => by simp
  | f :: fs, v0, v => by
    rw [List.foldl_cons, foldm_le p g fs]
    simp only [List.mem_cons, forall_eq_or_imp]
    by_cases h : p f = true
    · rw [if_pos h]
      constructor
      · rintro ⟨h1, h2⟩; exact ⟨by omega, fun _ => by omega, h2⟩
      · rintro ⟨h1, h2, h3⟩; have := h2 h; exact ⟨by omega, h3⟩
    · rw [if_neg h]
      exact ⟨fun ⟨h1, h2⟩ => ⟨h1, fun e => absurd e h, h2⟩, fun ⟨h1, _, h3⟩ => ⟨h1, h3⟩⟩

theorem docL_band {fs : List Fl} {a z : Int} (h : a < z) : docL fs a z = bandL fs a z :=
  eq_of_le fun v => by
    unfold docL
    rw [foldM_le, bandL_le, bandL_le]
    simp only [Bool.and_eq_true, decide_eq_true_eq]
    constructor
    · rintro ⟨⟨h1, h2⟩, h3⟩
      refine ⟨h1, fun f hf hh => ?_⟩
      obtain ⟨c, s, g1, g2, -⟩ := hitF_iff.1 hh
      by_cases g3 : f.t ≤ a
      · exact h2 f hf (hitF_iff.2 ⟨c, s, by omega, g2, by omega⟩)
      · exact (bandL_le.1 (h3 f hf ⟨by omega, g1⟩)).2 f hf (hitF_iff.2 ⟨c, s, by omega, (cntF_iff.1 c).2.1, by omega⟩)
    · rintro ⟨h1, h2⟩
      refine ⟨⟨h1, fun f hf hh => ?_⟩, fun g hg hgt => bandL_le.2 ⟨h1, fun f hf hh => ?_⟩⟩
      · obtain ⟨c, s, g1, g2, -⟩ := hitF_iff.1 hh
        exact h2 f hf (hitF_iff.2 ⟨c, s, by omega, g2, h⟩)
      · obtain ⟨c, s, g1, g2, -⟩ := hitF_iff.1 hh
        exact h2 f hf (hitF_iff.2 ⟨c, s, by omega, by omega, h⟩)
theorem docR_band {fs : List Fl} {a z : Int} (h : a < z) : docR fs a z = bandR fs a z :=
  eq_of_ge fun v => by
    unfold docR
    rw [foldm_le, le_bandR, le_bandR]
    simp only [Bool.and_eq_true, decide_eq_true_eq]
    constructor
    · rintro ⟨⟨h1, h2⟩, h3⟩
      refine ⟨h1, fun f hf hh => ?_⟩
      obtain ⟨c, s, g1, g2, -⟩ := hitF_iff.1 hh
      by_cases g3 : f.t ≤ a
      · exact h2 f hf (hitF_iff.2 ⟨c, s, by omega, g2, by omega⟩)
      · exact (le_bandR.1 (h3 f hf ⟨by omega, g1⟩)).2 f hf (hitF_iff.2 ⟨c, s, by omega, (cntF_iff.1 c).2.1, by omega⟩)
    · rintro ⟨h1, h2⟩
      refine ⟨⟨h1, fun f hf hh => ?_⟩, fun g hg hgt => le_bandR.2 ⟨h1, fun f hf hh => ?_⟩⟩
      · obtain ⟨c, s, g1, g2, -⟩ := hitF_iff.1 hh
        exact h2 f hf (hitF_iff.2 ⟨c, s, by omega, g2, h⟩)
      · obtain ⟨c, s, g1, g2, -⟩ := hitF_iff.1 hh
        exact h2 f hf (hitF_iff.2 ⟨c, s, by omega, by omega, h⟩)

end Go.Proofs.Ytfomhdhiibcdfaa.Shelf

/-! What the document says of a space: the last float's top, the bottom of what is cleared, the height of rows. -/
namespace Go.Proofs.Ytfomhdhiibcdfaa.Space
open Go.Proofs.Ytfomhdhiibcdfaa.Shelf

/-- The greatest top. -/
def lastD : List Fl → Int
  | [] => 0
  | f :: fs => fs.foldl (fun m g => max m g.t) f.t

theorem lastD_snoc (fs : List Fl) (f : Fl) : lastD (fs ++ [f]) = if fs = [] then f.t else max (lastD fs) f.t := by
  cases fs with
  | nil => rfl
  | cons g gs => simp [lastD, List.foldl_append]

theorem lastD_take {fs : List Fl} {k : Nat} {f : Fl} (h : fs[k]? = some f) : lastD (fs.take (k + 1)) = if k = 0 then f.t else max (lastD (fs.take k)) f.t := by
  rw [List.take_add_one, h]
  show lastD (fs.take k ++ [f]) = _
  rw [lastD_snoc]
  have hk : k < fs.length := by
    rcases Nat.lt_or_ge k fs.length with g | g
    · exact g
    · rw [List.getElem?_eq_none g] at h; cases h
  by_cases e : k = 0
  · subst e; simp
  · rw [if_neg e, if_neg]
    intro h0
    have := congrArg List.length h0
    rw [List.length_take, List.length_nil] at this
    omega

theorem lastD_ge (fs : List Fl) (f : Fl) (h : f ∈ fs) : f.t ≤ lastD fs := by
  have key : ∀ (gs : List Fl) (m : Int), m ≤ gs.foldl (fun m g => max m g.t) m ∧ ∀ g ∈ gs, g.t ≤ gs.foldl (fun m g => max m g.t) m := by
    intro gs
    induction gs with
    | nil => intro m; exact ⟨Int.le_refl _, fun g hg => by cases hg⟩
    | cons a gs ih =>
      intro m
      obtain ⟨h1, h2⟩ := ih (max m a.t)
      simp only [List.foldl_cons]
      refine ⟨by omega, fun g hg => ?_⟩
      rcases List.mem_cons.1 hg with rfl | hg
      · omega
      · exact h2 g hg
  cases fs with
  | nil => cases h
  | cons g gs =>
    obtain ⟨h1, h2⟩ := key gs g.t
    rcases List.mem_cons.1 h with rfl | h
    · exact h1
    · exact h2 f h

theorem lastD_mem (fs : List Fl) (h : fs ≠ []) : ∃ f ∈ fs, f.t = lastD fs := by
  have key : ∀ (gs : List Fl) (m : Int), gs.foldl (fun m g => max m g.t) m = m ∨ ∃ g ∈ gs, g.t = gs.foldl (fun m g => max m g.t) m := by
    intro gs
    induction gs with
    | nil => intro m; exact .inl rfl
    | cons a gs ih =>
      intro m
      simp only [List.foldl_cons]
      rcases ih (max m a.t) with e | ⟨g, hg, e⟩
      · by_cases hm : a.t ≤ m
        · left; rw [e]; omega
        · right; exact ⟨a, List.mem_cons_self .., by rw [e]; omega⟩
      · exact .inr ⟨g, List.mem_cons_of_mem _ hg, e⟩
  cases fs with
  | nil => exact absurd rfl h
  | cons g gs =>
    rcases key gs g.t with e | ⟨f, hf, e⟩
    · exact ⟨g, List.mem_cons_self .., e.symm⟩
    · exact ⟨f, List.mem_cons_of_mem _ hf, e⟩

/-- Is a float of this side cleared? -/
def clrB (c s : Int) : Bool := c == 3 || (c != 0 && c == s)

def botStep (c : Int) (s : Int × Bool) (f : Fl) : Int × Bool := if clrB c f.s && (!s.2 || decide (s.1 < f.b)) then (f.b, true) else s

/-- The greatest bottom of what is cleared, and whether there is one. -/
def botS (fs : List Fl) (c : Int) : Int × Bool := fs.foldl (botStep c) (0, false)

theorem botS_snoc (fs : List Fl) (f : Fl) (c : Int) : botS (fs ++ [f]) c = botStep c (botS fs c) f := by unfold botS; rw [List.foldl_append]; rfl

theorem botS_take {fs : List Fl} {k : Nat} {f : Fl} (h : fs[k]? = some f) (c : Int) : botS (fs.take (k + 1)) c = botStep c (botS (fs.take k) c) f := by
  rw [List.take_add_one, h]
  exact botS_snoc _ f c

/-- None: nothing is cleared. -/
theorem botS_none (fs : List Fl) : botS fs 0 = (0, false) := by
  unfold botS
  induction fs with
  | nil => rfl
  | cons f fs ih => exact ih

def clearS (fs : List Fl) (c y : Int) : Int := if (botS fs c).2 && decide (y < (botS fs c).1) then (botS fs c).1 else y

/-- The bottom as a greatest number of a list. -/
def cleared (fs : List Fl) (c : Int) : List Fl := fs.filter (fun f => clrB c f.s)

theorem botS_is (fs : List Fl) (c : Int) : ((botS fs c).2 = false ∧ cleared fs c = [] ∧ (botS fs c).1 = 0) ∨ ((botS fs c).2 = true ∧ (∃ f ∈ cleared fs c, f.b = (botS fs c).1) ∧ ∀ f ∈ cleared fs c, f.b ≤ (botS fs c).1) := by
  rw [← List.reverse_reverse fs]
  induction fs.reverse with
  | nil => exact .inl ⟨rfl, rfl, rfl⟩
  | cons f gs ih =>
    rw [List.reverse_cons]
    generalize gs.reverse = fs at ih ⊢
    rw [botS_snoc]
    have hc : cleared (fs ++ [f]) c = cleared fs c ++ (if clrB c f.s then [f] else []) := by
      unfold cleared; rw [List.filter_append]; congr 1; by_cases g : clrB c f.s = true <;> simp [g]
    rw [hc]
    unfold botStep
    by_cases h1 : clrB c f.s = true
    · rw [if_pos h1]
      rcases ih with ⟨e1, e2, e3⟩ | ⟨e1, ⟨g, hg, e2⟩, e3⟩
      · rw [e1, e2, if_pos (by rw [h1]; rfl)]
        exact .inr ⟨rfl, ⟨f, by simp, rfl⟩, fun g hg => by simp at hg; rw [hg]; exact Int.le_refl _⟩
      · by_cases h2 : (botS fs c).1 < f.b
        · rw [if_pos (by rw [h1]; simp [h2])]
          refine .inr ⟨rfl, ⟨f, by simp, rfl⟩, fun g hg => ?_⟩
          rcases List.mem_append.1 hg with hg | hg
          · have := e3 g hg; show g.b ≤ f.b; omega
          · rw [List.mem_singleton.1 hg]; exact Int.le_refl _
        · rw [if_neg (by rw [h1, e1]; simp [h2])]
          refine .inr ⟨e1, ⟨g, List.mem_append_left _ hg, e2⟩, fun g hg => ?_⟩
          rcases List.mem_append.1 hg with hg | hg
          · exact e3 g hg
          · rw [List.mem_singleton.1 hg]; omega
    · rw [if_neg (by simp [h1]), if_neg h1, List.append_nil]
      exact ih

theorem clearS_ge (fs : List Fl) (c y : Int) : y ≤ clearS fs c y := by
  unfold clearS
  split
  · next h => simp at h; omega
  · exact Int.le_refl _

/-- A clear is the greatest of y and of all that is cleared. -/
theorem clearS_is (fs : List Fl) (c y : Int) : (clearS fs c y = y ∨ ∃ f ∈ cleared fs c, f.b = clearS fs c y) ∧ ∀ f ∈ cleared fs c, f.b ≤ clearS fs c y := by
  unfold clearS
  rcases botS_is fs c with ⟨e1, e2, e3⟩ | ⟨e1, ⟨g, hg, e2⟩, e3⟩
  · rw [e1, e2]; simp
  · by_cases h : y < (botS fs c).1
    · rw [e1, if_pos (by simp [h])]; exact ⟨.inr ⟨g, hg, e2⟩, e3⟩
    · rw [e1, if_neg (by simp [h])]; exact ⟨.inl rfl, fun f hf => by have := e3 f hf; omega⟩

theorem clearS_eq {fs gs : List Fl} {c d : Int} (y : Int) (h : ∀ f, f ∈ cleared fs c ↔ f ∈ cleared gs d) : clearS fs c y = clearS gs d y := by
  obtain ⟨a1, a2⟩ := clearS_is fs c y
  obtain ⟨b1, b2⟩ := clearS_is gs d y
  have g1 := clearS_ge fs c y
  have g2 := clearS_ge gs d y
  have h1 : clearS fs c y ≤ clearS gs d y := by
    rcases a1 with e | ⟨f, hf, e⟩
    · omega
    · have := b2 f ((h f).1 hf); omega
  have h2 : clearS gs d y ≤ clearS fs c y := by
    rcases b1 with e | ⟨f, hf, e⟩
    · omega
    · have := a2 f ((h f).2 hf); omega
  omega

/-- More is cleared: never higher up. -/
theorem clearS_mono {fs gs : List Fl} {c d : Int} (y : Int) (h : ∀ f, f ∈ cleared fs c → f ∈ cleared gs d) : clearS fs c y ≤ clearS gs d y := by
  obtain ⟨a1, a2⟩ := clearS_is fs c y
  obtain ⟨b1, b2⟩ := clearS_is gs d y
  have g2 := clearS_ge gs d y
  rcases a1 with e | ⟨f, hf, e⟩
  · omega
  · have := b2 f (h f hf); omega

/-- Both: the greater one of the two. -/
theorem clearS_both {fs gs hs : List Fl} {c d e : Int} (y : Int) (h : ∀ f, f ∈ cleared fs c ↔ f ∈ cleared gs d ∨ f ∈ cleared hs e) : clearS fs c y = max (clearS gs d y) (clearS hs e y) := by
  obtain ⟨a1, a2⟩ := clearS_is fs c y
  have g0 := clearS_ge fs c y
  have m1 := clearS_mono (fs := gs) (gs := fs) (c := d) (d := c) y fun f hf => (h f).2 (.inl hf)
  have m2 := clearS_mono (fs := hs) (gs := fs) (c := e) (d := c) y fun f hf => (h f).2 (.inr hf)
  obtain ⟨-, b2⟩ := clearS_is gs d y
  obtain ⟨-, c2⟩ := clearS_is hs e y
  have g1 := clearS_ge gs d y
  have : clearS fs c y ≤ max (clearS gs d y) (clearS hs e y) := by
    rcases a1 with q | ⟨f, hf, q⟩
    · omega
    · rcases (h f).1 hf with hf | hf
      · have := b2 f hf; omega
      · have := c2 f hf; omega
  omega

/-- As high as it is, but one at least. -/
def highZ (h : Int) : Int := if h < 1 then 1 else h

theorem highZ_pos (h : Int) : 1 ≤ highZ h := by unfold highZ; split <;> omega

end Go.Proofs.Ytfomhdhiibcdfaa.Space
