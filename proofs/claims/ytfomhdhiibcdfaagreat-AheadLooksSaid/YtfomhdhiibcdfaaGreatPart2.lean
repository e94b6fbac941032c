/- Texts of this proof that follow each other, in one file. -/
import Derived.Test.YtfomhdhiibcdfaaGreatPart1
import Derived.Deep.Slices
import Derived.Test.YtfomhdhiibcdfaaGreatRows
import Derived.WalkKit
import Derived.WalkSpells
import Derived.WalkLawsBesides
import Derived.BigQuiet
import Derived.Lib.Hide
import Derived.Lib.QuietBelow
/-! Lists of boxes: that are read, and of one's own, that are appended to. -/
namespace Go.Proofs.YtfomhdhiibcdfaaGreat.Script
open Go.RowKit Go.Sort Go.Proofs.YtfomhdhiibcdfaaGreat.Record

/-- The cells of a box. -/
def cellsOfB (b : Bx) : List Value :=
  [.int .i64 b.d, .int .i64 b.k, .int .i64 b.s, .int .i64 b.c, .int .i64 b.w, .int .i64 b.h, .int .i64 b.m0, .int .i64 b.m1, .int .i64 b.m2, .int .i64 b.m3, .int .i64 b.e0, .int .i64 b.e1, .int .i64 b.e2, .int .i64 b.e3]

theorem cellsOfB_len (b : Bx) : (cellsOfB b).length = 14 := rfl

def noB : Bx := ⟨0, 0, 0, 0, 0, 0, 0, 0, 0, 0, 0, 0, 0, 0⟩

/-- A box that lies at an address. -/
def AtP (w : World) (p : Addr) (b : Bx) : Prop :=
  w.cell? p = some (.int .i64 b.d) ∧ w.cell? ⟨p.block, p.off + 1, none⟩ = some (.int .i64 b.k) ∧ w.cell? ⟨p.block, p.off + 2, none⟩ = some (.int .i64 b.s) ∧ w.cell? ⟨p.block, p.off + 3, none⟩ = some (.int .i64 b.c) ∧
  w.cell? ⟨p.block, p.off + 4, none⟩ = some (.int .i64 b.w) ∧ w.cell? ⟨p.block, p.off + 5, none⟩ = some (.int .i64 b.h) ∧
  w.cell? ⟨p.block, p.off + 6, none⟩ = some (.int .i64 b.m0) ∧ w.cell? ⟨p.block, p.off + 7, none⟩ = some (.int .i64 b.m1) ∧ w.cell? ⟨p.block, p.off + 8, none⟩ = some (.int .i64 b.m2) ∧ w.cell? ⟨p.block, p.off + 9, none⟩ = some (.int .i64 b.m3) ∧
  w.cell? ⟨p.block, p.off + 10, none⟩ = some (.int .i64 b.e0) ∧ w.cell? ⟨p.block, p.off + 11, none⟩ = some (.int .i64 b.e1) ∧ w.cell? ⟨p.block, p.off + 12, none⟩ = some (.int .i64 b.e2) ∧ w.cell? ⟨p.block, p.off + 13, none⟩ = some (.int .i64 b.e3)

theorem cell_at (w : World) (p : Addr) (j : Nat) (v : Value) (hj : 0 < j) (h : w.cell? (p.add j) = some v) : w.cell? ⟨p.block, p.off + j, none⟩ = some v := by
  unfold Addr.add at h
  rw [if_neg (by omega)] at h
  exact h

theorem AtP.of_cells {w : World} {p : Addr} {b : Bx} (h : ∀ j v, (cellsOfB b)[j]? = some v → w.cell? (p.add j) = some v) : AtP w p b := by
  refine ⟨?_, cell_at _ _ _ _ (by omega) (h 1 _ rfl), cell_at _ _ _ _ (by omega) (h 2 _ rfl), cell_at _ _ _ _ (by omega) (h 3 _ rfl), cell_at _ _ _ _ (by omega) (h 4 _ rfl), cell_at _ _ _ _ (by omega) (h 5 _ rfl), cell_at _ _ _ _ (by omega) (h 6 _ rfl),
    cell_at _ _ _ _ (by omega) (h 7 _ rfl), cell_at _ _ _ _ (by omega) (h 8 _ rfl), cell_at _ _ _ _ (by omega) (h 9 _ rfl), cell_at _ _ _ _ (by omega) (h 10 _ rfl), cell_at _ _ _ _ (by omega) (h 11 _ rfl), cell_at _ _ _ _ (by omega) (h 12 _ rfl), cell_at _ _ _ _ (by omega) (h 13 _ rfl)⟩
  have := h 0 _ rfl
  simpa [Addr.add] using this

theorem AtP.below {w w' : World} {B : Nat} {p : Addr} {b : Bx} (h : AtP w p b) (hp : p.block < B) (k : Below B w w') : AtP w' p b := by
  have e0 : w'.cell? p = w.cell? p := k.cell hp
  have e : ∀ o, w'.cell? ⟨p.block, o, none⟩ = w.cell? ⟨p.block, o, none⟩ := fun o => k.cell (p := ⟨p.block, o, none⟩) hp
  unfold AtP at *
  simp only [e, e0]
  exact h

/-- The boxes of a slice, below block B. -/
def Boxes (w : World) (B : Nat) (A : Option Addr) (bs : List Bx) : Prop :=
  ∀ k, k < bs.length → ∃ ad : Addr, A = some ad ∧ ad.block < B ∧ AtP w (ad.add (k * 14)) (bs.getD k noB)

theorem Boxes.below {w w' : World} {B : Nat} {A : Option Addr} {bs : List Bx} (h : Boxes w B A bs) (k : Below B w w') : Boxes w' B A bs := fun i hi => by
  obtain ⟨ad, e, hb, hc⟩ := h i hi
  exact ⟨ad, e, hb, hc.below (by rw [block_of_add]; exact hb) k⟩

theorem Boxes.more {w : World} {B C : Nat} {A : Option Addr} {bs : List Bx} (h : Boxes w B A bs) (hc : B ≤ C) : Boxes w C A bs := fun i hi => by
  obtain ⟨ad, e, hb, hx⟩ := h i hi
  exact ⟨ad, e, by omega, hx⟩

theorem Boxes.thru {w w' : World} {A : Option Addr} {bs : List Bx} (h : Boxes w w.heap.size A bs) (k : Below w.heap.size w w') : Boxes w' w'.heap.size A bs := (h.below k).more k.size

theorem flat_len (bs : List Bx) : (bs.flatMap cellsOfB).length = bs.length * 14 := by
  induction bs with
  | nil => rfl
  | cons b bs ih => simp only [List.flatMap_cons, List.length_append, cellsOfB_len, ih, List.length_cons]; omega

theorem flat_at (bs : List Bx) : ∀ (k : Nat), k < bs.length → ∀ j v, (cellsOfB (bs.getD k noB))[j]? = some v → (bs.flatMap cellsOfB)[k * 14 + j]? = some v := by
  induction bs with
  | nil => intro k hk; simp at hk
  | cons b bs ih =>
    intro k hk j v h
    have hj : j < 14 := by
      have := (List.getElem?_eq_some_iff.1 h).1
      rwa [cellsOfB_len] at this
    rw [List.flatMap_cons]
    cases k with
    | zero =>
      rw [List.getElem?_append_left (by rw [cellsOfB_len]; omega)]
      simpa using h
    | succ k =>
      rw [List.getElem?_append_right (by rw [cellsOfB_len]; omega), cellsOfB_len, show (k + 1) * 14 + j - 14 = k * 14 + j by omega]
      exact ih k (by simpa using hk) j v (by simpa using h)

theorem flat_cells (bs : List Bx) : ∀ u ∈ bs.flatMap cellsOfB, u.oneCell' = true := by
  intro u hu
  rw [List.mem_flatMap] at hu
  obtain ⟨b, _, h⟩ := hu
  simp only [cellsOfB, List.mem_cons, List.not_mem_nil, or_false] at h
  rcases h with h | h | h | h | h | h | h | h | h | h | h | h | h | h <;> (subst h; rfl)

theorem add_add (p : Addr) (i j : Nat) : (p.add i).add j = p.add (i + j) := by
  unfold Addr.add
  by_cases hi : i = 0 <;> by_cases hj : j = 0 <;> simp [hi, hj] <;> omega

/-- A slice of one's own, of boxes. -/
def MineB (T : TypeId) (w : World) (B : Nat) (A : Option Addr) (n c : Nat) (bs : List Bx) : Prop :=
  w.ownsRow B T 14 (.slice A n c) n (bs.flatMap cellsOfB)

theorem mineB_shape {T : TypeId} {w : World} {B : Nat} {v : Value} {n : Nat} {xs : List Value} (h : w.ownsRow B T 14 v n xs) : ∃ A c, v = .slice A n c := by
  rcases h.2 with ⟨rfl, rfl⟩ | ⟨g, cap, cur, rfl, _⟩
  · exact ⟨none, 0, rfl⟩
  · exact ⟨_, _, rfl⟩

section
variable {T : TypeId} {w w' : World} {B : Nat} {A : Option Addr} {n c : Nat} {bs : List Bx}

theorem MineB.len (h : MineB T w B A n c bs) : bs.length = n := by
  have := h.1; rw [flat_len] at this; omega

theorem MineB.lt (h : MineB T w B A n c bs) : ∀ k, blk A = some k → B ≤ k ∧ k < w.heap.size := by
  intro k hk
  exact World.ownsRow.lt h k (by rw [ownBlock_blk]; exact hk)

theorem MineB.kept {row : Option Nat} (h : MineB T w B A n c bs) (hg : w.grownBy w' row) (hne : ∀ k, blk A = some k → row ≠ some k) : MineB T w' B A n c bs := by
  refine World.ownsRow.kept h hg ?_
  rw [ownBlock_blk]
  cases hb : blk A with
  | none => exact .inl rfl
  | some k => exact .inr fun e => hne k hb e.symm

theorem MineB.below (h : MineB T w B A n c bs) (hb : Below w.heap.size w w') : MineB T w' B A n c bs :=
  h.kept (grown_of_below hb) (fun k _ e => by cases e)

theorem MineB.alloc (h : MineB T w B A n c bs) (o : Obj) : MineB T (w.alloc o) B A n c bs := World.ownsRow.alloc h o

theorem MineB.cells (h : MineB T w B A n c bs) : ∀ j u, (bs.flatMap cellsOfB)[j]? = some u → ∃ g, A = some ⟨g, 0, none⟩ ∧ g < w.heap.size ∧ w.cell? ((⟨g, 0, none⟩ : Addr).add j) = some u := by
  intro j u hu
  have hl := h.len
  have hlt := (List.getElem?_eq_some_iff.1 hu).1
  rw [flat_len] at hlt
  obtain ⟨g, cap, hv, _, hg⟩ := World.ownsRow.form h (by omega)
  have hA : A = some ⟨g, 0, none⟩ := by injection hv
  subst hA
  exact ⟨g, rfl, hg, World.ownsRow.cells h (g := g) rfl j u hu⟩

theorem MineB.boxes (h : MineB T w B A n c bs) : Boxes w w.heap.size A bs := fun k hk => by
  obtain ⟨g, e, hg, _⟩ := h.cells (k * 14 + 0) _ (flat_at bs k hk 0 _ rfl)
  refine ⟨_, e, hg, AtP.of_cells fun j v hv => ?_⟩
  obtain ⟨g', e', _, hc⟩ := h.cells (k * 14 + j) v (flat_at bs k hk j v hv)
  rw [e] at e'
  injection e' with e'
  rw [add_add, e']
  exact hc

end

/-- What is appended: m boxes of a slice, nil or not. -/
def SrcB (w : World) (A : Option Addr) (m c : Nat) (ys : List Bx) : Prop :=
  ys.length = m ∧ (A = none → c = 0) ∧ ∀ j u, (ys.flatMap cellsOfB)[j]? = some u → ∃ ad : Addr, A = some ad ∧ w.cell? (ad.add j) = some u

/-- What the model knows of a type of boxes. -/
def BoxInfo (T TS : TypeId) : Prop :=
  Tryz.prog.underlying TS = some (.slice T) ∧ ∃ z : Value, z.cells.size = 14 ∧ (Tryz.prog.info? T).map (fun i => (i.zero, i.size, i.bytes)) = some (some z, 14, 112)

/-- What an append leaves. -/
def AppendedB (T : TypeId) (w : World) (B : Nat) (A : Option Addr) (n : Nat) (xs ys : List Bx) (m : Nat) (A' : Option Addr) (c' : Nat) (w' : World) : Prop :=
  MineB T w' B A' (n + m) c' (xs ++ ys) ∧ w.grownBy w' (blk A) ∧ (blk A' = blk A ∨ blk A' = some w.heap.size)

theorem run_append_boxes {T TS : TypeId} (hT : BoxInfo T TS) (ty : TypeId) (w : World) (B : Nat) (A : Option Addr) (n c : Nat) (xs : List Bx) (hown : MineB T w B A n c xs) (A2 : Option Addr) (m c2 : Nat) (ys : List Bx) (hs : SrcB w A2 m c2 ys)
    (hlen : n + m ≤ 1000000) (hB : B ≤ w.heap.size) :
    ∃ A' c' w', (Builtin.append_ #[TS, TS] ty #[.slice A n c, .slice A2 m c2]).run Tryz.prog w = .ok (.slice A' (n + m) c') w' ∧ AppendedB T w B A n xs ys m A' c' w' := by
  obtain ⟨hu, z, hzc, hinfo⟩ := hT
  obtain ⟨i0, hi0, hz0, hz1, hz2⟩ := info_parts hinfo
  obtain ⟨h1, h2, h3⟩ := hs
  cases A2 with
  | none =>
    have hm : m = 0 := by
      rcases Nat.eq_zero_or_pos m with h | h
      · exact h
      · obtain ⟨ad, e, _⟩ := h3 (0 * 14 + 0) _ (flat_at ys 0 (by omega) 0 _ rfl)
        cases e
    subst hm
    have hy : ys = [] := List.eq_nil_of_length_eq_zero h1
    subst hy
    obtain rfl := h2 rfl
    exact ⟨A, c, w, run_append_owned_none (P := Tryz.prog) w B TS ty T i0 14 hu hi0 _ n _ hown, by simpa [MineB] using hown, World.grownBy.refl w _, .inl rfl⟩
  | some ad =>
    have hcells : ∀ j u, (ys.flatMap cellsOfB)[j]? = some u → w.cell? (ad.add j) = some u := by
      intro j u hu
      obtain ⟨ad', e, hc⟩ := h3 j u hu
      obtain rfl := Option.some.inj e
      exact hc
    obtain ⟨v', w', hrun, g2, g3, _, g5⟩ := run_append_own_at (P := Tryz.prog) w B TS ty T i0 z 14 112 hu hi0 hz0 hz1 hz2 hzc (by omega) _ n _ hown ad m c2 _ (by rw [flat_len, h1]) hcells
      (flat_cells ys) (by simp only [maxLen]; omega) (by omega) hB
    obtain ⟨A', c', rfl⟩ := mineB_shape g2
    refine ⟨A', c', w', hrun, ?_, ?_, ?_⟩
    · unfold MineB; rw [List.flatMap_append]; exact g2
    · rw [ownBlock_blk] at g3; exact g3
    · rw [ownBlock_blk, ownBlock_blk] at g5; exact g5

theorem wp_append_boxes {T TS : TypeId} (hT : BoxInfo T TS) (w : World) {o : Oper} {a : Act} {K : Act → World → Prop} {Q : Exit → Act → World → Prop} (s x : Operand)
    (ho : o.op = .call { callee := .builtin .append, args := #[s, x], argTypes := #[TS, TS] })
    (B : Nat) (A : Option Addr) (n c : Nat) (xs : List Bx) (hs : a.eval s = .slice A n c) (hown : MineB T w B A n c xs) (A2 : Option Addr) (m c2 : Nat) (ys : List Bx) (hx : a.eval x = .slice A2 m c2) (hsrc : SrcB w A2 m c2 ys)
    (hlen : n + m ≤ 1000000) (hB : B ≤ w.heap.size)
    (h : ∀ A' c' w', AppendedB T w B A n xs ys m A' c' w' → K (a.put o.dst (.slice A' (n + m) c')) w') : o.wp Tryz.prog a w K Q := by
  obtain ⟨A', c', w', hr, h2⟩ := run_append_boxes hT o.type w B A n c xs hown A2 m c2 ys hsrc hlen hB
  unfold Oper.wp execOp
  simp only [ho, resolve, invoke, builtin, Sem.run_bind, Sem.run_pure, Result.andThen_ok, List.map_toArray, List.map_cons, List.map_nil, hs, hx, hr]
  exact h A' c' w' h2

theorem wpList_append_boxes {T TS : TypeId} (hT : BoxInfo T TS) (w : World) {ops : Array Oper} {rest : List Oper} {o : Oper} {a : Act} {Q : Exit → Act → World → Prop} (hgd : o.guard = none) (s x : Operand)
    (ho : o.op = .call { callee := .builtin .append, args := #[s, x], argTypes := #[TS, TS] })
    (B : Nat) (A : Option Addr) (n c : Nat) (xs : List Bx) (hs : a.eval s = .slice A n c) (hown : MineB T w B A n c xs) (A2 : Option Addr) (m c2 : Nat) (ys : List Bx) (hx : a.eval x = .slice A2 m c2) (hsrc : SrcB w A2 m c2 ys)
    (hlen : n + m ≤ 1000000) (hB : B ≤ w.heap.size)
    (h : ∀ A' c' w', AppendedB T w B A n xs ys m A' c' w' → wpList Tryz.prog ops Q rest (a.put o.dst (.slice A' (n + m) c')) w') : wpList Tryz.prog ops Q (o :: rest) a w :=
  wpList_plain hgd fun _ hK => wp_append_boxes hT w s x ho B A n c xs hs hown A2 m c2 ys hx hsrc hlen hB fun A' c' w' h2 => hK _ _ (h A' c' w' h2)

theorem oneB_src (w : World) (b : Bx) (T : TypeId) : SrcB (w.alloc (.cells (cellsOfB b).toArray T)) (some ⟨w.heap.size, 0, none⟩) 1 1 [b] := by
  have hm : MineB T (w.alloc (.cells (cellsOfB b).toArray T)) 0 (some ⟨w.heap.size, 0, none⟩) 1 1 [b] := by
    have := World.ownsRow_lit (e := T) (size := 14) (base := 0) w (cellsOfB b).toArray 1 (Nat.zero_le _) (by unfold maxLen; omega) rfl
    simpa [MineB] using this
  refine ⟨rfl, fun e => (by cases e), fun j u hu => ?_⟩
  obtain ⟨g, e, _, hc⟩ := hm.cells j u hu
  exact ⟨_, e, hc⟩

theorem noneB_mine (T : TypeId) (w : World) (B : Nat) : MineB T w B none 0 0 [] := World.ownsRow_nil w B T 14

theorem emptyB_mine (T : TypeId) (w : World) (B : Nat) (hB : B ≤ w.heap.size) : MineB T (w.alloc (.cells #[] T)) B (some ⟨w.heap.size, 0, none⟩) 0 0 [] :=
  World.ownsRow_lit w #[] 0 hB (by unfold maxLen; omega) rfl

theorem AppendedB.below {T : TypeId} {w W : World} {B C : Nat} {A : Option Addr} {n c : Nat} {xs ys : List Bx} {m : Nat} {A' : Option Addr} {c' : Nat} {w' : World}
    (h : AppendedB T w B A n xs ys m A' c' w') (hown : MineB T w B A n c xs) (hw : Below C W w) (hC : C ≤ B) (hB : C ≤ w.heap.size) : Below C W w' :=
  hw.grown h.2.1 hB (fun k hk => by have := (hown.lt k hk).1; omega)

end Go.Proofs.YtfomhdhiibcdfaaGreat.Script

/-! A box that came in, by value. -/
namespace Go.Proofs.YtfomhdhiibcdfaaGreat.Record
open Go.ChangeShapes Go.WideShapes Go.ChangeAt Go.RowKit
set_option maxRecDepth 100000

theorem cellsInt : Tryz.prog.cellsOf 3 = 1 := by kernel_rfl
theorem cellsArr : Tryz.prog.cellsOf 44 = 4 := by kernel_rfl
theorem cellsBox : Tryz.prog.cellsOf 46 = 14 := by kernel_rfl

theorem array14 {α : Type} {cs : Array α} (h : cs.size = 14) : ∃ c0 c1 c2 c3 c4 c5 c6 c7 c8 c9 c10 c11 c12 c13, cs = #[c0, c1, c2, c3, c4, c5, c6, c7, c8, c9, c10, c11, c12, c13] := by
  obtain ⟨l⟩ := cs
  match l, h with
  | [c0, c1, c2, c3, c4, c5, c6, c7, c8, c9, c10, c11, c12, c13], _ => exact ⟨c0, c1, c2, c3, c4, c5, c6, c7, c8, c9, c10, c11, c12, c13, rfl⟩

section
variable {H : Type} {enc : TypeId × Value → H} {w : World} {base : Nat} {spare : Nat → Bool} {held : Bool}

theorem open_box {r : Reach} {b0 : Nat} {v : Value} {d : DataW H} {p : List MemPlace} (hv : Value.okWide Tryz.prog w r b0 46 v) (h : DataW.Trod enc Tryz.prog w base spare held 46 v d p) : ∃ b : Bx, v = b.v := by
  obtain ⟨cs, rfl, hsz⟩ := okWide_struct Tryz.underlying46 hv
  obtain ⟨c0, c1, c2, c3, c4, c5, c6, c7, c8, c9, c10, c11, c12, c13, rfl⟩ := array14 (hsz.trans cellsBox)
  obtain ⟨fuel, hf⟩ := h
  obtain ⟨xs, n, _, _, _, hlen, hf⟩ := DataW.trod_struct Tryz.underlying46 hf
  match xs, hlen with
  | [y0, y1, y2, y3, y4, y5, y6, y7], _ =>
    have f0 : DataW.trod enc Tryz.prog w base spare held n 3 (([c0, c1, c2, c3, c4, c5, c6, c7, c8, c9, c10, c11, c12, c13].drop 0).take (Tryz.prog.cellsOf 3)) = some y0 := hf 0 _ rfl
    have f1 : DataW.trod enc Tryz.prog w base spare held n 3 (([c0, c1, c2, c3, c4, c5, c6, c7, c8, c9, c10, c11, c12, c13].drop 1).take (Tryz.prog.cellsOf 3)) = some y1 := hf 1 _ rfl
    have f2 : DataW.trod enc Tryz.prog w base spare held n 3 (([c0, c1, c2, c3, c4, c5, c6, c7, c8, c9, c10, c11, c12, c13].drop 2).take (Tryz.prog.cellsOf 3)) = some y2 := hf 2 _ rfl
    have f3 : DataW.trod enc Tryz.prog w base spare held n 3 (([c0, c1, c2, c3, c4, c5, c6, c7, c8, c9, c10, c11, c12, c13].drop 3).take (Tryz.prog.cellsOf 3)) = some y3 := hf 3 _ rfl
    have f4 : DataW.trod enc Tryz.prog w base spare held n 3 (([c0, c1, c2, c3, c4, c5, c6, c7, c8, c9, c10, c11, c12, c13].drop 4).take (Tryz.prog.cellsOf 3)) = some y4 := hf 4 _ rfl
    have f5 : DataW.trod enc Tryz.prog w base spare held n 3 (([c0, c1, c2, c3, c4, c5, c6, c7, c8, c9, c10, c11, c12, c13].drop 5).take (Tryz.prog.cellsOf 3)) = some y5 := hf 5 _ rfl
    have f6 : DataW.trod enc Tryz.prog w base spare held n 44 (([c0, c1, c2, c3, c4, c5, c6, c7, c8, c9, c10, c11, c12, c13].drop 6).take (Tryz.prog.cellsOf 44)) = some y6 := hf 6 _ rfl
    have f7 : DataW.trod enc Tryz.prog w base spare held n 44 (([c0, c1, c2, c3, c4, c5, c6, c7, c8, c9, c10, c11, c12, c13].drop 10).take (Tryz.prog.cellsOf 44)) = some y7 := hf 7 _ rfl
    rw [cellsInt] at f0 f1 f2 f3 f4 f5
    rw [cellsArr] at f6 f7
    simp only [List.drop_succ_cons, List.drop_zero, List.take_succ_cons, List.take_zero] at f0 f1 f2 f3 f4 f5 f6 f7
    obtain ⟨x0, e0, -, -⟩ := DataW.trod_int Tryz.underlying3 f0
    obtain ⟨x1, e1, -, -⟩ := DataW.trod_int Tryz.underlying3 f1
    obtain ⟨x2, e2, -, -⟩ := DataW.trod_int Tryz.underlying3 f2
    obtain ⟨x3, e3, -, -⟩ := DataW.trod_int Tryz.underlying3 f3
    obtain ⟨x4, e4, -, -⟩ := DataW.trod_int Tryz.underlying3 f4
    obtain ⟨x5, e5, -, -⟩ := DataW.trod_int Tryz.underlying3 f5
    obtain ⟨_, _, _, _, _, _, g6, g7, g8, g9⟩ := ChangeShapes.trod_array4 Tryz.underlying44 cellsInt f6
    obtain ⟨_, _, _, _, _, _, g10, g11, g12, g13⟩ := ChangeShapes.trod_array4 Tryz.underlying44 cellsInt f7
    obtain ⟨x6, e6, -, -⟩ := DataW.trod_int Tryz.underlying3 g6
    obtain ⟨x7, e7, -, -⟩ := DataW.trod_int Tryz.underlying3 g7
    obtain ⟨x8, e8, -, -⟩ := DataW.trod_int Tryz.underlying3 g8
    obtain ⟨x9, e9, -, -⟩ := DataW.trod_int Tryz.underlying3 g9
    obtain ⟨x10, e10, -, -⟩ := DataW.trod_int Tryz.underlying3 g10
    obtain ⟨x11, e11, -, -⟩ := DataW.trod_int Tryz.underlying3 g11
    obtain ⟨x12, e12, -, -⟩ := DataW.trod_int Tryz.underlying3 g12
    obtain ⟨x13, e13, -, -⟩ := DataW.trod_int Tryz.underlying3 g13
    simp only [List.cons.injEq, and_true] at e0 e1 e2 e3 e4 e5 e6 e7 e8 e9 e10 e11 e12 e13
    subst e0 e1 e2 e3 e4 e5 e6 e7 e8 e9 e10 e11 e12 e13
    exact ⟨⟨x0, x1, x2, x3, x4, x5, x6, x7, x8, x9, x10, x11, x12, x13⟩, rfl⟩

end

end Go.Proofs.YtfomhdhiibcdfaaGreat.Record

/-! A list of boxes that came in. -/
namespace Go.Proofs.YtfomhdhiibcdfaaGreat.Script
open Go.ChangeShapes Go.WideShapes Go.ChangeAt Go.RowKit Go.Proofs.YtfomhdhiibcdfaaGreat.Record

theorem mapM_at {α β : Type} {f : α → Option β} : ∀ {l : List α} {r : List β}, l.mapM f = some r → ∀ (j : Nat) (x : α), l[j]? = some x → ∃ y, r[j]? = some y ∧ f x = some y := by
  intro l
  induction l with
  | nil => intro r h j x hx; simp at hx
  | cons a l ih =>
    intro r h j x hx
    rw [List.mapM_cons] at h
    simp only [bind, Option.bind_eq_some_iff, pure, Option.some.injEq] at h
    obtain ⟨b, hb, r', hr, rfl⟩ := h
    cases j with
    | zero =>
      simp only [List.getElem?_cons_zero, Option.some.injEq] at hx
      subst hx
      exact ⟨b, rfl, hb⟩
    | succ j =>
      simp only [List.getElem?_cons_succ] at hx ⊢
      exact ih hr j x hx

theorem lenM {α β : Type} {f : α → Option β} : ∀ {l : List α} {r : List β}, l.mapM f = some r → r.length = l.length := by
  intro l
  induction l with
  | nil => intro r h; simp at h; subst h; rfl
  | cons a l ih =>
    intro r h
    rw [List.mapM_cons] at h
    simp only [bind, Option.bind_eq_some_iff, pure, Option.some.injEq] at h
    obtain ⟨b, hb, r', hr, rfl⟩ := h
    simp [ih hr]

section
variable {H : Type} {enc : TypeId × Value → H} {w : World} {base : Nat} {spare : Nat → Bool} {held : Bool}

theorem list14 {α : Type} {l : List α} (h : l.length = 14) : ∃ c0 c1 c2 c3 c4 c5 c6 c7 c8 c9 c10 c11 c12 c13, l = [c0, c1, c2, c3, c4, c5, c6, c7, c8, c9, c10, c11, c12, c13] := by
  match l, h with
  | [c0, c1, c2, c3, c4, c5, c6, c7, c8, c9, c10, c11, c12, c13], _ => exact ⟨c0, c1, c2, c3, c4, c5, c6, c7, c8, c9, c10, c11, c12, c13, rfl⟩

/-- A box all whose numbers are ints. -/
def OkB (b : Bx) : Prop := ∀ x ∈ [b.d, b.k, b.s, b.c, b.w, b.h, b.m0, b.m1, b.m2, b.m3, b.e0, b.e1, b.e2, b.e3], (Lit.int .i64 x).wf = true

theorem okK {b : Bx} (h : OkB b) : (Lit.int .i64 b.k).wf = true := h b.k (by simp)

/-- The cells of a box that is read. -/
theorem cells_box {n : Nat} {cs : List Value} {y : DataW H × List MemPlace} (hl : cs.length = 14) (h : DataW.trod enc Tryz.prog w base spare held n 46 cs = some y) : ∃ b : Bx, cs = cellsOfB b ∧ OkB b := by
  obtain ⟨c0, c1, c2, c3, c4, c5, c6, c7, c8, c9, c10, c11, c12, c13, rfl⟩ := list14 hl
  obtain ⟨xs, n, _, _, _, hlen, hf⟩ := DataW.trod_struct Tryz.underlying46 h
  match xs, hlen with
  | [y0, y1, y2, y3, y4, y5, y6, y7], _ =>
    have f0 : DataW.trod enc Tryz.prog w base spare held n 3 (([c0, c1, c2, c3, c4, c5, c6, c7, c8, c9, c10, c11, c12, c13].drop 0).take (Tryz.prog.cellsOf 3)) = some y0 := hf 0 _ rfl
    have f1 : DataW.trod enc Tryz.prog w base spare held n 3 (([c0, c1, c2, c3, c4, c5, c6, c7, c8, c9, c10, c11, c12, c13].drop 1).take (Tryz.prog.cellsOf 3)) = some y1 := hf 1 _ rfl
    have f2 : DataW.trod enc Tryz.prog w base spare held n 3 (([c0, c1, c2, c3, c4, c5, c6, c7, c8, c9, c10, c11, c12, c13].drop 2).take (Tryz.prog.cellsOf 3)) = some y2 := hf 2 _ rfl
    have f3 : DataW.trod enc Tryz.prog w base spare held n 3 (([c0, c1, c2, c3, c4, c5, c6, c7, c8, c9, c10, c11, c12, c13].drop 3).take (Tryz.prog.cellsOf 3)) = some y3 := hf 3 _ rfl
    have f4 : DataW.trod enc Tryz.prog w base spare held n 3 (([c0, c1, c2, c3, c4, c5, c6, c7, c8, c9, c10, c11, c12, c13].drop 4).take (Tryz.prog.cellsOf 3)) = some y4 := hf 4 _ rfl
    have f5 : DataW.trod enc Tryz.prog w base spare held n 3 (([c0, c1, c2, c3, c4, c5, c6, c7, c8, c9, c10, c11, c12, c13].drop 5).take (Tryz.prog.cellsOf 3)) = some y5 := hf 5 _ rfl
    have f6 : DataW.trod enc Tryz.prog w base spare held n 44 (([c0, c1, c2, c3, c4, c5, c6, c7, c8, c9, c10, c11, c12, c13].drop 6).take (Tryz.prog.cellsOf 44)) = some y6 := hf 6 _ rfl
    have f7 : DataW.trod enc Tryz.prog w base spare held n 44 (([c0, c1, c2, c3, c4, c5, c6, c7, c8, c9, c10, c11, c12, c13].drop 10).take (Tryz.prog.cellsOf 44)) = some y7 := hf 7 _ rfl
    rw [cellsInt] at f0 f1 f2 f3 f4 f5
    rw [cellsArr] at f6 f7
    simp only [List.drop_succ_cons, List.drop_zero, List.take_succ_cons, List.take_zero] at f0 f1 f2 f3 f4 f5 f6 f7
    obtain ⟨x0, e0, -, o0⟩ := DataW.trod_int Tryz.underlying3 f0
    obtain ⟨x1, e1, -, o1⟩ := DataW.trod_int Tryz.underlying3 f1
    obtain ⟨x2, e2, -, o2⟩ := DataW.trod_int Tryz.underlying3 f2
    obtain ⟨x3, e3, -, o3⟩ := DataW.trod_int Tryz.underlying3 f3
    obtain ⟨x4, e4, -, o4⟩ := DataW.trod_int Tryz.underlying3 f4
    obtain ⟨x5, e5, -, o5⟩ := DataW.trod_int Tryz.underlying3 f5
    obtain ⟨_, _, _, _, _, _, g6, g7, g8, g9⟩ := ChangeShapes.trod_array4 Tryz.underlying44 cellsInt f6
    obtain ⟨_, _, _, _, _, _, g10, g11, g12, g13⟩ := ChangeShapes.trod_array4 Tryz.underlying44 cellsInt f7
    obtain ⟨x6, e6, -, o6⟩ := DataW.trod_int Tryz.underlying3 g6
    obtain ⟨x7, e7, -, o7⟩ := DataW.trod_int Tryz.underlying3 g7
    obtain ⟨x8, e8, -, o8⟩ := DataW.trod_int Tryz.underlying3 g8
    obtain ⟨x9, e9, -, o9⟩ := DataW.trod_int Tryz.underlying3 g9
    obtain ⟨x10, e10, -, o10⟩ := DataW.trod_int Tryz.underlying3 g10
    obtain ⟨x11, e11, -, o11⟩ := DataW.trod_int Tryz.underlying3 g11
    obtain ⟨x12, e12, -, o12⟩ := DataW.trod_int Tryz.underlying3 g12
    obtain ⟨x13, e13, -, o13⟩ := DataW.trod_int Tryz.underlying3 g13
    simp only [List.cons.injEq, and_true] at e0 e1 e2 e3 e4 e5 e6 e7 e8 e9 e10 e11 e12 e13
    subst e0 e1 e2 e3 e4 e5 e6 e7 e8 e9 e10 e11 e12 e13
    refine ⟨⟨x0, x1, x2, x3, x4, x5, x6, x7, x8, x9, x10, x11, x12, x13⟩, rfl, fun x hx => ?_⟩
    simp only [List.mem_cons, List.not_mem_nil, or_false] at hx
    rcases hx with h | h | h | h | h | h | h | h | h | h | h | h | h | h <;> (subst h; assumption)

end

/-- A slice of boxes that came in. -/
theorem open_boxes {H : Type} {enc : TypeId × Value → H} {W : World} {v : Value} {d : DataW H} {ps : List MemPlace} (hv : ∃ a len cap, v = .slice a len cap)
    (h : DataW.Trod enc Tryz.prog W 0 (fun _ => true) true 22 v d ps) :
    ∃ A len cap bs, v = .slice A len cap ∧ len = bs.length ∧ len ≤ 9223372036854775807 ∧ len ≤ cap ∧ (A = none → cap = 0) ∧ Boxes W W.heap.size A bs ∧ ∀ b ∈ bs, OkB b := by
  obtain ⟨a0, len, cap, rfl⟩ := hv
  obtain ⟨fuel, hf⟩ := h
  rcases Go.Deep.open_slice Tryz.underlying22 hf with ⟨hcs, hx⟩ | ⟨a, len', cap', m, n, D, Pl, hcs, _, hl, hm, hz, hx, hcell⟩
  · simp [Value.cells] at hcs
    obtain ⟨rfl, rfl, rfl⟩ := hcs
    exact ⟨none, 0, 0, [], rfl, rfl, by omega, by omega, fun _ => rfl, fun k hk => by simp at hk, fun b hb => by simp at hb⟩
  · simp [Value.cells] at hcs
    obtain ⟨rfl, rfl, rfl⟩ := hcs
    simp only [if_true] at hz
    subst hz
    unfold maxLen at hm
    have each : ∀ i, ∃ b : Bx, i < len → a.block < W.heap.size ∧ AtP W (a.add (i * 14)) b ∧ OkB b := fun i => by
      by_cases hi : i < len
      · obtain ⟨cs', hc, ht⟩ := hcell i (by omega)
        rw [cellsBox] at hc
        unfold World.cells? at hc
        split at hc
        · have hl14 : cs'.length = 14 := by
            have := lenM hc
            simpa using this
          obtain ⟨b, rfl, hok⟩ := cells_box hl14 ht
          refine ⟨b, fun _ => ?_⟩
          have hat : ∀ j v, (cellsOfB b)[j]? = some v → W.cell? ((a.add (i * 14)).add j) = some v := fun j v hv => by
            have hj : j < 14 := by
              have := (List.getElem?_eq_some_iff.1 hv).1
              rwa [cellsOfB_len] at this
            obtain ⟨y, hy, hfy⟩ := mapM_at hc j j (by simp [List.getElem?_range hj])
            rw [hv] at hy
            injection hy with hy
            rw [hy]
            exact hfy
          refine ⟨?_, AtP.of_cells hat, hok⟩
          have hb := World.block_lt_of_cell? _ _ (hat 0 _ rfl)
          rw [block_of_add, block_of_add] at hb
          exact hb
        · simp at hc
      · exact ⟨noB, fun h => absurd h hi⟩
    obtain ⟨f, hf⟩ := Classical.axiomOfChoice each
    refine ⟨some a, len, _, (List.range len).map f, rfl, by simp, by omega, hl, fun e => (by cases e), fun k hk => ?_, fun b hb => ?_⟩
    · have hk' : k < len := by simpa using hk
      obtain ⟨h1, h2, -⟩ := hf k hk'
      refine ⟨a, rfl, h1, ?_⟩
      simpa [List.getD, hk'] using h2
    · rw [List.mem_map] at hb
      obtain ⟨i, hi, rfl⟩ := hb
      exact (hf i (by simpa using hi)).2.2

end Go.Proofs.YtfomhdhiibcdfaaGreat.Script

/-! Floats in a list: what they leave free of rows, and shelves as the one shortest list that draws it. No program is in it. -/
namespace Go.Proofs.YtfomhdhiibcdfaaGreat.Shelf

/-- A float: its side, and its rectangle's numbers. -/
structure Fl where
  s : Int
  l : Int
  t : Int
  r : Int
  b : Int

abbrev far : Int := 4503599627370496

/-- Does a float count? -/
def cntF (f : Fl) : Bool := decide (f.l < f.r) && decide (f.t < f.b) && (decide (f.s = 1) || decide (f.s = 2))

/-- Does one that counts stand at a side, in some of the rows? -/
def hitF (side a z : Int) (f : Fl) : Bool := cntF f && decide (f.s = side) && decide (f.t < z) && decide (a < f.b) && decide (a < z)

theorem cntF_iff {f : Fl} : cntF f = true ↔ f.l < f.r ∧ f.t < f.b ∧ (f.s = 1 ∨ f.s = 2) := by
  unfold cntF; simp [and_assoc]
theorem hitF_iff {side a z : Int} {f : Fl} : hitF side a z f = true ↔ cntF f = true ∧ f.s = side ∧ f.t < z ∧ a < f.b ∧ a < z := by
  unfold hitF; simp [and_assoc]

/-- The greatest left bound of the rows from a up to z, and the least right one. -/
def bandL (fs : List Fl) (a z : Int) : Int := fs.foldl (fun v f => if hitF 1 a z f then max v f.r else v) (-far)
def bandR (fs : List Fl) (a z : Int) : Int := fs.foldl (fun v f => if hitF 2 a z f then min v f.l else v) far

theorem foldL_le (a z : Int) : ∀ (fs : List Fl) (v0 v : Int), fs.foldl (fun v f => if hitF 1 a z f then max v f.r else v) v0 ≤ v ↔ v0 ≤ v ∧ ∀ f ∈ fs, hitF 1 a z f = true → f.r ≤ v
  | [], v0, v => by simp
  | f :: fs, v0, v => by
    rw [List.foldl_cons, foldL_le a z fs]
    by_cases h : hitF 1 a z f = true
    · rw [if_pos h]
      constructor
      · rintro ⟨h1, h2⟩
        exact ⟨by omega, fun g hg hh => by
          rcases List.mem_cons.1 hg with e | e
          · subst e; omega
          · exact h2 g e hh⟩
      · rintro ⟨h1, h2⟩
        have := h2 f (by simp) h
        exact ⟨by omega, fun g hg hh => h2 g (by simp [hg]) hh⟩
    · rw [if_neg h]
      constructor
      · rintro ⟨h1, h2⟩
        exact ⟨h1, fun g hg hh => by
          rcases List.mem_cons.1 hg with e | e
          · subst e; exact absurd hh h
          · exact h2 g e hh⟩
      · rintro ⟨h1, h2⟩
        exact ⟨h1, fun g hg hh => h2 g (by simp [hg]) hh⟩

theorem foldR_le (a z : Int) : ∀ (fs : List Fl) (v0 v : Int), v ≤ fs.foldl (fun v f => if hitF 2 a z f then min v f.l else v) v0 ↔ v ≤ v0 ∧ ∀ f ∈ fs, hitF 2 a z f = true → v ≤ f.l
  | [], v0, v => by simp
  | f :: fs, v0, v => by
    rw [List.foldl_cons, foldR_le a z fs]
    by_cases h : hitF 2 a z f = true
    · rw [if_pos h]
      constructor
      · rintro ⟨h1, h2⟩
        exact ⟨by omega, fun g hg hh => by
          rcases List.mem_cons.1 hg with e | e
          · subst e; omega
          · exact h2 g e hh⟩
      · rintro ⟨h1, h2⟩
        have := h2 f (by simp) h
        exact ⟨by omega, fun g hg hh => h2 g (by simp [hg]) hh⟩
    · rw [if_neg h]
      constructor
      · rintro ⟨h1, h2⟩
        exact ⟨h1, fun g hg hh => by
          rcases List.mem_cons.1 hg with e | e
          · subst e; exact absurd hh h
          · exact h2 g e hh⟩
      · rintro ⟨h1, h2⟩
        exact ⟨h1, fun g hg hh => h2 g (by simp [hg]) hh⟩

theorem bandL_le {fs : List Fl} {a z v : Int} : bandL fs a z ≤ v ↔ -far ≤ v ∧ ∀ f ∈ fs, hitF 1 a z f = true → f.r ≤ v := foldL_le a z fs _ v
theorem le_bandR {fs : List Fl} {a z v : Int} : v ≤ bandR fs a z ↔ v ≤ far ∧ ∀ f ∈ fs, hitF 2 a z f = true → v ≤ f.l := foldR_le a z fs _ v

theorem eq_of_le {x y : Int} (h : ∀ v, x ≤ v ↔ y ≤ v) : x = y := by
  have h1 := (h y).2 (Int.le_refl _)
  have h2 := (h x).1 (Int.le_refl _)
  omega
theorem eq_of_ge {x y : Int} (h : ∀ v, v ≤ x ↔ v ≤ y) : x = y := by
  have h1 := (h x).1 (Int.le_refl _)
  have h2 := (h y).2 (Int.le_refl _)
  omega

/-- What is free hangs on which floats there are, on nothing else. -/
theorem bandL_congr {fs gs : List Fl} (h : ∀ f, f ∈ fs ↔ f ∈ gs) (a z : Int) : bandL fs a z = bandL gs a z :=
  eq_of_le fun v => by rw [bandL_le, bandL_le]; exact ⟨fun ⟨h1, h2⟩ => ⟨h1, fun f hf => h2 f ((h f).2 hf)⟩, fun ⟨h1, h2⟩ => ⟨h1, fun f hf => h2 f ((h f).1 hf)⟩⟩
theorem bandR_congr {fs gs : List Fl} (h : ∀ f, f ∈ fs ↔ f ∈ gs) (a z : Int) : bandR fs a z = bandR gs a z :=
  eq_of_ge fun v => by rw [le_bandR, le_bandR]; exact ⟨fun ⟨h1, h2⟩ => ⟨h1, fun f hf => h2 f ((h f).2 hf)⟩, fun ⟨h1, h2⟩ => ⟨h1, fun f hf => h2 f ((h f).1 hf)⟩⟩

/-- More floats leave no more free. -/
theorem bandL_more {fs gs : List Fl} (h : ∀ f ∈ fs, f ∈ gs) (a z : Int) : bandL fs a z ≤ bandL gs a z :=
  bandL_le.2 ⟨(bandL_le.1 (Int.le_refl _)).1, fun f hf hh => (bandL_le.1 (Int.le_refl (bandL gs a z))).2 f (h f hf) hh⟩
theorem bandR_more {fs gs : List Fl} (h : ∀ f ∈ fs, f ∈ gs) (a z : Int) : bandR gs a z ≤ bandR fs a z :=
  le_bandR.2 ⟨(le_bandR.1 (Int.le_refl _)).1, fun f hf hh => (le_bandR.1 (Int.le_refl (bandR gs a z))).2 f (h f hf) hh⟩

/-- No rows: all is free. -/
theorem bandL_none (fs : List Fl) {a z : Int} (h : z ≤ a) : bandL fs a z = -far :=
  eq_of_le fun v => by
    rw [bandL_le]
    exact ⟨fun h1 => h1.1, fun h1 => ⟨h1, fun f _ hh => by have := (hitF_iff.1 hh).2.2.2.2; omega⟩⟩
theorem bandR_none (fs : List Fl) {a z : Int} (h : z ≤ a) : bandR fs a z = far :=
  eq_of_ge fun v => by
    rw [le_bandR]
    exact ⟨fun h1 => h1.1, fun h1 => ⟨h1, fun f _ hh => by have := (hitF_iff.1 hh).2.2.2.2; omega⟩⟩

theorem hit_split {side a m z : Int} {f : Fl} (h1 : a ≤ m) (h2 : m ≤ z) : hitF side a z f = true ↔ hitF side a m f = true ∨ hitF side m z f = true := by
  simp only [hitF_iff]
  constructor
  · rintro ⟨c, s, h3, h4, h5⟩
    have := (cntF_iff.1 c).2.1
    by_cases h6 : f.t < m ∧ a < m
    · exact .inl ⟨c, s, h6.1, h4, h6.2⟩
    · exact .inr ⟨c, s, h3, by omega, by omega⟩
  · rintro (⟨c, s, h3, h4, h5⟩ | ⟨c, s, h3, h4, h5⟩)
    · exact ⟨c, s, by omega, h4, by omega⟩
    · exact ⟨c, s, h3, by omega, by omega⟩

/-- Rows, and more rows below them. -/
theorem bandL_split (fs : List Fl) {a m z : Int} (h1 : a ≤ m) (h2 : m ≤ z) : bandL fs a z = max (bandL fs a m) (bandL fs m z) :=
  eq_of_le fun v => by
    have e : max (bandL fs a m) (bandL fs m z) ≤ v ↔ bandL fs a m ≤ v ∧ bandL fs m z ≤ v := by omega
    rw [e, bandL_le, bandL_le, bandL_le]
    constructor
    · rintro ⟨h3, h4⟩
      exact ⟨⟨h3, fun f hf hh => h4 f hf ((hit_split h1 h2).2 (.inl hh))⟩, ⟨h3, fun f hf hh => h4 f hf ((hit_split h1 h2).2 (.inr hh))⟩⟩
    · rintro ⟨⟨h3, h4⟩, -, h5⟩
      exact ⟨h3, fun f hf hh => by
        rcases (hit_split h1 h2).1 hh with h | h
        · exact h4 f hf h
        · exact h5 f hf h⟩
theorem bandR_split (fs : List Fl) {a m z : Int} (h1 : a ≤ m) (h2 : m ≤ z) : bandR fs a z = min (bandR fs a m) (bandR fs m z) :=
  eq_of_ge fun v => by
    have e : v ≤ min (bandR fs a m) (bandR fs m z) ↔ v ≤ bandR fs a m ∧ v ≤ bandR fs m z := by omega
    rw [e, le_bandR, le_bandR, le_bandR]
    constructor
    · rintro ⟨h3, h4⟩
      exact ⟨⟨h3, fun f hf hh => h4 f hf ((hit_split h1 h2).2 (.inl hh))⟩, ⟨h3, fun f hf hh => h4 f hf ((hit_split h1 h2).2 (.inr hh))⟩⟩
    · rintro ⟨⟨h3, h4⟩, -, h5⟩
      exact ⟨h3, fun f hf hh => by
        rcases (hit_split h1 h2).1 hh with h | h
        · exact h4 f hf h
        · exact h5 f hf h⟩

/-- The bounds of one row. -/
def bndF (fs : List Fl) (y : Int) : Int × Int := (bandL fs y (y + 1), bandR fs y (y + 1))

/-! Shelves: the one shortest list that draws what each row has. -/

/-- A list draws F from a row on: each item has what the rows have from its own up to the next one's, and neighbours are unlike. -/
def Draws {β : Type} (F : Int → β) : Int → List (Int × β) → Prop
  | _, [] => False
  | a, [(t, b)] => t = a ∧ ∀ y, a ≤ y → F y = b
  | a, (t, b) :: (t2, b2) :: rest => t = a ∧ a < t2 ∧ b ≠ b2 ∧ (∀ y, a ≤ y → y < t2 → F y = b) ∧ Draws F t2 ((t2, b2) :: rest)

theorem draws_head {β : Type} {F : Int → β} {a t : Int} {b : β} {rest : List (Int × β)} (h : Draws F a ((t, b) :: rest)) : t = a ∧ F a = b := by
  cases rest with
  | nil => exact ⟨h.1, h.2 a (Int.le_refl _)⟩
  | cons x xs => obtain ⟨t2, b2⟩ := x; exact ⟨h.1, h.2.2.2.1 a (Int.le_refl _) h.2.1⟩

/-- There is one such list at most. -/
theorem draws_one {β : Type} {F : Int → β} : ∀ (xs ys : List (Int × β)) (a : Int), Draws F a xs → Draws F a ys → xs = ys
  | [], _, _, h, _ => h.elim
  | _ :: _, [], _, _, h => h.elim
  | [(t, b)], [(t', b')], a, h, h' => by
    have h1 := draws_head h
    have h2 := draws_head h'
    rw [h1.1, h2.1, ← h1.2, ← h2.2]
  | [(t, b)], (t', b') :: (t2', b2') :: r', a, h, h' => by
    obtain ⟨-, h2, h3, h4, h5⟩ := h'
    have h6 := (draws_head h5).2
    have h7 := h.2 t2' (by omega)
    have h8 := h4 a (Int.le_refl _) h2
    have h9 := h.2 a (Int.le_refl _)
    exact absurd (by rw [← h8, h9, ← h7, h6]) h3
  | (t, b) :: (t2, b2) :: r, [(t', b')], a, h, h' => by
    obtain ⟨-, h2, h3, h4, h5⟩ := h
    have h6 := (draws_head h5).2
    have h7 := h'.2 t2 (by omega)
    have h8 := h4 a (Int.le_refl _) h2
    have h9 := h'.2 a (Int.le_refl _)
    exact absurd (by rw [← h8, h9, ← h7, h6]) h3
  | (t, b) :: (t2, b2) :: r, (t', b') :: (t2', b2') :: r', a, h, h' => by
    have g1 := draws_head h
    have g2 := draws_head h'
    obtain ⟨-, h2, h3, h4, h5⟩ := h
    obtain ⟨-, k2, k3, k4, k5⟩ := h'
    have e1 := (draws_head h5).2
    have e2 := (draws_head k5).2
    have hb : b = b' := by rw [← g1.2, ← g2.2]
    have ht : t2 = t2' := by
      rcases Int.lt_trichotomy t2 t2' with hh | hh | hh
      · have := k4 t2 (by omega) hh
        exact absurd (by rw [hb, ← this, e1]) h3
      · exact hh
      · have := h4 t2' (by omega) hh
        exact absurd (by rw [← hb, ← this, e2]) k3
    subst ht
    have := draws_one ((t2, b2) :: r) ((t2, b2') :: r') t2 h5 k5
    rw [g1.1, g2.1, hb, this]

theorem draws_congr {β : Type} {F G : Int → β} : ∀ (xs : List (Int × β)) (a : Int), (∀ y, a ≤ y → F y = G y) → Draws F a xs → Draws G a xs
  | [], _, _, h => h
  | [(t, b)], a, hf, h => ⟨h.1, fun y hy => (hf y hy).symm.trans (h.2 y hy)⟩
  | (t, b) :: (t2, b2) :: r, a, hf, ⟨h1, h2, h3, h4, h5⟩ => ⟨h1, h2, h3, fun y hy h => (hf y hy).symm.trans (h4 y hy h), draws_congr ((t2, b2) :: r) t2 (fun y hy => hf y (by omega)) h5⟩

end Go.Proofs.YtfomhdhiibcdfaaGreat.Shelf

/-! The document's walk from edge to edge: it draws what each row has; its band over rows. No program is in it. -/
namespace Go.Proofs.YtfomhdhiibcdfaaGreat.Shelf

def stepN (y : Int) (c : Bool) (s : Int × Bool) (e : Int) : Int × Bool := if c && decide (y < e) && (!s.2 || decide (e < s.1)) then (e, true) else s

/-- The least edge below a row. -/
def nextF (fs : List Fl) (y : Int) : Int × Bool := fs.foldl (fun s f => stepN y (cntF f) (stepN y (cntF f) s f.t) f.b) (0, false)

/-- What has been found of the edges below a row that a test lets by. -/
def Least (y : Int) (P : Int → Prop) (s : Int × Bool) : Prop := if s.2 then y < s.1 ∧ P s.1 ∧ ∀ e, P e → y < e → s.1 ≤ e else s = (0, false) ∧ ∀ e, P e → ¬ y < e

theorem least_step {y : Int} {P : Int → Prop} {s : Int × Bool} (h : Least y P s) (c : Bool) (e : Int) : Least y (fun x => P x ∨ (c = true ∧ x = e)) (stepN y c s e) := by
  obtain ⟨v, ok⟩ := s
  unfold stepN
  unfold Least at h ⊢
  cases c
  · simp only [Bool.false_and, Bool.false_eq_true, if_false]
    cases ok
    · simp only [Bool.false_eq_true, if_false] at h ⊢
      exact ⟨h.1, fun x hx => by rcases hx with hx | hx; exact h.2 x hx; exact hx.1.elim⟩
    · simp only [if_true] at h ⊢
      exact ⟨h.1, .inl h.2.1, fun x hx => by rcases hx with hx | hx; exact h.2.2 x hx; exact hx.1.elim⟩
  · by_cases hy : y < e
    · cases ok
      · simp only [Bool.false_eq_true, if_false] at h
        simp only [hy, decide_true, Bool.not_false, Bool.true_or, Bool.and_true, if_true]
        exact ⟨trivial, .inr ⟨trivial, trivial⟩, fun x hx hxy => by
          rcases hx with hx | hx
          · exact absurd hxy (h.2 x hx)
          · omega⟩
      · simp only [if_true] at h
        by_cases he : e < v
        · simp only [Bool.true_and, hy, he, decide_true, Bool.not_true, Bool.false_or, if_true]
          exact ⟨trivial, .inr ⟨trivial, trivial⟩, fun x hx hxy => by
            rcases hx with hx | hx
            · have := h.2.2 x hx hxy; omega
            · omega⟩
        · simp only [Bool.true_and, hy, he, decide_true, decide_false, Bool.not_true, Bool.or_false, Bool.and_false, Bool.false_eq_true, if_false, if_true]
          exact ⟨h.1, .inl h.2.1, fun x hx hxy => by
            rcases hx with hx | hx
            · exact h.2.2 x hx hxy
            · omega⟩
    · simp only [hy, decide_false, Bool.and_false, Bool.false_and, Bool.false_eq_true, if_false]
      cases ok
      · simp only [Bool.false_eq_true, if_false] at h ⊢
        exact ⟨h.1, fun x hx => by
          rcases hx with hx | hx
          · exact h.2 x hx
          · rw [hx.2]; exact hy⟩
      · simp only [if_true] at h ⊢
        exact ⟨h.1, .inl h.2.1, fun x hx hxy => by
          rcases hx with hx | hx
          · exact h.2.2 x hx hxy
          · rw [hx.2] at hxy; exact absurd hxy hy⟩

theorem least_congr {y : Int} {P Q : Int → Prop} (h : ∀ x, P x ↔ Q x) {s : Int × Bool} (hs : Least y P s) : Least y Q s := by
  have : P = Q := funext fun x => propext (h x)
  rwa [← this]

/-- Is a number an edge of a float that counts? -/
def edge (fs : List Fl) (e : Int) : Prop := ∃ f ∈ fs, cntF f = true ∧ (e = f.t ∨ e = f.b)

theorem least_fold (y : Int) : ∀ (fs gs : List Fl) (s : Int × Bool), Least y (edge gs) s → Least y (edge (gs ++ fs)) (fs.foldl (fun s f => stepN y (cntF f) (stepN y (cntF f) s f.t) f.b) s)
  | [], gs, s, h => by rwa [List.append_nil]
  | f :: fs, gs, s, h => by
    rw [List.foldl_cons]
    have h1 := least_step (least_step h (cntF f) f.t) (cntF f) f.b
    have h2 := least_fold y fs (gs ++ [f]) _ (least_congr (Q := edge (gs ++ [f])) (fun x => by
      unfold edge
      constructor
      · rintro ((⟨g, hg, h3⟩ | ⟨hc, he⟩) | ⟨hc, he⟩)
        · exact ⟨g, by simp [hg], h3⟩
        · exact ⟨f, by simp, hc, .inl he⟩
        · exact ⟨f, by simp, hc, .inr he⟩
      · rintro ⟨g, hg, hc, he⟩
        rcases List.mem_append.1 hg with hg | hg
        · exact .inl (.inl ⟨g, hg, hc, he⟩)
        · rw [List.mem_singleton.1 hg] at hc he
          rcases he with he | he
          · exact .inl (.inr ⟨hc, he⟩)
          · exact .inr ⟨hc, he⟩) h1)
    rwa [List.append_assoc, List.singleton_append] at h2

theorem nextF_least (fs : List Fl) (y : Int) : Least y (edge fs) (nextF fs y) := by
  have := least_fold y fs [] (0, false) (by unfold Least; simp [edge])
  rwa [List.nil_append] at this

/-- Rows without an edge between them have the same bounds. -/
theorem bnd_same {fs : List Fl} {x y : Int} (hxy : y ≤ x) (h : ∀ e, edge fs e → y < e → x < e) : bndF fs x = bndF fs y := by
  have key : ∀ side, ∀ f ∈ fs, hitF side x (x + 1) f = true ↔ hitF side y (y + 1) f = true := by
    intro side f hf
    simp only [hitF_iff]
    constructor
    · rintro ⟨c, s, h1, h2, -⟩
      have ht := h f.t ⟨f, hf, c, .inl rfl⟩
      exact ⟨c, s, by omega, by omega, by omega⟩
    · rintro ⟨c, s, h1, h2, -⟩
      have hb := h f.b ⟨f, hf, c, .inr rfl⟩ h2
      exact ⟨c, s, by omega, by omega, by omega⟩
  unfold bndF
  rw [eq_of_le (x := bandL fs x (x + 1)) (y := bandL fs y (y + 1)) fun v => by
      rw [bandL_le, bandL_le]; exact ⟨fun ⟨h1, h2⟩ => ⟨h1, fun f hf hh => h2 f hf ((key 1 f hf).2 hh)⟩, fun ⟨h1, h2⟩ => ⟨h1, fun f hf hh => h2 f hf ((key 1 f hf).1 hh)⟩⟩,
    eq_of_ge (x := bandR fs x (x + 1)) (y := bandR fs y (y + 1)) fun v => by
      rw [le_bandR, le_bandR]; exact ⟨fun ⟨h1, h2⟩ => ⟨h1, fun f hf hh => h2 f hf ((key 2 f hf).2 hh)⟩, fun ⟨h1, h2⟩ => ⟨h1, fun f hf hh => h2 f hf ((key 2 f hf).1 hh)⟩⟩]

/-- A row that no float that counts has is as free as can be. -/
theorem bnd_free {fs : List Fl} {y : Int} (h : ∀ f ∈ fs, cntF f = true → y < f.t ∨ f.b ≤ y) : bndF fs y = (-far, far) := by
  have key : ∀ side, ∀ f ∈ fs, hitF side y (y + 1) f = true → False := fun side f hf hh => by
    obtain ⟨c, -, h1, h2, -⟩ := hitF_iff.1 hh
    have := h f hf c
    omega
  unfold bndF
  rw [eq_of_le (x := bandL fs y (y + 1)) (y := -far) fun v => by rw [bandL_le]; exact ⟨fun h1 => h1.1, fun h1 => ⟨h1, fun f hf hh => (key 1 f hf hh).elim⟩⟩,
    eq_of_ge (x := bandR fs y (y + 1)) (y := far) fun v => by rw [le_bandR]; exact ⟨fun h1 => h1.1, fun h1 => ⟨h1, fun f hf hh => (key 2 f hf hh).elim⟩⟩]

/-- The edges, with repeats. -/
def edgesL (fs : List Fl) : List Int := (fs.filter cntF).flatMap fun f => [f.t, f.b]
theorem edgesL_mem {fs : List Fl} {e : Int} : e ∈ edgesL fs ↔ edge fs e := by
  unfold edgesL edge
  simp only [List.mem_flatMap, List.mem_filter, List.mem_cons, List.not_mem_nil, or_false, and_assoc]
theorem edgesL_len (fs : List Fl) : (edgesL fs).length ≤ 2 * fs.length := by
  unfold edgesL
  have h1 : ∀ gs : List Fl, (gs.flatMap fun f => [f.t, f.b]).length = 2 * gs.length := fun gs => by
    induction gs with
    | nil => rfl
    | cons g gs ih => rw [List.flatMap_cons, List.length_append, ih]; simp; omega
  rw [h1]
  have := List.length_filter_le cntF fs
  omega
def leftN (fs : List Fl) (y : Int) : Nat := (edgesL fs).countP fun e => decide (y ≤ e)
theorem leftN_less {fs : List Fl} {y z : Int} (h : edge fs y) (hz : y < z) : leftN fs z < leftN fs y := by
  unfold leftN
  have hm := edgesL_mem.2 h
  generalize edgesL fs = es at hm
  induction es with
  | nil => cases hm
  | cons e es ih =>
    rw [List.countP_cons, List.countP_cons]
    have hmono : ∀ l : List Int, l.countP (fun e => decide (z ≤ e)) ≤ l.countP (fun e => decide (y ≤ e)) := fun l => List.countP_mono_left (fun x _ hx => by simp only [decide_eq_true_eq] at hx ⊢; omega)
    rcases List.mem_cons.1 hm with e1 | e1
    · subst e1
      have := hmono es
      rw [if_neg (by simp; omega), if_pos (by simp)]
      omega
    · have := ih e1
      by_cases h2 : z ≤ e
      · rw [if_pos (by simp [h2]), if_pos (by simp; omega)]; omega
      · rw [if_neg (by simp [h2])]; split <;> omega

/-- From an edge on: the shelves that begin there, or below. -/
def restS (fs : List Fl) : Nat → Int × Int → Int → List (Int × (Int × Int))
  | 0, _, _ => []
  | q + 1, b, y =>
    if bndF fs y = b then (if (nextF fs y).2 then restS fs q b (nextF fs y).1 else [])
    else (y, bndF fs y) :: (if (nextF fs y).2 then restS fs q (bndF fs y) (nextF fs y).1 else [])

theorem restS_draws {fs : List Fl} : ∀ (q : Nat) (a y : Int) (b : Int × Int), a < y → edge fs y → (∀ x, a ≤ x → x < y → bndF fs x = b) → leftN fs y ≤ q → Draws (bndF fs) a ((a, b) :: restS fs q b y)
  | 0, a, y, b, _, he, _, hq => by
    exfalso
    have h1 : 0 < leftN fs y := List.countP_pos_iff.2 ⟨y, edgesL_mem.2 he, by simp⟩
    omega
  | q + 1, a, y, b, ha, he, hc, hq => by
    have hn := nextF_least fs y
    unfold Least at hn
    unfold restS
    cases hok : (nextF fs y).2
    · rw [hok] at hn
      simp only [Bool.false_eq_true, if_false] at hn ⊢
      have hsame : ∀ x, y ≤ x → bndF fs x = bndF fs y := fun x hx => bnd_same hx (fun e h1 h2 => absurd h2 (hn.2 e h1))
      by_cases hb : bndF fs y = b
      · rw [if_pos hb]
        exact ⟨rfl, fun x hx => by
          by_cases h : x < y
          · exact hc x hx h
          · rw [hsame x (by omega), hb]⟩
      · rw [if_neg hb]
        exact ⟨rfl, ha, fun e => hb e.symm, hc, rfl, hsame⟩
    · rw [hok] at hn
      simp only [if_true] at hn ⊢
      obtain ⟨h1, h2, h3⟩ := hn
      have hsame : ∀ x, y ≤ x → x < (nextF fs y).1 → bndF fs x = bndF fs y := fun x hx hx2 => bnd_same hx (fun e g1 g2 => by have := h3 e g1 g2; omega)
      have hl := leftN_less he h1
      by_cases hb : bndF fs y = b
      · rw [if_pos hb]
        exact restS_draws q a _ b (by omega) h2 (fun x hx hx2 => by
          by_cases h : x < y
          · exact hc x hx h
          · rw [hsame x (by omega) hx2, hb]) (by omega)
      · rw [if_neg hb]
        have := restS_draws q y _ (bndF fs y) h1 h2 hsame (by omega)
        exact ⟨rfl, ha, fun e => hb e.symm, hc, this⟩

theorem restS_len {fs : List Fl} : ∀ (q : Nat) (b : Int × Int) (y : Int), (restS fs q b y).length ≤ q
  | 0, _, _ => Nat.le_refl _
  | q + 1, b, y => by
    unfold restS
    split <;> split
    · have := restS_len (fs := fs) q b (nextF fs y).1; omega
    · simp
    · have := restS_len (fs := fs) q (bndF fs y) (nextF fs y).1; simp; omega
    · simp

/-- The shelves. -/
def shelvesD (fs : List Fl) : List (Int × (Int × Int)) := (-far, (-far, far)) :: (if (nextF fs (-far)).2 then restS fs (2 * fs.length) (-far, far) (nextF fs (-far)).1 else [])

/-- Floats that aren't too far away. -/
def Near (fs : List Fl) : Prop := ∀ f ∈ fs, -2251799813685248 < f.t ∧ f.b < 2251799813685248

theorem shelvesD_draws {fs : List Fl} (hn : Near fs) : Draws (bndF fs) (-far) (shelvesD fs) := by
  have hfree : ∀ x, (∀ f ∈ fs, cntF f = true → x < f.t) → bndF fs x = (-far, far) := fun x h => bnd_free (fun f hf hc => .inl (h f hf hc))
  have hl := nextF_least fs (-far)
  unfold Least at hl
  unfold shelvesD
  cases hok : (nextF fs (-far)).2
  · rw [hok] at hl
    simp only [Bool.false_eq_true, if_false] at hl ⊢
    exact ⟨rfl, fun x _ => hfree x (fun f hf hc => absurd (by have := (hn f hf).1; unfold far; omega) (hl.2 f.t ⟨f, hf, hc, .inl rfl⟩))⟩
  · rw [hok] at hl
    simp only [if_true] at hl ⊢
    obtain ⟨h1, h2, h3⟩ := hl
    refine restS_draws _ _ _ _ h1 h2 (fun x hx hx2 => hfree x fun f hf hc => ?_) ?_
    · have := h3 f.t ⟨f, hf, hc, .inl rfl⟩ (by have := (hn f hf).1; unfold far; omega)
      omega
    · exact Nat.le_trans (List.countP_le_length ..) (edgesL_len fs)

theorem shelvesD_len (fs : List Fl) : (shelvesD fs).length ≤ 2 * fs.length + 1 := by
  unfold shelvesD
  rw [List.length_cons]
  split
  · have := restS_len (fs := fs) (2 * fs.length) (-far, far) (nextF fs (-far)).1; omega
  · simp

/-- What any list that draws the rows is. -/
theorem shelves_one {fs : List Fl} (hn : Near fs) {xs : List (Int × (Int × Int))} (h : Draws (bndF fs) (-far) xs) : xs = shelvesD fs := draws_one _ _ _ h (shelvesD_draws hn)

/-- The shelves hang on which floats there are, on nothing else. -/
theorem shelvesD_congr {fs gs : List Fl} (hn : Near fs) (hm : Near gs) (h : ∀ f, f ∈ fs ↔ f ∈ gs) : shelvesD fs = shelvesD gs :=
  draws_one _ _ _ (shelvesD_draws hn) (draws_congr _ _ (fun y _ => by unfold bndF; rw [bandL_congr h, bandR_congr h]) (shelvesD_draws hm))

/-- The document's band: the first row, and those where a float begins. -/
def docL (fs : List Fl) (a z : Int) : Int := fs.foldl (fun v f => if decide (a < f.t) && decide (f.t < z) then max v (bandL fs f.t (f.t + 1)) else v) (bandL fs a (a + 1))
def docR (fs : List Fl) (a z : Int) : Int := fs.foldl (fun v f => if decide (a < f.t) && decide (f.t < z) then min v (bandR fs f.t (f.t + 1)) else v) (bandR fs a (a + 1))

theorem foldM_le (p : Fl → Bool) (g : Fl → Int) : ∀ (fs : List Fl) (v0 v : Int), fs.foldl (fun v f => if p f then max v (g f) else v) v0 ≤ v ↔ v0 ≤ v ∧ ∀ f ∈ fs, p f = true → g f ≤ v
  | [], v0, v => by simp
  | f :: fs, v0, v => by
    rw [List.foldl_cons, foldM_le p g fs]
    simp only [List.mem_cons, forall_eq_or_imp]
    by_cases h : p f = true
    · rw [if_pos h]
      constructor
      · rintro ⟨h1, h2⟩; exact ⟨by omega, fun _ => by omega, h2⟩
      · rintro ⟨h1, h2, h3⟩; have := h2 h; exact ⟨by omega, h3⟩
    · rw [if_neg h]
      exact ⟨fun ⟨h1, h2⟩ => ⟨h1, fun e => absurd e h, h2⟩, fun ⟨h1, _, h3⟩ => ⟨h1, h3⟩⟩
theorem foldm_le (p : Fl → Bool) (g : Fl → Int) : ∀ (fs : List Fl) (v0 v : Int), v ≤ fs.foldl (fun v f => if p f then min v (g f) else v) v0 ↔ v ≤ v0 ∧ ∀ f ∈ fs, p f = true → v ≤ g f
  | [], v0, v => by simp
  | f :: fs, v0, v => by
    rw [List.foldl_cons, foldm_le p g fs]
    simp only [List.mem_cons, forall_eq_or_imp]
    by_cases h : p f = true
    · rw [if_pos h]
      constructor
      · rintro ⟨h1, h2⟩; exact ⟨by omega, fun _ => by omega, h2⟩
      · rintro ⟨h1, h2, h3⟩; have := h2 h; exact ⟨by omega, h3⟩
    · rw [if_neg h]
      exact ⟨fun ⟨h1, h2⟩ => ⟨h1, fun e => absurd e h, h2⟩, fun ⟨h1, _, h3⟩ => ⟨h1, h3⟩⟩

theorem docL_band {fs : List Fl} {a z : Int} (h : a < z) : docL fs a z = bandL fs a z :=
  eq_of_le fun v => by
    unfold docL
    rw [foldM_le, bandL_le, bandL_le]
    simp only [Bool.and_eq_true, decide_eq_true_eq]
    constructor
    · rintro ⟨⟨h1, h2⟩, h3⟩
      refine ⟨h1, fun f hf hh => ?_⟩
      obtain ⟨c, s, g1, g2, -⟩ := hitF_iff.1 hh
      by_cases g3 : f.t ≤ a
      · exact h2 f hf (hitF_iff.2 ⟨c, s, by omega, g2, by omega⟩)
      · exact (bandL_le.1 (h3 f hf ⟨by omega, g1⟩)).2 f hf (hitF_iff.2 ⟨c, s, by omega, (cntF_iff.1 c).2.1, by omega⟩)
    · rintro ⟨h1, h2⟩
      refine ⟨⟨h1, fun f hf hh => ?_⟩, fun g hg hgt => bandL_le.2 ⟨h1, fun f hf hh => ?_⟩⟩
      · obtain ⟨c, s, g1, g2, -⟩ := hitF_iff.1 hh
        exact h2 f hf (hitF_iff.2 ⟨c, s, by omega, g2, h⟩)
      · obtain ⟨c, s, g1, g2, -⟩ := hitF_iff.1 hh
        exact h2 f hf (hitF_iff.2 ⟨c, s, by omega, by omega, h⟩)
theorem docR_band {fs : List Fl} {a z : Int} (h : a < z) : docR fs a z = bandR fs a z :=
  eq_of_ge fun v => by
    unfold docR
    rw [foldm_le, le_bandR, le_bandR]
    simp only [Bool.and_eq_true, decide_eq_true_eq]
    constructor
    · rintro ⟨⟨h1, h2⟩, h3⟩
      refine ⟨h1, fun f hf hh => ?_⟩
      obtain ⟨c, s, g1, g2, -⟩ := hitF_iff.1 hh
      by_cases g3 : f.t ≤ a
      · exact h2 f hf (hitF_iff.2 ⟨c, s, by omega, g2, by omega⟩)
      · exact (le_bandR.1 (h3 f hf ⟨by omega, g1⟩)).2 f hf (hitF_iff.2 ⟨c, s, by omega, (cntF_iff.1 c).2.1, by omega⟩)
    · rintro ⟨h1, h2⟩
      refine ⟨⟨h1, fun f hf hh => ?_⟩, fun g hg hgt => le_bandR.2 ⟨h1, fun f hf hh => ?_⟩⟩
      · obtain ⟨c, s, g1, g2, -⟩ := hitF_iff.1 hh
        exact h2 f hf (hitF_iff.2 ⟨c, s, by omega, g2, h⟩)
      · obtain ⟨c, s, g1, g2, -⟩ := hitF_iff.1 hh
        exact h2 f hf (hitF_iff.2 ⟨c, s, by omega, by omega, h⟩)

end Go.Proofs.YtfomhdhiibcdfaaGreat.Shelf

/-! The contracts of rect's small functions, of the document's, and of the law's own conversion. -/
namespace Go.Proofs.YtfomhdhiibcdfaaGreat.Rect
open Go.RowKit

theorem ba1 (w : World) (o : Obj) : Below w.heap.size w (w.alloc o) := (Below.refl _ _).alloc (Nat.le_refl _) o
theorem ba2 (w : World) (o p : Obj) : Below w.heap.size w ((w.alloc o).alloc p) := (ba1 w o).alloc (by simp) p
theorem ba3 (w : World) (o p q : Obj) : Below w.heap.size w (((w.alloc o).alloc p).alloc q) := (ba2 w o p).alloc (by simp; omega) q

set_option maxHeartbeats 400000 in
theorem columns_any (l t r b : Int) (w : World) :
    Calls Tryz.prog 75 #[.agg #[.int .i64 l, .int .i64 t, .int .i64 r, .int .i64 b]] w fun e w' => e = .returned (.agg #[.int .i64 l, .int .i64 r]) ∧ Below w.heap.size w w' := by
  go_enter Tryz.func75, Tryz.ntmps75
  go_wp2
  all_goals exact bodyPost_ret (v := .agg #[.int .i64 l, .int .i64 r]) (by simp [results, Tryz.results75, go_sem]) rfl ⟨rfl, by first | exact ba1 _ _ | exact ba2 _ _ _ | exact ba3 _ _ _ _⟩

set_option maxHeartbeats 400000 in
theorem rows_any (l t r b : Int) (w : World) :
    Calls Tryz.prog 66 #[.agg #[.int .i64 l, .int .i64 t, .int .i64 r, .int .i64 b]] w fun e w' => e = .returned (.agg #[.int .i64 t, .int .i64 b]) ∧ Below w.heap.size w w' := by
  go_enter Tryz.func66, Tryz.ntmps66
  go_wp2
  all_goals exact bodyPost_ret (v := .agg #[.int .i64 t, .int .i64 b]) (by simp [results, Tryz.results66, go_sem]) rfl ⟨rfl, by first | exact ba1 _ _ | exact ba2 _ _ _ | exact ba3 _ _ _ _⟩

set_option maxHeartbeats 400000 in
theorem of_any (x0 x1 x2 x3 : Int) (w : World) :
    Calls Tryz.prog 36 #[.agg #[.int .i64 x0, .int .i64 x1, .int .i64 x2, .int .i64 x3]] w fun e w' => e = .returned (.agg #[.int .i64 x0, .int .i64 x1, .int .i64 x2, .int .i64 x3]) ∧ Below w.heap.size w w' := by
  go_enter Tryz.func36, Tryz.ntmps36
  go_wp2
  all_goals exact bodyPost_ret (v := .agg #[.int .i64 x0, .int .i64 x1, .int .i64 x2, .int .i64 x3]) (by simp [results, Tryz.results36, go_sem]) rfl ⟨rfl, by first | exact ba1 _ _ | exact ba2 _ _ _ | exact ba3 _ _ _ _⟩

set_option maxHeartbeats 400000 in
theorem some_any (a b : Int) (w : World) :
    Calls Tryz.prog 76 #[.agg #[.int .i64 a, .int .i64 b]] w fun e w' => e = .returned (.bool (decide (a < b))) ∧ Below w.heap.size w w' := by
  go_enter Tryz.func76, Tryz.ntmps76
  go_wp2
  all_goals (go_ret; exact ⟨by simp [*] <;> omega, by first | exact ba1 _ _ | exact ba2 _ _ _⟩)

end Go.Proofs.YtfomhdhiibcdfaaGreat.Rect

/-! The contracts of what rect and the document make of two rectangles. -/
namespace Go.Proofs.YtfomhdhiibcdfaaGreat.Rect
open Go.RowKit Go.Sort

theorem bcell {W w1 : World} (hb : Below W.heap.size W w1) : (∀ b o, b < W.heap.size → w1.cell? ⟨b, o, none⟩ = W.cell? ⟨b, o, none⟩) ∧ (∀ b o, b < W.heap.size → w1.frozen? ⟨b, o, none⟩ = W.frozen? ⟨b, o, none⟩) :=
  ⟨fun b o h => hb.cell (p := ⟨b, o, none⟩) h, fun b o h => hb.frozen (p := ⟨b, o, none⟩) h⟩

theorem thru {w W w1 : World} (h1 : Below w.heap.size w W) (h2 : Below W.heap.size W w1) : Below w.heap.size w w1 := h1.trans (h2.mono h1.size)

theorem calls_same_below {P : Program} {f : FuncId} {args : Array Value} {w : World} {v : Value} (h : Calls P f args w fun e w' => e = .returned v ∧ w = w') :
    Calls P f args w fun e w' => e = .returned v ∧ Below w.heap.size w w' := h.mono fun _ _ ⟨he, hw⟩ => ⟨he, by subst hw; exact Below.refl _ _⟩

theorem some_is (a b : Int) (v : Bool) (hv : decide (a < b) = v) (w : World) :
    Calls Tryz.prog 76 #[.agg #[.int .i64 a, .int .i64 b]] w fun e w' => e = .returned (.bool v) ∧ Below w.heap.size w w' := by
  subst hv; exact some_any a b w

set_option maxHeartbeats 400000 in
theorem full_is (l t r b : Int) (v : Bool) (hv : (decide (l < r) && decide (t < b)) = v) (w : World) :
    Calls Tryz.prog 64 #[.agg #[.int .i64 l, .int .i64 t, .int .i64 r, .int .i64 b]] w fun e w' => e = .returned (.bool v) ∧ Below w.heap.size w w' := by
  obtain ⟨p, hp⟩ : ∃ p : Bool, decide (l < r) = p := ⟨_, rfl⟩
  obtain ⟨q, hq⟩ : ∃ q : Bool, decide (t < b) = q := ⟨_, rfl⟩
  rw [hp, hq] at hv
  subst hv
  have HP := Lib.hid hp
  have HQ := Lib.hid hq
  clear hp hq
  cases p
  all_goals
    go_enter Tryz.func64, Tryz.ntmps64
    go_wp2_with fail
    refine (columns_any _ _ _ _ _).mono ?_; rintro e w1 ⟨rfl, b1⟩
    obtain ⟨c1, f1⟩ := bcell b1
    go_wp2_with fail
    refine (some_is _ _ _ HP.out _).mono ?_; rintro e w2 ⟨rfl, b2⟩
    replace b2 := thru b1 b2
    clear b1 c1 f1
    obtain ⟨c2, f2⟩ := bcell b2
    go_wp2_with fail
  · go_ret
    exact ⟨rfl, thru (ba1 _ _) b2⟩
  · refine (rows_any _ _ _ _ _).mono ?_; rintro e w3 ⟨rfl, b3⟩
    replace b3 := thru b2 b3
    clear b2 c2 f2
    go_wp2_with fail
    refine (some_is _ _ _ HQ.out _).mono ?_; rintro e w4 ⟨rfl, b4⟩
    replace b4 := thru b3 b4
    clear b3
    go_wp2_with fail
    go_ret
    exact ⟨by simp, thru (ba1 _ _) b4⟩

end Go.Proofs.YtfomhdhiibcdfaaGreat.Rect

/-! The contract of the document's look at numbers: whether all lie within its bounds. -/
namespace Go.Proofs.YtfomhdhiibcdfaaGreat.Rect
open Go.RowKit Go.Sort

def inB (n : Int) : Bool := decide (-1152921504606846976 ≤ n ∧ n ≤ 1152921504606846976)

theorem take_next (xs : List Int) (k : Nat) (h : k < xs.length) : xs.take (k + 1) = xs.take k ++ [xs.getD k 0] := by
  rw [List.take_succ_eq_append_getElem h]; simp [List.getD, h]

theorem all_out (xs : List Int) (k : Nat) (h : k < xs.length) (y : Int) (hy : y = xs.getD k 0) (hb : inB y = false) : xs.all inB = false := by
  rw [List.all_eq_false]
  refine ⟨y, ?_, by rw [hb]; simp⟩
  rw [hy]; simp [List.getD, h]

theorem ret_bool {a b : Bool} (h : a = b) : Ending.returned (.bool a) = .returned (.bool b) := by rw [h]

end Go.Proofs.YtfomhdhiibcdfaaGreat.Rect
