/- Texts of this proof that follow each other, in one file. -/
import Derived.Test.YtfomhdhiibcdfaaPart1
import Derived.BigQuiet
import Derived.Deep.DeepCutAuto
/-! Lists of boxes: that are read, and of one's own, that are appended to. -/
namespace Go.Proofs.Ytfomhdhiibcdfaa.Script
open Go.RowKit Go.Sort Go.Proofs.Ytfomhdhiibcdfaa.Record

/-- The cells of a box. -/
def cellsOfB (b : Bx) : List Value :=
  [.int .i64 b.d, .int .i64 b.k, .int .i64 b.s, .int .i64 b.c, .int .i64 b.w, .int .i64 b.h, .int .i64 b.m0, .int .i64 b.m1, .int .i64 b.m2, .int .i64 b.m3, .int .i64 b.e0, .int .i64 b.e1, .int .i64 b.e2, .int .i64 b.e3]

theorem cellsOfB_len (b : Bx) : (cellsOfB b).length = 14 := rfl

def noB : Bx := ⟨0, 0, 0, 0, 0, 0, 0, 0, 0, 0, 0, 0, 0, 0⟩

/-- A box that lies at an address. -/
def AtP (w : World) (p : Addr) (b : Bx) : Prop :=
  w.cell? p = some (.int .i64 b.d) ∧ w.cell? ⟨p.block, p.off + 1, none⟩ = some (.int .i64 b.k) ∧ w.cell? ⟨p.block, p.off + 2, none⟩ = some (.int .i64 b.s) ∧ w.cell? ⟨p.block, p.off + 3, none⟩ = some (.int .i64 b.c) ∧
  w.cell? ⟨p.block, p.off + 4, none⟩ = some (.int .i64 b.w) ∧ w.cell? ⟨p.block, p.off + 5, none⟩ = some (.int .i64 b.h) ∧
  w.cell? ⟨p.block, p.off + 6, none⟩ = some (.int .i64 b.m0) ∧ w.cell? ⟨p.block, p.off + 7, none⟩ = some (.int .i64 b.m1) ∧ w.cell? ⟨p.block, p.off + 8, none⟩ = some (.int .i64 b.m2) ∧ w.cell? ⟨p.block, p.off + 9, none⟩ = some (.int .i64 b.m3) ∧
  w.cell? ⟨p.block, p.off + 10, none⟩ = some (.int .i64 b.e0) ∧ w.cell? ⟨p.block, p.off + 11, none⟩ = some (.int .i64 b.e1) ∧ w.cell? ⟨p.block, p.off + 12, none⟩ = some (.int .i64 b.e2) ∧ w.cell? ⟨p.block, p.off + 13, none⟩ = some (.int .i64 b.e3)

theorem cell_at (w : World) (p : Addr) (j : Nat) (v : Value) (hj : 0 < j) (h : w.cell? (p.add j) = some v) : w.cell? ⟨p.block, p.off + j, none⟩ = some v := by
  unfold Addr.add at h
  rw [if_neg (by omega)] at h
  exact h

theorem AtP.of_cells {w : World} {p : Addr} {b : Bx} (h : ∀ j v, (cellsOfB b)[j]? = some v → w.cell? (p.add j) = some v) : AtP w p b := by
  refine ⟨?_, cell_at _ _ _ _ (by omega) (h 1 _ rfl), cell_at _ _ _ _ (by omega) (h 2 _ rfl), cell_at _ _ _ _ (by omega) (h 3 _ rfl), cell_at _ _ _ _ (by omega) (h 4 _ rfl), cell_at _ _ _ _ (by omega) (h 5 _ rfl), cell_at _ _ _ _ (by omega) (h 6 _ rfl),
    cell_at _ _ _ _ (by omega) (h 7 _ rfl), cell_at _ _ _ _ (by omega) (h 8 _ rfl), cell_at _ _ _ _ (by omega) (h 9 _ rfl), cell_at _ _ _ _ (by omega) (h 10 _ rfl), cell_at _ _ _ _ (by omega) (h 11 _ rfl), cell_at _ _ _ _ (by omega) (h 12 _ rfl), cell_at _ _ _ _ (by omega) (h 13 _ rfl)⟩
  have := h 0 _ rfl
  simpa [Addr.add] using this

theorem AtP.below {w w' : World} {B : Nat} {p : Addr} {b : Bx} (h : AtP w p b) (hp : p.block < B) (k : Below B w w') : AtP w' p b := by
  have e0 : w'.cell? p = w.cell? p := k.cell hp
  have e : ∀ o, w'.cell? ⟨p.block, o, none⟩ = w.cell? ⟨p.block, o, none⟩ := fun o => k.cell (p := ⟨p.block, o, none⟩) hp
  unfold AtP at *
  simp only [e, e0]
  exact h

/-- The boxes of a slice, below block B. -/
def Boxes (w : World) (B : Nat) (A : Option Addr) (bs : List Bx) : Prop :=
  ∀ k, k < bs.length → ∃ ad : Addr, A = some ad ∧ ad.block < B ∧ AtP w (ad.add (k * 14)) (bs.getD k noB)

theorem Boxes.below {w w' : World} {B : Nat} {A : Option Addr} {bs : List Bx} (h : Boxes w B A bs) (k : Below B w w') : Boxes w' B A bs := fun i hi => by
  obtain ⟨ad, e, hb, hc⟩ := h i hi
  exact ⟨ad, e, hb, hc.below (by rw [block_of_add]; exact hb) k⟩

theorem Boxes.more {w : World} {B C : Nat} {A : Option Addr} {bs : List Bx} (h : Boxes w B A bs) (hc : B ≤ C) : Boxes w C A bs := fun i hi => by
  obtain ⟨ad, e, hb, hx⟩ := h i hi
  exact ⟨ad, e, by omega, hx⟩

theorem Boxes.thru {w w' : World} {A : Option Addr} {bs : List Bx} (h : Boxes w w.heap.size A bs) (k : Below w.heap.size w w') : Boxes w' w'.heap.size A bs := (h.below k).more k.size

theorem flat_len (bs : List Bx) : (bs.flatMap cellsOfB).length = bs.length * 14 := by
  induction bs with
  | nil => rfl
  | cons b bs ih => simp only [List.flatMap_cons, List.length_append, cellsOfB_len, ih, List.length_cons]; omega

theorem flat_at (bs : List Bx) : ∀ (k : Nat), k < bs.length → ∀ j v, (cellsOfB (bs.getD k noB))[j]? = some v → (bs.flatMap cellsOfB)[k * 14 + j]? = some v := by
  induction bs with
  | nil => intro k hk; simp at hk
  | cons b bs ih =>
    intro k hk j v h
    have hj : j < 14 := by
      have := (List.getElem?_eq_some_iff.1 h).1
      rwa [cellsOfB_len] at this
    rw [List.flatMap_cons]
    cases k with
    | zero =>
      rw [List.getElem?_append_left (by rw [cellsOfB_len]; omega)]
      simpa using h
    | succ k =>
      rw [List.getElem?_append_right (by rw [cellsOfB_len]; omega), cellsOfB_len, show (k + 1) * 14 + j - 14 = k * 14 + j by omega]
      exact ih k (by simpa using hk) j v (by simpa using h)

theorem flat_cells (bs : List Bx) : ∀ u ∈ bs.flatMap cellsOfB, u.oneCell' = true := by
  intro u hu
  rw [List.mem_flatMap] at hu
  obtain ⟨b, _, h⟩ := hu
  simp only [cellsOfB, List.mem_cons, List.not_mem_nil, or_false] at h
  rcases h with h | h | h | h | h | h | h | h | h | h | h | h | h | h <;> (subst h; rfl)

theorem add_add (p : Addr) (i j : Nat) : (p.add i).add j = p.add (i + j) := by
  unfold Addr.add
  by_cases hi : i = 0 <;> by_cases hj : j = 0 <;> simp [hi, hj] <;> omega

/-- A slice of one's own, of boxes. -/
def MineB (T : TypeId) (w : World) (B : Nat) (A : Option Addr) (n c : Nat) (bs : List Bx) : Prop :=
  w.ownsRow B T 14 (.slice A n c) n (bs.flatMap cellsOfB)

theorem mineB_shape {T : TypeId} {w : World} {B : Nat} {v : Value} {n : Nat} {xs : List Value} (h : w.ownsRow B T 14 v n xs) : ∃ A c, v = .slice A n c := by
  rcases h.2 with ⟨rfl, rfl⟩ | ⟨g, cap, cur, rfl, _⟩
  · exact ⟨none, 0, rfl⟩
  · exact ⟨_, _, rfl⟩

section
variable {T : TypeId} {w w' : World} {B : Nat} {A : Option Addr} {n c : Nat} {bs : List Bx}

theorem MineB.len (h : MineB T w B A n c bs) : bs.length = n := by
  have := h.1; rw [flat_len] at this; omega

theorem MineB.lt (h : MineB T w B A n c bs) : ∀ k, blk A = some k → B ≤ k ∧ k < w.heap.size := by
  intro k hk
  exact World.ownsRow.lt h k (by rw [ownBlock_blk]; exact hk)

theorem MineB.kept {row : Option Nat} (h : MineB T w B A n c bs) (hg : w.grownBy w' row) (hne : ∀ k, blk A = some k → row ≠ some k) : MineB T w' B A n c bs := by
  refine World.ownsRow.kept h hg ?_
  rw [ownBlock_blk]
  cases hb : blk A with
  | none => exact .inl rfl
  | some k => exact .inr fun e => hne k hb e.symm

theorem MineB.below (h : MineB T w B A n c bs) (hb : Below w.heap.size w w') : MineB T w' B A n c bs :=
  h.kept (grown_of_below hb) (fun k _ e => by cases e)

theorem MineB.alloc (h : MineB T w B A n c bs) (o : Obj) : MineB T (w.alloc o) B A n c bs := World.ownsRow.alloc h o

theorem MineB.cells (h : MineB T w B A n c bs) : ∀ j u, (bs.flatMap cellsOfB)[j]? = some u → ∃ g, A = some ⟨g, 0, none⟩ ∧ g < w.heap.size ∧ w.cell? ((⟨g, 0, none⟩ : Addr).add j) = some u := by
  intro j u hu
  have hl := h.len
  have hlt := (List.getElem?_eq_some_iff.1 hu).1
  rw [flat_len] at hlt
  obtain ⟨g, cap, hv, _, hg⟩ := World.ownsRow.form h (by omega)
  have hA : A = some ⟨g, 0, none⟩ := by injection hv
  subst hA
  exact ⟨g, rfl, hg, World.ownsRow.cells h (g := g) rfl j u hu⟩

theorem MineB.boxes (h : MineB T w B A n c bs) : Boxes w w.heap.size A bs := fun k hk => by
  obtain ⟨g, e, hg, _⟩ := h.cells (k * 14 + 0) _ (flat_at bs k hk 0 _ rfl)
  refine ⟨_, e, hg, AtP.of_cells fun j v hv => ?_⟩
  obtain ⟨g', e', _, hc⟩ := h.cells (k * 14 + j) v (flat_at bs k hk j v hv)
  rw [e] at e'
  injection e' with e'
  rw [add_add, e']
  exact hc

end

/-- What is appended: m boxes of a slice, nil or not. -/
def SrcB (w : World) (A : Option Addr) (m c : Nat) (ys : List Bx) : Prop :=
  ys.length = m ∧ (A = none → c = 0) ∧ ∀ j u, (ys.flatMap cellsOfB)[j]? = some u → ∃ ad : Addr, A = some ad ∧ w.cell? (ad.add j) = some u

/-- What the model knows of a type of boxes. -/
def BoxInfo (T TS : TypeId) : Prop :=
  Try.prog.underlying TS = some (.slice T) ∧ ∃ z : Value, z.cells.size = 14 ∧ (Try.prog.info? T).map (fun i => (i.zero, i.size, i.bytes)) = some (some z, 14, 112)

/-- What an append leaves. -/
def AppendedB (T : TypeId) (w : World) (B : Nat) (A : Option Addr) (n : Nat) (xs ys : List Bx) (m : Nat) (A' : Option Addr) (c' : Nat) (w' : World) : Prop :=
  MineB T w' B A' (n + m) c' (xs ++ ys) ∧ w.grownBy w' (blk A) ∧ (blk A' = blk A ∨ blk A' = some w.heap.size)

theorem run_append_boxes {T TS : TypeId} (hT : BoxInfo T TS) (ty : TypeId) (w : World) (B : Nat) (A : Option Addr) (n c : Nat) (xs : List Bx) (hown : MineB T w B A n c xs) (A2 : Option Addr) (m c2 : Nat) (ys : List Bx) (hs : SrcB w A2 m c2 ys)
    (hlen : n + m ≤ 1000000) (hB : B ≤ w.heap.size) :
    ∃ A' c' w', (Builtin.append_ #[TS, TS] ty #[.slice A n c, .slice A2 m c2]).run Try.prog w = .ok (.slice A' (n + m) c') w' ∧ AppendedB T w B A n xs ys m A' c' w' := by
  obtain ⟨hu, z, hzc, hinfo⟩ := hT
  obtain ⟨i0, hi0, hz0, hz1, hz2⟩ := info_parts hinfo
  obtain ⟨h1, h2, h3⟩ := hs
  cases A2 with
  | none =>
    have hm : m = 0 := by
      rcases Nat.eq_zero_or_pos m with h | h
      · exact h
      · obtain ⟨ad, e, _⟩ := h3 (0 * 14 + 0) _ (flat_at ys 0 (by omega) 0 _ rfl)
        cases e
    subst hm
    have hy : ys = [] := List.eq_nil_of_length_eq_zero h1
    subst hy
    obtain rfl := h2 rfl
    exact ⟨A, c, w, run_append_owned_none (P := Try.prog) w B TS ty T i0 14 hu hi0 _ n _ hown, by simpa [MineB] using hown, World.grownBy.refl w _, .inl rfl⟩
  | some ad =>
    have hcells : ∀ j u, (ys.flatMap cellsOfB)[j]? = some u → w.cell? (ad.add j) = some u := by
      intro j u hu
      obtain ⟨ad', e, hc⟩ := h3 j u hu
      obtain rfl := Option.some.inj e
      exact hc
    obtain ⟨v', w', hrun, g2, g3, _, g5⟩ := run_append_own_at (P := Try.prog) w B TS ty T i0 z 14 112 hu hi0 hz0 hz1 hz2 hzc (by omega) _ n _ hown ad m c2 _ (by rw [flat_len, h1]) hcells
      (flat_cells ys) (by simp only [maxLen]; omega) (by omega) hB
    obtain ⟨A', c', rfl⟩ := mineB_shape g2
    refine ⟨A', c', w', hrun, ?_, ?_, ?_⟩
    · unfold MineB; rw [List.flatMap_append]; exact g2
    · rw [ownBlock_blk] at g3; exact g3
    · rw [ownBlock_blk, ownBlock_blk] at g5; exact g5

theorem wp_append_boxes {T TS : TypeId} (hT : BoxInfo T TS) (w : World) {o : Oper} {a : Act} {K : Act → World → Prop} {Q : Exit → Act → World → Prop} (s x : Operand)
    (ho : o.op = .call { callee := .builtin .append, args := #[s, x], argTypes := #[TS, TS] })
    (B : Nat) (A : Option Addr) (n c : Nat) (xs : List Bx) (hs : a.eval s = .slice A n c) (hown : MineB T w B A n c xs) (A2 : Option Addr) (m c2 : Nat) (ys : List Bx) (hx : a.eval x = .slice A2 m c2) (hsrc : SrcB w A2 m c2 ys)
    (hlen : n + m ≤ 1000000) (hB : B ≤ w.heap.size)
    (h : ∀ A' c' w', AppendedB T w B A n xs ys m A' c' w' → K (a.put o.dst (.slice A' (n + m) c')) w') : o.wp Try.prog a w K Q := by
  obtain ⟨A', c', w', hr, h2⟩ := run_append_boxes hT o.type w B A n c xs hown A2 m c2 ys hsrc hlen hB
  unfold Oper.wp execOp
  simp only [ho, resolve, invoke, builtin, Sem.run_bind, Sem.run_pure, Result.andThen_ok, List.map_toArray, List.map_cons, List.map_nil, hs, hx, hr]
  exact h A' c' w' h2

theorem wpList_append_boxes {T TS : TypeId} (hT : BoxInfo T TS) (w : World) {ops : Array Oper} {rest : List Oper} {o : Oper} {a : Act} {Q : Exit → Act → World → Prop} (hgd : o.guard = none) (s x : Operand)
    (ho : o.op = .call { callee := .builtin .append, args := #[s, x], argTypes := #[TS, TS] })
    (B : Nat) (A : Option Addr) (n c : Nat) (xs : List Bx) (hs : a.eval s = .slice A n c) (hown : MineB T w B A n c xs) (A2 : Option Addr) (m c2 : Nat) (ys : List Bx) (hx : a.eval x = .slice A2 m c2) (hsrc : SrcB w A2 m c2 ys)
    (hlen : n + m ≤ 1000000) (hB : B ≤ w.heap.size)
    (h : ∀ A' c' w', AppendedB T w B A n xs ys m A' c' w' → wpList Try.prog ops Q rest (a.put o.dst (.slice A' (n + m) c')) w') : wpList Try.prog ops Q (o :: rest) a w :=
  wpList_plain hgd fun _ hK => wp_append_boxes hT w s x ho B A n c xs hs hown A2 m c2 ys hx hsrc hlen hB fun A' c' w' h2 => hK _ _ (h A' c' w' h2)

theorem oneB_src (w : World) (b : Bx) (T : TypeId) : SrcB (w.alloc (.cells (cellsOfB b).toArray T)) (some ⟨w.heap.size, 0, none⟩) 1 1 [b] := by
  have hm : MineB T (w.alloc (.cells (cellsOfB b).toArray T)) 0 (some ⟨w.heap.size, 0, none⟩) 1 1 [b] := by
    have := World.ownsRow_lit (e := T) (size := 14) (base := 0) w (cellsOfB b).toArray 1 (Nat.zero_le _) (by unfold maxLen; omega) rfl
    simpa [MineB] using this
  refine ⟨rfl, fun e => (by cases e), fun j u hu => ?_⟩
  obtain ⟨g, e, _, hc⟩ := hm.cells j u hu
  exact ⟨_, e, hc⟩

theorem noneB_mine (T : TypeId) (w : World) (B : Nat) : MineB T w B none 0 0 [] := World.ownsRow_nil w B T 14

theorem emptyB_mine (T : TypeId) (w : World) (B : Nat) (hB : B ≤ w.heap.size) : MineB T (w.alloc (.cells #[] T)) B (some ⟨w.heap.size, 0, none⟩) 0 0 [] :=
  World.ownsRow_lit w #[] 0 hB (by unfold maxLen; omega) rfl

theorem AppendedB.below {T : TypeId} {w W : World} {B C : Nat} {A : Option Addr} {n c : Nat} {xs ys : List Bx} {m : Nat} {A' : Option Addr} {c' : Nat} {w' : World}
    (h : AppendedB T w B A n xs ys m A' c' w') (hown : MineB T w B A n c xs) (hw : Below C W w) (hC : C ≤ B) (hB : C ≤ w.heap.size) : Below C W w' :=
  hw.grown h.2.1 hB (fun k hk => by have := (hown.lt k hk).1; omega)

end Go.Proofs.Ytfomhdhiibcdfaa.Script

/-! Trees, by the depths of boxes in a list: where each one stands, where it ends, what stands in it, and whose context it belongs to. No program is in it. -/
namespace Go.Proofs.Ytfomhdhiibcdfaa.Tree
open Go.Proofs.Ytfomhdhiibcdfaa.Record Go.Proofs.Ytfomhdhiibcdfaa.Script

/-- The last place below k that lies one less deep than x; -1: there is none. -/
def parD (d : Nat → Int) (x : Int) : Nat → Int
  | 0 => -1
  | k + 1 => if d k = x - 1 then (k : Int) else parD d x k

def par (d : Nat → Int) (i : Nat) : Int := parD d (d i) i

/-- From k on, how far all lies deeper than x. -/
def endD (d : Nat → Int) (x : Int) : Nat → Nat → Nat
  | 0, k => k
  | f + 1, k => if x < d k then endD d x f (k + 1) else k

def en (d : Nat → Int) (n i : Nat) : Nat := endD d (d i) (n - (i + 1)) (i + 1)

/-- The places below m that stand in i, if m is no farther than i's end. -/
def kidsTo (d : Nat → Int) (i m : Nat) : List Nat := (List.range m).filter fun c => decide (i < c) && decide (d c = d i + 1)

def kids (d : Nat → Int) (n i : Nat) : List Nat := kidsTo d i (en d n i)

theorem parD_neg (d : Nat → Int) (x : Int) : ∀ k, -1 ≤ parD d x k ∧ parD d x k < k
  | 0 => by simp [parD]
  | k + 1 => by
    have h := parD_neg d x k
    unfold parD
    split <;> omega

theorem par_bounds (d : Nat → Int) (i : Nat) : -1 ≤ par d i ∧ par d i < i := parD_neg d (d i) i

theorem parD_some (d : Nat → Int) (x : Int) : ∀ k (j : Nat), parD d x k = j → j < k ∧ d j = x - 1 ∧ ∀ m, j < m → m < k → d m ≠ x - 1
  | 0, j, h => by simp [parD] at h
  | k + 1, j, h => by
    unfold parD at h
    split at h
    · rename_i e
      have : k = j := by omega
      subst this
      exact ⟨by omega, e, fun m h1 h2 => by omega⟩
    · rename_i e
      obtain ⟨h1, h2, h3⟩ := parD_some d x k j h
      refine ⟨by omega, h2, fun m a b => ?_⟩
      by_cases hm : m = k
      · subst hm; exact e
      · exact h3 m a (by omega)

theorem parD_none (d : Nat → Int) (x : Int) : ∀ k, parD d x k = -1 → ∀ m, m < k → d m ≠ x - 1
  | 0, _, m, hm => by omega
  | k + 1, h, m, hm => by
    unfold parD at h
    split at h
    · omega
    · rename_i e
      by_cases hk : m = k
      · subst hk; exact e
      · exact parD_none d x k h m (by omega)

theorem parD_here (d : Nat → Int) (x : Int) (j k : Nat) (hj : j < k) (h : d j = x - 1) (hm : ∀ m, j < m → m < k → d m ≠ x - 1) : parD d x k = j := by
  induction k with
  | zero => omega
  | succ k ih =>
    unfold parD
    by_cases e : j = k
    · subst e; rw [if_pos h]
    · rw [if_neg (hm k (by omega) (by omega))]
      exact ih (by omega) (fun m a b => hm m a (by omega))

/-- Boxes that begin at 0, and go down by one at a time. -/
structure Shape (d : Nat → Int) (n : Nat) : Prop where
  pos : 0 < n
  zero : d 0 = 0
  step : ∀ k, 0 < k → k < n → 1 ≤ d k ∧ d k ≤ d (k - 1) + 1

theorem Shape.front {d : Nat → Int} {n m : Nat} (h : Shape d n) (h0 : 0 < m) (hm : m ≤ n) : Shape d m :=
  ⟨h0, h.zero, fun k a b => h.step k a (by omega)⟩

theorem Shape.nonneg {d : Nat → Int} {n : Nat} (h : Shape d n) (k : Nat) (hk : k < n) : 0 ≤ d k := by
  rcases Nat.eq_zero_or_pos k with e | e
  · subst e; rw [h.zero]; omega
  · have := h.step k e hk; omega

/-- Where none of the places from j on below i lies just one less deep, all lie as deep as i. -/
theorem Shape.deep {d : Nat → Int} {n : Nat} (h : Shape d n) (i j : Nat) (hi : i < n) (hm : ∀ m, j ≤ m → m < i → d m ≠ d i - 1) : ∀ f m, m + f + 1 = i → j ≤ m → d i ≤ d m := by
  intro f
  induction f with
  | zero =>
    intro m e hj
    have h1 := h.step i (by omega) hi
    have h2 := hm m hj (by omega)
    have e2 : i - 1 = m := by omega
    rw [e2] at h1
    omega
  | succ f ih =>
    intro m e hj
    have h1 := h.step (m + 1) (by omega) (by omega)
    have h2 := hm m hj (by omega)
    have h3 := ih (m + 1) (by omega) (by omega)
    simp only [Nat.add_sub_cancel] at h1
    omega

theorem Shape.deep' {d : Nat → Int} {n : Nat} (h : Shape d n) (i j : Nat) (hi : i < n) (hm : ∀ m, j ≤ m → m < i → d m ≠ d i - 1) (m : Nat) (h1 : j ≤ m) (h2 : m < i) : d i ≤ d m :=
  h.deep i j hi hm (i - m - 1) m (by omega) h1

theorem par_zero (d : Nat → Int) : par d 0 = -1 := rfl

theorem Shape.parent {d : Nat → Int} {n : Nat} (h : Shape d n) (i : Nat) (h0 : 0 < i) (hi : i < n) : ∃ p : Nat, par d i = p ∧ p < i ∧ d p = d i - 1 ∧ ∀ m, p < m → m < i → d i ≤ d m := by
  have hb := par_bounds d i
  by_cases e : par d i = -1
  · have h1 := parD_none d (d i) i e
    have h2 := h.deep' i 0 hi (fun m _ hm => h1 m hm) 0 (by omega) h0
    have h3 := h.step i h0 hi
    rw [h.zero] at h2
    omega
  · obtain ⟨p, hp⟩ : ∃ p : Nat, par d i = p := ⟨(par d i).toNat, by omega⟩
    obtain ⟨h1, h2, h3⟩ := parD_some d (d i) i p hp
    exact ⟨p, hp, h1, h2, fun m a b => h.deep' i (p + 1) hi (fun m a b => h3 m (by omega) b) m (by omega) b⟩

theorem endD_spec (d : Nat → Int) (x : Int) : ∀ f k, k ≤ endD d x f k ∧ endD d x f k ≤ k + f ∧ (∀ m, k ≤ m → m < endD d x f k → x < d m) ∧ (endD d x f k = k + f ∨ d (endD d x f k) ≤ x)
  | 0, k => by simp [endD]; intro m a b; omega
  | f + 1, k => by
    unfold endD
    split
    · rename_i h
      obtain ⟨h1, h2, h3, h4⟩ := endD_spec d x f (k + 1)
      refine ⟨by omega, by omega, fun m a b => ?_, ?_⟩
      · by_cases e : m = k
        · subst e; exact h
        · exact h3 m (by omega) b
      · rcases h4 with h4 | h4
        · exact .inl (by omega)
        · exact .inr h4
    · exact ⟨by omega, by omega, fun m a b => by omega, .inr (by omega)⟩

theorem en_spec (d : Nat → Int) (n i : Nat) (hi : i < n) : i < en d n i ∧ en d n i ≤ n ∧ (∀ m, i < m → m < en d n i → d i < d m) ∧ (en d n i = n ∨ d (en d n i) ≤ d i) := by
  obtain ⟨h1, h2, h3, h4⟩ := endD_spec d (d i) (n - (i + 1)) (i + 1)
  unfold en
  refine ⟨by omega, by omega, fun m a b => h3 m (by omega) b, ?_⟩
  rcases h4 with h4 | h4
  · exact .inl (by omega)
  · exact .inr h4

theorem en_here (d : Nat → Int) (n i e : Nat) (h1 : i < e) (h2 : e ≤ n) (h3 : ∀ m, i < m → m < e → d i < d m) (h4 : e = n ∨ d e ≤ d i) : en d n i = e := by
  obtain ⟨g1, g2, g3, g4⟩ := en_spec d n i (by omega)
  rcases Nat.lt_trichotomy (en d n i) e with h | h | h
  · have := h3 _ g1 h
    rcases g4 with g4 | g4 <;> omega
  · exact h
  · rcases h4 with h4 | h4
    · omega
    · have := g3 e h1 h; omega

theorem mem_kidsTo (d : Nat → Int) (i m c : Nat) : c ∈ kidsTo d i m ↔ c < m ∧ i < c ∧ d c = d i + 1 := by
  simp [kidsTo]

theorem kidsTo_next (d : Nat → Int) (i m : Nat) : kidsTo d i (m + 1) = kidsTo d i m ++ (if i < m ∧ d m = d i + 1 then [m] else []) := by
  unfold kidsTo
  rw [List.range_succ, List.filter_append]
  congr 1
  by_cases h : i < m ∧ d m = d i + 1
  · rw [if_pos h]; simp [h.1, h.2]
  · rw [if_neg h]
    simp only [List.filter_cons, List.filter_nil]
    rw [if_neg]
    simp only [Bool.and_eq_true, decide_eq_true_eq]
    exact h

theorem kidsTo_start (d : Nat → Int) (i : Nat) : kidsTo d i (i + 1) = [] := by
  unfold kidsTo
  rw [List.filter_eq_nil_iff]
  intro c hc
  simp at hc
  simp; omega

theorem mem_kids (d : Nat → Int) (n i c : Nat) : c ∈ kids d n i ↔ c < en d n i ∧ i < c ∧ d c = d i + 1 := mem_kidsTo d i _ c

/-- A box stands in another one just if that is its parent. -/
theorem Shape.kid_iff {d : Nat → Int} {n : Nat} (h : Shape d n) (i c : Nat) (hi : i < n) (hc : c < n) : c ∈ kids d n i ↔ par d c = i := by
  rw [mem_kids]
  obtain ⟨e1, e2, e3, e4⟩ := en_spec d n i hi
  constructor
  · rintro ⟨h1, h2, h3⟩
    exact parD_here d (d c) i c h2 (by omega) (fun m a b => by have := e3 m a (by omega); omega)
  · intro hp
    obtain ⟨h1, h2, h3⟩ := parD_some d (d c) c i hp
    refine ⟨?_, h1, by omega⟩
    obtain ⟨p, q1, q2, q3, q4⟩ := h.parent c (by omega) hc
    have : p = i := by rw [hp] at q1; omega
    subst this
    rcases Nat.lt_or_ge c (en d n p) with g | g
    · exact g
    · rcases e4 with e4 | e4
      · omega
      · by_cases hx : en d n p = c
        · rw [hx] at e4; omega
        · have := q4 (en d n p) e1 (by omega); omega

theorem kids_sorted (d : Nat → Int) (i m : Nat) : (kidsTo d i m).Pairwise (· < ·) := List.Pairwise.filter _ List.pairwise_lt_range

/-- What stands in a box ends no later than that. -/
theorem en_nest (d : Nat → Int) (n i c : Nat) (hi : i < n) (h1 : i < c) (h2 : c < en d n i) : en d n c ≤ en d n i := by
  obtain ⟨e1, e2, e3, e4⟩ := en_spec d n i hi
  obtain ⟨g1, g2, g3, g4⟩ := en_spec d n c (by omega)
  rcases Nat.lt_or_ge (en d n i) (en d n c) with h | h
  · have := e3 c h1 h2
    rcases e4 with e4 | e4
    · omega
    · have := g3 (en d n i) h2 h; omega
  · exact h

/-- The next one whose context is its own, from p on towards the first box. -/
def ctxN (d : Nat → Int) (o : Nat → Bool) (p : Nat) : Nat :=
  if _h : p = 0 then 0 else if o p then p else ctxN d o (par d p).toNat
termination_by p
decreasing_by have := par_bounds d p; omega

def ctx (d : Nat → Int) (o : Nat → Bool) (i : Nat) : Nat := ctxN d o (par d i).toNat

theorem ctxN_zero (d : Nat → Int) (o : Nat → Bool) : ctxN d o 0 = 0 := by rw [ctxN]; simp

theorem ctxN_open (d : Nat → Int) (o : Nat → Bool) (p : Nat) (h : o p = true) : ctxN d o p = p := by
  rw [ctxN]
  by_cases hp : p = 0
  · simp [hp]
  · simp [hp, h]

theorem ctxN_next (d : Nat → Int) (o : Nat → Bool) (p : Nat) (h : o p = false) : ctxN d o p = ctxN d o (par d p).toNat := by
  by_cases hp : p = 0
  · subst hp; rw [par_zero]; rfl
  · rw [ctxN]; simp [hp, h]

theorem ctxN_le (d : Nat → Int) (o : Nat → Bool) (p : Nat) : ctxN d o p ≤ p := by
  induction p using Nat.strongRecOn with
  | _ p ih =>
    by_cases hp : p = 0
    · subst hp; rw [ctxN_zero]; omega
    · by_cases h : o p = true
      · rw [ctxN_open d o p h]; omega
      · have hb := par_bounds d p
        rw [ctxN_next d o p (by simpa using h)]
        have := ih (par d p).toNat (by omega)
        omega

theorem ctx_lt (d : Nat → Int) (o : Nat → Bool) (i : Nat) (hi : 0 < i) : ctx d o i < i := by
  have := ctxN_le d o (par d i).toNat
  have := par_bounds d i
  unfold ctx; omega

theorem ctx_zero (d : Nat → Int) (o : Nat → Bool) : ctx d o 0 = 0 := by
  unfold ctx; rw [par_zero]; exact ctxN_zero d o

/-- A box ends no later than the one whose context it belongs to. -/
theorem Shape.ctxN_en {d : Nat → Int} {n : Nat} (h : Shape d n) (o : Nat → Bool) (p : Nat) (hp : p < n) : en d n p ≤ en d n (ctxN d o p) := by
  induction p using Nat.strongRecOn with
  | _ p ih =>
    by_cases h0 : p = 0
    · subst h0; rw [ctxN_zero]; exact Nat.le_refl _
    · by_cases ho : o p = true
      · rw [ctxN_open d o p ho]; exact Nat.le_refl _
      · obtain ⟨q, q1, q2, q3, q4⟩ := h.parent p (by omega) hp
        rw [ctxN_next d o p (by simpa using ho), q1]
        have hk := (h.kid_iff q p (by omega) hp).2 q1
        rw [mem_kids] at hk
        have h1 := en_nest d n q p (by omega) hk.2.1 hk.1
        have h2 := ih q q2 (by omega)
        simp only [Int.toNat_natCast]
        omega

theorem Shape.ctx_en {d : Nat → Int} {n : Nat} (h : Shape d n) (o : Nat → Bool) (i : Nat) (hi : i < n) : en d n i ≤ en d n (ctx d o i) := by
  by_cases h0 : i = 0
  · subst h0; rw [ctx_zero]; exact Nat.le_refl _
  · obtain ⟨q, q1, q2, q3, q4⟩ := h.parent i (by omega) hi
    have hk := (h.kid_iff q i (by omega) hi).2 q1
    rw [mem_kids] at hk
    have h1 := en_nest d n q i (by omega) hk.2.1 hk.1
    have h2 := h.ctxN_en o q (by omega)
    unfold ctx
    rw [q1]
    simp only [Int.toNat_natCast]
    omega

end Go.Proofs.Ytfomhdhiibcdfaa.Tree

/-! The contracts of the law's own conversion of lists, and of the document's Encode. -/
namespace Go.Proofs.Ytfomhdhiibcdfaa.Script
open Go.RowKit Go.Sort Go.Proofs.Ytfomhdhiibcdfaa.Record

theorem infoApi : BoxInfo 61 62 := ⟨Try.underlying62, .agg #[.int .i64 0, .int .i64 0, .int .i64 0, .int .i64 0, .int .i64 0, .int .i64 0, .int .i64 0, .int .i64 0, .int .i64 0, .int .i64 0, .int .i64 0, .int .i64 0, .int .i64 0, .int .i64 0], rfl, by kernel_rfl⟩
theorem infoRef : BoxInfo 41 31 := ⟨Try.underlying31, .agg #[.int .i64 0, .int .i64 0, .int .i64 0, .int .i64 0, .int .i64 0, .int .i64 0, .int .i64 0, .int .i64 0, .int .i64 0, .int .i64 0, .int .i64 0, .int .i64 0, .int .i64 0, .int .i64 0], rfl, by kernel_rfl⟩

theorem takeB_next (bs : List Bx) (k : Nat) (h : k < bs.length) : bs.take (k + 1) = bs.take k ++ [bs.getD k noB] := by
  rw [List.take_succ_eq_append_getElem h]; simp [List.getD, h]

set_option maxHeartbeats 1000000 in
theorem ofs_any (A : Option Addr) (n c : Nat) (bs : List Bx) (w : World) (hn : n = bs.length) (hlen : n ≤ 100000) (hx : Boxes w w.heap.size A bs) :
    Calls Try.prog 37 #[.slice A n c] w fun e w' => (∃ A' c', e = .returned (.slice A' n c') ∧ MineB 61 w' w.heap.size A' n c' bs) ∧ Below w.heap.size w w' := by
  have HX := Lib.hid hx
  have HN := Lib.hid hn
  clear hx hn
  go_enter Try.func37, Try.ntmps37
  go_wp2_with fail
  go_loopw [3, 8] (fun s i wr => ∃ k : Nat, ∃ A' : Option Addr, ∃ c' : Nat, k ≤ n ∧ i = .int .i64 k ∧ s = .slice A' k c' ∧ Hid (MineB 61 wr w.heap.size A' k c' (bs.take k) ∧ Below w.heap.size w wr)) (fun _ i _ => n - (intOf i).toNat)
  case atStart => exact ⟨0, none, 0, Nat.zero_le _, rfl, rfl, Lib.hid ⟨noneB_mine _ _ _, Below.refl _ _⟩⟩
  case round wr =>
    obtain ⟨k, A', c', hk, rfl, rfl, H⟩ := hrel
    by_cases hlt : k < n
    · obtain ⟨ad, hA, _, hcx⟩ := (HX.out.below H.out.2) k (by rw [← HN.out]; exact hlt)
      subst hA
      have HT := Lib.hid (takeB_next bs k (by rw [← HN.out]; exact hlt))
      generalize bs.getD k noB = y at hcx HT
      obtain ⟨c0, c1, c2, c3, c4, c5, c6, c7, c8, c9, c10, c11, c12, c13⟩ := hcx
      have hsz := H.out.2.size
      go_wp2_with fail
      have hm1 := H.out.1.alloc (.cells (cellsOfB y).toArray 41)
      refine (of_any y _).mono ?_; rintro e w2 ⟨rfl, b2⟩
      have hm2 := hm1.below b2
      have hb2 := thru (H.out.2.alloc hsz (.cells (cellsOfB y).toArray 41)) b2
      have hsz2 := hb2.size
      have HM2 := Lib.hid hm2
      have HB2 := Lib.hid hb2
      clear hm1 b2 hm2 hb2 c0 c1 c2 c3 c4 c5 c6 c7 c8 c9 c10 c11 c12 c13
      go_wp2_with (first
        | (at_builtin; refine wpList_append_boxes infoApi _ rfl (.tmp 12) (.tmp 15) rfl w.heap.size A' k c' (bs.take k) rfl (HM2.out.alloc _) (some ⟨w2.heap.size, 0, none⟩) 1 1 [y] rfl (oneB_src w2 y 61) (by omega) (by simp; omega) ?_; intro A1 c1 W2 h1))
      have hb3 := h1.below (HM2.out.alloc _) (HB2.out.alloc hsz2 _) (Nat.le_refl _) (by simp; omega)
      go_roundw
      case rel => exact ⟨k + 1, A1, c1, by omega, by go_num, rfl, Lib.hid ⟨by rw [HT.out]; exact h1.1, hb3⟩⟩
      case measure => simp [intOf]; omega
    · obtain rfl : k = n := by omega
      have ht : bs.take k = bs := List.take_of_length_le (by rw [← HN.out]; omega)
      have hm := H.out.1
      rw [ht] at hm
      have HM := Lib.hid hm
      clear hm ht hlt hk
      go_wp2_with fail
      go_ret
      exact ⟨⟨_, _, rfl, HM.out⟩, H.out.2⟩

end Go.Proofs.Ytfomhdhiibcdfaa.Script

/-! The contracts of the document's Parent, End and Open. -/
namespace Go.Proofs.Ytfomhdhiibcdfaa.Tree
open Go.RowKit Go.Sort Go.Proofs.Ytfomhdhiibcdfaa.Record Go.Proofs.Ytfomhdhiibcdfaa.Script

/-- How deep the boxes of a list lie. -/
def dOf (bs : List Bx) (k : Nat) : Int := (bs.getD k noB).d

theorem Boxes.depth {w : World} {B : Nat} {A : Option Addr} {bs : List Bx} (h : Boxes w B A bs) (k : Nat) (hk : k < bs.length) : ∃ ad : Addr, A = some ad ∧ ad.block < B ∧ w.cell? (ad.add (k * 14)) = some (.int .i64 (dOf bs k)) := by
  obtain ⟨ad, e, hb, hc⟩ := h k hk
  exact ⟨ad, e, hb, hc.1⟩

set_option maxRecDepth 100000 in
set_option maxHeartbeats 1000000 in
theorem refpar_any (A : Option Addr) (n c : Nat) (bs : List Bx) (i : Nat) (w : World) (hn : n = bs.length) (hlen : n ≤ 9223372036854775807) (hi : i < n) (hx : Boxes w w.heap.size A bs) (hd : ∀ k, k ≤ i → 0 ≤ dOf bs k ∧ dOf bs k ≤ 256) :
    Calls Try.prog 36 #[.slice A n c, .int .i64 i] w fun e w' => e = .returned (.int .i64 (par (dOf bs) i)) ∧ Below w.heap.size w w' := by
  obtain ⟨ad, rfl, hab, ci⟩ := Boxes.depth hx i (by omega)
  obtain ⟨x, hxd⟩ : ∃ x, dOf bs i = x := ⟨_, rfl⟩
  have hx01 := hd i (Nat.le_refl _)
  obtain ⟨p, hp⟩ : ∃ p, par (dOf bs) i = p := ⟨_, rfl⟩
  unfold par at hp
  rw [hxd] at ci hp hx01
  rw [show par (dOf bs) i = p by unfold par; rw [hxd]; exact hp]
  have HX := Lib.hid hx
  have HN := Lib.hid hn
  have HD := Lib.hid hd
  have HI := Lib.hid hi
  have HP := Lib.hid hp
  have HAB := Lib.hid hab
  clear hx hn hd hp hab
  go_enter Try.func36, Try.ntmps36
  go_wp2_with fail
  go_loopw [5] (fun s wr => ∃ j : Nat, j ≤ i ∧ s = .int .i64 ((j : Int) - 1) ∧ Hid (parD (dOf bs) x j = p ∧ Below w.heap.size w wr)) (fun s _ => (intOf s + 1).toNat)
  case atStart => exact ⟨i, Nat.le_refl _, rfl, Lib.hid ⟨HP.out, Below.refl _ _⟩⟩
  case round =>
    obtain ⟨j, hj, hs, H⟩ := hrel
    rcases Nat.eq_zero_or_pos j with h0 | h0
    · subst h0
      subst hs
      have hp1 : p = -1 := H.out.1.symm
      subst hp1
      go_wp2_with fail
      go_ret
      exact ⟨rfl, H.out.2⟩
    · obtain ⟨k, rfl⟩ : ∃ k, j = k + 1 := ⟨j - 1, by omega⟩
      have e : ((k + 1 : Nat) : Int) - 1 = (k : Int) := by omega
      rw [e] at hs
      subst hs
      obtain ⟨_, h1, _, ck⟩ := Boxes.depth HX.out k (by have := HN.out; omega)
      injection h1 with h1
      subst h1
      have hk01 := HD.out k (by omega)
      obtain ⟨y, hy⟩ : ∃ y, dOf bs k = y := ⟨_, rfl⟩
      rw [hy] at ck hk01
      have hw := H.out.1
      rw [parD, hy] at hw
      have HW := Lib.hid hw
      clear hw hy
      have hci := (H.out.2.cell (p := ad.add (i * 14)) (by rw [block_of_add]; exact HAB.out)).trans ci
      have hck := (H.out.2.cell (p := ad.add (k * 14)) (by rw [block_of_add]; exact HAB.out)).trans ck
      have kx := fun d os => cell_regrown hci (d := d) (os := os)
      have ky := fun d os => cell_regrown hck (d := d) (os := os)
      clear hci hck
      have hwx : IntKind.i64.wrap (x - 1) = x - 1 := IntWalk.i64_in _ (by omega)
      have hin : i < n := HI.out
      have hkn : k < n := by omega
      by_cases hyx : y = x - 1
      · have hq : (y == x - 1) = true := by simp [hyx]
        have hpk : p = k := by have := HW.out; rw [if_pos hyx] at this; exact this.symm
        subst hpk
        go_wp2_with fail
        refine wp_region_quiet_below (by kernel_rfl) (by kernel_rfl) ?_
        repeat (quiet_step (fail))
        refine wpQuiet_nil ?_
        intro _ hw'
        obtain ⟨⟨dq, os⟩, hw''⟩ := hw'
        subst hw''
        clear kx ky
        have q := below_regrown wr dq os
        generalize grow (redrawn wr dq) os = w4 at q ⊢
        have HQ := Lib.hid (thru H.out.2 q)
        clear q
        go_wp2_with fail
        go_ret
        exact ⟨rfl, HQ.out⟩
      · have hq : (y == x - 1) = false := by simp [hyx]
        have hpk : parD (dOf bs) x k = p := by have := HW.out; rw [if_neg hyx] at this; exact this
        go_wp2_with fail
        refine wp_region_quiet_below (by kernel_rfl) (by kernel_rfl) ?_
        repeat (quiet_step (fail))
        refine wpQuiet_nil ?_
        intro _ hw'
        obtain ⟨⟨dq, os⟩, hw''⟩ := hw'
        subst hw''
        clear kx ky
        have q := below_regrown wr dq os
        generalize grow (redrawn wr dq) os = w4 at q ⊢
        have HQ := Lib.hid ((⟨hpk, thru H.out.2 q⟩ : parD (dOf bs) x k = p ∧ Below w.heap.size w w4))
        clear q hpk
        go_wp2_with fail
        go_roundw
        case rel => exact ⟨k, by omega, by go_num, HQ⟩
        case measure => simp [intOf]

end Go.Proofs.Ytfomhdhiibcdfaa.Tree

/-! The contracts of the document's Context, Children and Same. -/
namespace Go.Proofs.Ytfomhdhiibcdfaa.Tree
open Go.RowKit Go.Sort Go.Proofs.Ytfomhdhiibcdfaa.Record Go.Proofs.Ytfomhdhiibcdfaa.Script

/-- Which boxes of a list have a context of their own. -/
def oOf (bs : List Bx) (k : Nat) : Bool := openB (bs.getD k noB).k

end Go.Proofs.Ytfomhdhiibcdfaa.Tree

/-! The contracts of the closures that Check's rules hold. -/
namespace Go.Proofs.Ytfomhdhiibcdfaa.Record
open Go.RowKit Go.Sort

set_option maxHeartbeats 400000 in
theorem r1_is (g : Nat) (b : Bx) (w : World) (ha : At w g b) (v : Bool) (hv : beyB b.k 1 5 = v) :
    Calls Try.prog 66 #[.pointer (some ⟨g, 0, none⟩)] w fun e w' => e = .returned (.bool v) ∧ Below w.heap.size w w' := by
  obtain ⟨c0, c1, c2, c3, c4, c5, -⟩ := ha
  have HV := Lib.hid hv
  clear hv
  go_enter Try.func66, Try.ntmps66
  go_wp2_with fail
  refine (beyond_is _ _ _ _ HV.out _).mono ?_; rintro e w' ⟨rfl, rfl⟩
  go_wp2_with fail
  go_ret
  exact ⟨rfl, Below.refl _ _⟩

set_option maxHeartbeats 400000 in
theorem r8_is (g : Nat) (b : Bx) (w : World) (ha : At w g b) (v : Bool) (hv : beyB b.d 0 256 = v) :
    Calls Try.prog 79 #[.pointer (some ⟨g, 0, none⟩)] w fun e w' => e = .returned (.bool v) ∧ Below w.heap.size w w' := by
  obtain ⟨c0, c1, c2, c3, c4, c5, -⟩ := ha
  have HV := Lib.hid hv
  clear hv
  go_enter Try.func79, Try.ntmps79
  go_wp2_with fail
  refine (beyond_is _ _ _ _ HV.out _).mono ?_; rintro e w' ⟨rfl, rfl⟩
  go_wp2_with fail
  go_ret
  exact ⟨rfl, Below.refl _ _⟩

set_option maxHeartbeats 400000 in
theorem r3_is (g : Nat) (b : Bx) (w : World) (ha : At w g b) (v : Bool) (hv : sideB b.k b.s = v) :
    Calls Try.prog 70 #[.pointer (some ⟨g, 0, none⟩)] w fun e w' => e = .returned (.bool (!v)) ∧ Below w.heap.size w w' := by
  obtain ⟨c0, c1, c2, c3, c4, c5, -⟩ := ha
  have HV := Lib.hid hv
  clear hv
  go_enter Try.func70, Try.ntmps70
  go_wp2_with fail
  refine (side_is _ _ _ HV.out _).mono ?_; rintro e w' ⟨rfl, rfl⟩
  go_wp2_with fail
  go_ret
  exact ⟨rfl, Below.refl _ _⟩

set_option maxHeartbeats 400000 in
theorem r4_is (g a : Nat) (b : Bx) (w : World) (ha : At w g b) (u : Bool) (hb : w.cell? ⟨a, 0, none⟩ = some (.bool u)) (v : Bool) (hv : beyB b.c 0 3 = v) :
    Calls Try.prog 72 #[.pointer (some ⟨g, 0, none⟩), .pointer (some ⟨a, 0, none⟩)] w fun e w' => e = .returned (.bool (v || (u && !(b.c == 0)))) ∧ Below w.heap.size w w' := by
  obtain ⟨c0, c1, c2, c3, c4, c5, -⟩ := ha
  have HV := Lib.hid hv
  clear hv
  cases v <;> cases u
  all_goals
    go_enter Try.func72, Try.ntmps72
    go_wp2_with fail
    refine (beyond_is _ _ _ _ HV.out _).mono ?_; rintro e w' ⟨rfl, rfl⟩
    go_wp2_with fail
    all_goals (go_ret; exact ⟨by simp [bne], Below.refl _ _⟩)

set_option maxHeartbeats 400000 in
theorem r5_is (g : Nat) (b : Bx) (w : World) (ha : At w g b) (x y : Int) (hx : leastW b.k = x) (hy : leastH b.k = y) (v : Bool) (hv : (decide (b.w < x) || decide (b.h < y)) = v) :
    Calls Try.prog 73 #[.pointer (some ⟨g, 0, none⟩)] w fun e w' => e = .returned (.bool v) ∧ Below w.heap.size w w' := by
  obtain ⟨c0, c1, c2, c3, c4, c5, -⟩ := ha
  have HX := Lib.hid hx
  have HY := Lib.hid hy
  have HV := Lib.hid hv
  clear hx hy hv
  obtain ⟨z, hz⟩ : ∃ z : Bool, decide (b.w < x) = z := ⟨_, rfl⟩
  have HZ := Lib.hid hz
  replace c0 := fun d os => cell_regrown c0 (d := d) (os := os)
  replace c1 := fun d os => cell_regrown c1 (d := d) (os := os)
  replace c4 := fun d os => cell_regrown c4 (d := d) (os := os)
  replace c5 := fun d os => cell_regrown c5 (d := d) (os := os)
  clear c2 c3
  cases z
  all_goals
    go_enter Try.func73, Try.ntmps73
    go_wp2_with fail
    refine wp_region_quiet_below (by kernel_rfl) (by kernel_rfl) ?_
    repeat (quiet_step (first
      | (go_at_call 74; exact Calls.regrown_of (calls_same_below (leastW_is _ _ HX.out _)))
      | (go_at_call 75; exact Calls.regrown_of (calls_same_below (leastH_is _ _ HY.out _)))))
    refine wpQuiet_nil ?_
    intro _ hw'
    obtain ⟨⟨dq4, os4⟩, hw''⟩ := hw'
    subst hw''
    go_wp2_with fail
    go_ret
    exact ⟨ret_bool (by rw [← HV.out, HZ.out]; simp), below_regrown _ _ _⟩

end Go.Proofs.Ytfomhdhiibcdfaa.Record

/-! The contracts of the closures that look at lists of a box's numbers. -/
namespace Go.Proofs.Ytfomhdhiibcdfaa.Record
open Go.RowKit Go.Sort

theorem nums2 (w : World) (x y : Int) (T : TypeId) : Nums (w.alloc (.cells #[.int .i64 x, .int .i64 y] T)) (w.heap.size + 1) (some ⟨w.heap.size, 0, none⟩) [x, y] := fun k hk => by
  simp at hk
  refine ⟨_, rfl, by simp, ?_⟩
  obtain rfl | rfl : k = 0 ∨ k = 1 := by omega
  all_goals simp [go_sem, Addr.add]

set_option maxHeartbeats 1000000 in
theorem r2_is (g : Nat) (b : Bx) (w : World) (ha : At w g b) (x y z : Bool) (hx : [b.w, b.h].any bigB = x) (hy : [b.m0, b.m1, b.m2, b.m3].any bigB = y) (hz : [b.e0, b.e1, b.e2, b.e3].any bigB = z) :
    Calls Try.prog 68 #[.pointer (some ⟨g, 0, none⟩)] w fun e w' => e = .returned (.bool (x || y || z)) ∧ Below w.heap.size w w' := by
  have hm := (ha.margins.below (ba1 w (.cells #[.int .i64 b.w, .int .i64 b.h] 3)))
  have he := (ha.edges.below (ba1 w (.cells #[.int .i64 b.w, .int .i64 b.h] 3)))
  obtain ⟨-, -, -, -, c4, c5, -⟩ := ha
  have HM := Lib.hid hm
  have HE := Lib.hid he
  have HX := Lib.hid hx
  have HY := Lib.hid hy
  have HZ := Lib.hid hz
  clear hx hy hz hm he
  cases x
  · cases y
    · go_enter Try.func68, Try.ntmps68
      go_wp2_with fail
      refine (toobig_is _ 2 2 [b.w, b.h] _ rfl (by omega) _ (nums2 _ _ _ _) _ HX.out).mono ?_; rintro e w' ⟨rfl, rfl⟩
      go_wp2_with fail
      refine (toobig_is _ 4 4 [b.m0, b.m1, b.m2, b.m3] _ rfl (by omega) _ HM.out _ HY.out).mono ?_; rintro e w' ⟨rfl, rfl⟩
      go_wp2_with fail
      refine (toobig_is _ 4 4 [b.e0, b.e1, b.e2, b.e3] _ rfl (by omega) _ HE.out _ HZ.out).mono ?_; rintro e w' ⟨rfl, rfl⟩
      go_wp2_with fail
      go_ret
      exact ⟨rfl, ba1 _ _⟩
    · go_enter Try.func68, Try.ntmps68
      go_wp2_with fail
      refine (toobig_is _ 2 2 [b.w, b.h] _ rfl (by omega) _ (nums2 _ _ _ _) _ HX.out).mono ?_; rintro e w' ⟨rfl, rfl⟩
      go_wp2_with fail
      refine (toobig_is _ 4 4 [b.m0, b.m1, b.m2, b.m3] _ rfl (by omega) _ HM.out _ HY.out).mono ?_; rintro e w' ⟨rfl, rfl⟩
      go_wp2_with fail
      go_ret
      exact ⟨rfl, ba1 _ _⟩
  · go_enter Try.func68, Try.ntmps68
    go_wp2_with fail
    refine (toobig_is _ 2 2 [b.w, b.h] _ rfl (by omega) _ (nums2 _ _ _ _) _ HX.out).mono ?_; rintro e w' ⟨rfl, rfl⟩
    go_wp2_with fail
    go_ret
    exact ⟨rfl, ba1 _ _⟩

theorem eq22 (a b c d x y z u : Int) (w : World) : (Op.equalIn 10000 39 (.agg #[.int .i64 a, .int .i64 b, .int .i64 c, .int .i64 d]) (.agg #[.int .i64 x, .int .i64 y, .int .i64 z, .int .i64 u])).run Try.prog w = .ok (a == x && b == y && c == z && d == u) w := by
  have u3 := Try.underlying3
  have a3 := Try.isAgg3
  have z3 := Try.sizeOf3
  rw [show (10000 : Nat) = 9999 + 1 from rfl, Op.equalIn]
  simp only [Sem.run_bind, run_underlying Try.underlying39, Result.andThen_ok]
  simp only [Std.Legacy.Range.forIn_eq_forIn_range', Std.Legacy.Range.size, Nat.sub_zero, Nat.add_sub_cancel, Nat.div_one, List.range'_succ, List.range'_zero, List.forIn_cons, List.forIn_nil]
  go_simp
  by_cases h1 : a = x <;> by_cases h2 : b = y <;> by_cases h3 : c = z <;> by_cases h4 : d = u <;> simp [h1, h2, h3, h4]

set_option maxHeartbeats 400000 in
theorem r6_is (g a : Nat) (b : Bx) (w : World) (ha : At w g b) (u : Bool) (hb : w.cell? ⟨a, 0, none⟩ = some (.bool u)) :
    Calls Try.prog 76 #[.pointer (some ⟨a, 0, none⟩), .pointer (some ⟨g, 0, none⟩)] w fun e w' => e = .returned (.bool (u && !(b.m0 == 0 && b.m1 == 0 && b.m2 == 0 && b.m3 == 0))) ∧ Below w.heap.size w w' := by
  obtain ⟨-, -, -, -, -, -, c6, c7, c8, c9, -⟩ := ha
  have E := eq22
  cases u
  all_goals
    go_enter Try.func76, Try.ntmps76
    go_wp2_with fail
    all_goals (go_ret; refine ⟨?_, Below.refl _ _⟩; first | rfl | exact ret_bool (by simp))

set_option maxHeartbeats 400000 in
theorem r7_is (g a : Nat) (b : Bx) (w : World) (ha : At w g b) (u : Bool) (hb : w.cell? ⟨a, 0, none⟩ = some (.bool u)) (v : Bool) (hv : decide (minOf [b.e0, b.e1, b.e2, b.e3] < 0) = v) :
    Calls Try.prog 77 #[.pointer (some ⟨g, 0, none⟩), .pointer (some ⟨a, 0, none⟩)] w fun e w' => e = .returned (.bool (v || (u && !(b.e0 == 0 && b.e1 == 0 && b.e2 == 0 && b.e3 == 0)))) ∧ Below w.heap.size w w' := by
  have HE := Lib.hid ha.edges
  obtain ⟨-, -, -, -, -, -, -, -, -, -, c6, c7, c8, c9⟩ := ha
  obtain ⟨n, hn⟩ : ∃ n, n = minOf [b.e0, b.e1, b.e2, b.e3] := ⟨_, rfl⟩
  rw [← hn] at hv
  have HN := Lib.hid hn
  have HV := Lib.hid hv
  clear hn
  have E := eq22
  cases v <;> cases u
  all_goals
    go_enter Try.func77, Try.ntmps77
    go_wp2_with fail
    refine (min_any _ 4 4 [b.e0, b.e1, b.e2, b.e3] _ rfl (by omega) (by omega) _ HE.out).mono ?_; rw [← HN.out]; rintro e w' ⟨rfl, rfl⟩
    go_wp2_with fail
    all_goals (go_ret; refine ⟨?_, Below.refl _ _⟩; first | rfl | exact ret_bool (by simp))

end Go.Proofs.Ytfomhdhiibcdfaa.Record

/-! The contracts of the rules that a box may break, and of Check. -/
namespace Go.Proofs.Ytfomhdhiibcdfaa.Record
open Go.RowKit Go.Sort

/-- The rules as they lie in a block. -/
def Rl (w : World) (q g a : Nat) : Prop :=
  w.cell? ⟨q, 0, none⟩ = some (.int .i64 4) ∧ w.cell? ⟨q, 1, none⟩ = some (.func (.func 66) #[] #[.pointer (some ⟨g, 0, none⟩)]) ∧
  w.cell? ⟨q, 2, none⟩ = some (.int .i64 10) ∧ w.cell? ⟨q, 3, none⟩ = some (.func (.func 68) #[] #[.pointer (some ⟨g, 0, none⟩)]) ∧
  w.cell? ⟨q, 4, none⟩ = some (.int .i64 5) ∧ w.cell? ⟨q, 5, none⟩ = some (.func (.func 70) #[] #[.pointer (some ⟨g, 0, none⟩)]) ∧
  w.cell? ⟨q, 6, none⟩ = some (.int .i64 6) ∧ w.cell? ⟨q, 7, none⟩ = some (.func (.func 72) #[] #[.pointer (some ⟨g, 0, none⟩), .pointer (some ⟨a, 0, none⟩)]) ∧
  w.cell? ⟨q, 8, none⟩ = some (.int .i64 7) ∧ w.cell? ⟨q, 9, none⟩ = some (.func (.func 73) #[] #[.pointer (some ⟨g, 0, none⟩)]) ∧
  w.cell? ⟨q, 10, none⟩ = some (.int .i64 8) ∧ w.cell? ⟨q, 11, none⟩ = some (.func (.func 76) #[] #[.pointer (some ⟨a, 0, none⟩), .pointer (some ⟨g, 0, none⟩)]) ∧
  w.cell? ⟨q, 12, none⟩ = some (.int .i64 9) ∧ w.cell? ⟨q, 13, none⟩ = some (.func (.func 77) #[] #[.pointer (some ⟨g, 0, none⟩), .pointer (some ⟨a, 0, none⟩)]) ∧
  w.cell? ⟨q, 14, none⟩ = some (.int .i64 11) ∧ w.cell? ⟨q, 15, none⟩ = some (.func (.func 79) #[] #[.pointer (some ⟨g, 0, none⟩)])

theorem Rl.below {w w' : World} {q g a : Nat} (h : Rl w q g a) (k : Below w.heap.size w w') : Rl w' q g a := by
  have hq : q < w.heap.size := block_lt_of_cell h.1
  have e : ∀ o, w'.cell? ⟨q, o, none⟩ = w.cell? ⟨q, o, none⟩ := fun o => k.cell (p := ⟨q, o, none⟩) hq
  unfold Rl at *
  simp only [e]
  exact h

/-- What Check reads after it has asked for the rules. -/
def Ready (w : World) (q g a : Nat) (b : Bx) : Prop := At w g b ∧ w.cell? ⟨a, 0, none⟩ = some (.bool (b.k == 5)) ∧ Rl w q g a

theorem Ready.below {w w' : World} {q g a : Nat} {b : Bx} (h : Ready w q g a b) (k : Below w.heap.size w w') : Ready w' q g a b := by
  obtain ⟨h1, h2, h3⟩ := h
  exact ⟨h1.below h1.lt k, by rw [k.cell (p := ⟨a, 0, none⟩) (block_lt_of_cell h2)]; exact h2, h3.below k⟩

set_option maxHeartbeats 1000000 in
theorem rules_any (b : Bx) (w : World) :
    Calls Try.prog 56 #[b.v] w fun e w' => (∃ q g a, e = .returned (.slice (some ⟨q, 0, none⟩) 8 8) ∧ Ready w' q g a b) ∧ Below w.heap.size w w' := by
  go_enter Try.func56, Try.ntmps56
  go_wp2
  go_ret
  refine ⟨⟨_, w.heap.size, w.heap.size + 1, rfl, ?_, ?_, ?_⟩, ba3 _ _ _ _⟩
  · unfold At; simp [go_sem]
  · simp [go_sem]
  · unfold Rl; simp [go_sem]

end Go.Proofs.Ytfomhdhiibcdfaa.Record

/-! The contract of Check. -/
namespace Go.Proofs.Ytfomhdhiibcdfaa.Record
open Go.RowKit Go.Sort

/-- The first error of those whose rule is broken. -/
def pickN : List (Bool × Int) → Int
  | [] => 0
  | (true, n) :: _ => n
  | (false, _) :: t => pickN t

/-- Which rules a box breaks, with their errors. -/
def brokenOf (b : Bx) : List (Bool × Int) :=
  [(beyB b.k 1 5, 4), ([b.w, b.h].any bigB || [b.m0, b.m1, b.m2, b.m3].any bigB || [b.e0, b.e1, b.e2, b.e3].any bigB, 10), (!sideB b.k b.s, 5), (beyB b.c 0 3 || ((b.k == 5) && !(b.c == 0)), 6),
    (decide (b.w < leastW b.k) || decide (b.h < leastH b.k), 7), ((b.k == 5) && !(b.m0 == 0 && b.m1 == 0 && b.m2 == 0 && b.m3 == 0), 8),
    (decide (minOf [b.e0, b.e1, b.e2, b.e3] < 0) || ((b.k == 5) && !(b.e0 == 0 && b.e1 == 0 && b.e2 == 0 && b.e3 == 0)), 9), (beyB b.d 0 256, 11)]

/-- What the i-th rule answers, as its closure tells it. -/
theorem closure_is (i f : Nat) (cap : Array Value) (s : Int) (q g a : Nat) (b : Bx) (w : World) (h : Ready w q g a b) (v : Bool) (hi : (brokenOf b)[i]? = some (v, s))
    (hc : w.cell? ⟨q, 2 * i + 1, none⟩ = some (.func (.func f) #[] cap)) :
    Calls Try.prog f cap w fun e w' => e = .returned (.bool v) ∧ Below w.heap.size w w' := by
  obtain ⟨h1, h2, h3⟩ := h
  obtain ⟨-, k0, -, k1, -, k2, -, k3, -, k4, -, k5, -, k6, -, k7⟩ := h3
  have hlt : i < 8 := by
    have := List.getElem?_eq_some_iff.1 hi
    obtain ⟨hl, -⟩ := this
    simpa [brokenOf] using hl
  obtain rfl | rfl | rfl | rfl | rfl | rfl | rfl | rfl : i = 0 ∨ i = 1 ∨ i = 2 ∨ i = 3 ∨ i = 4 ∨ i = 5 ∨ i = 6 ∨ i = 7 := by omega
  all_goals
    simp only [brokenOf, List.getElem?_cons_zero, List.getElem?_cons_succ, Option.some.injEq, Prod.mk.injEq] at hi
    obtain ⟨hv, -⟩ := hi
    simp only [Nat.reduceMul, Nat.reduceAdd, k0, k1, k2, k3, k4, k5, k6, k7, Option.some.injEq, Value.func.injEq, Fn.func.injEq, true_and] at hc
    obtain ⟨hf, hcap⟩ := hc
    subst hf hcap hv
  · exact r1_is g b w h1 _ rfl
  · exact r2_is g b w h1 _ _ _ rfl rfl rfl
  · exact r3_is g b w h1 _ rfl
  · exact r4_is g a b w h1 _ h2 _ rfl
  · exact r5_is g b w h1 _ _ rfl rfl _ rfl
  · exact r6_is g a b w h1 _ h2
  · exact r7_is g a b w h1 _ h2 _ rfl
  · exact r8_is g b w h1 _ rfl

end Go.Proofs.Ytfomhdhiibcdfaa.Record
