/- Lists of boxes: that are read, and of one's own, that are appended to. -/
import Derived.Test.YtnmfgcdenngpfaaRecordBox
import Derived.Test.YtnmfgcdenngpfaaRow
namespace Go.Proofs.Ytnmfgcdenngpfaa.Script
open Go.RowKit Go.Sort Go.Proofs.Ytnmfgcdenngpfaa.Record

/-- The cells of a box. -/
def cellsOfB (b : Bx) : List Value :=
  [.int .i64 b.d, .int .i64 b.k, .int .i64 b.s, .int .i64 b.c, .int .i64 b.w, .int .i64 b.h, .int .i64 b.m0, .int .i64 b.m1, .int .i64 b.m2, .int .i64 b.m3, .int .i64 b.e0, .int .i64 b.e1, .int .i64 b.e2, .int .i64 b.e3]

theorem cellsOfB_len (b : Bx) : (cellsOfB b).length = 14 := rfl

def noB : Bx := ⟨0, 0, 0, 0, 0, 0, 0, 0, 0, 0, 0, 0, 0, 0⟩

/-- A box that lies at an address. -/
def AtP (w : World) (p : Addr) (b : Bx) : Prop :=
  w.cell? p = some (.int .i64 b.d) ∧ w.cell? ⟨p.block, p.off + 1, none⟩ = some (.int .i64 b.k) ∧ w.cell? ⟨p.block, p.off + 2, none⟩ = some (.int .i64 b.s) ∧ w.cell? ⟨p.block, p.off + 3, none⟩ = some (.int .i64 b.c) ∧
  w.cell? ⟨p.block, p.off + 4, none⟩ = some (.int .i64 b.w) ∧ w.cell? ⟨p.block, p.off + 5, none⟩ = some (.int .i64 b.h) ∧
  w.cell? ⟨p.block, p.off + 6, none⟩ = some (.int .i64 b.m0) ∧ w.cell? ⟨p.block, p.off + 7, none⟩ = some (.int .i64 b.m1) ∧ w.cell? ⟨p.block, p.off + 8, none⟩ = some (.int .i64 b.m2) ∧ w.cell? ⟨p.block, p.off + 9, none⟩ = some (.int .i64 b.m3) ∧
  w.cell? ⟨p.block, p.off + 10, none⟩ = some (.int .i64 b.e0) ∧ w.cell? ⟨p.block, p.off + 11, none⟩ = some (.int .i64 b.e1) ∧ w.cell? ⟨p.block, p.off + 12, none⟩ = some (.int .i64 b.e2) ∧ w.cell? ⟨p.block, p.off + 13, none⟩ = some (.int .i64 b.e3)

theorem cell_at (w : World) (p : Addr) (j : Nat) (v : Value) (hj : 0 < j) (h : w.cell? (p.add j) = some v) : w.cell? ⟨p.block, p.off + j, none⟩ = some v := by
  unfold Addr.add at h
  rw [if_neg (by omega)] at h
  exact h

theorem AtP.of_cells {w : World} {p : Addr} {b : Bx} (h : ∀ j v, (cellsOfB b)[j]? = some v → w.cell? (p.add j) = some v) : AtP w p b := by
  refine ⟨?_, cell_at _ _ _ _ (by omega) (h 1 _ rfl), cell_at _ _ _ _ (by omega) (h 2 _ rfl), cell_at _ _ _ _ (by omega) (h 3 _ rfl), cell_at _ _ _ _ (by omega) (h 4 _ rfl), cell_at _ _ _ _ (by omega) (h 5 _ rfl), cell_at _ _ _ _ (by omega) (h 6 _ rfl),
    cell_at _ _ _ _ (by omega) (h 7 _ rfl), cell_at _ _ _ _ (by omega) (h 8 _ rfl), cell_at _ _ _ _ (by omega) (h 9 _ rfl), cell_at _ _ _ _ (by omega) (h 10 _ rfl), cell_at _ _ _ _ (by omega) (h 11 _ rfl), cell_at _ _ _ _ (by omega) (h 12 _ rfl), cell_at _ _ _ _ (by omega) (h 13 _ rfl)⟩
  have := h 0 _ rfl
  simpa [Addr.add] using this

theorem AtP.below {w w' : World} {B : Nat} {p : Addr} {b : Bx} (h : AtP w p b) (hp : p.block < B) (k : Below B w w') : AtP w' p b := by
  have e0 : w'.cell? p = w.cell? p := k.cell hp
  have e : ∀ o, w'.cell? ⟨p.block, o, none⟩ = w.cell? ⟨p.block, o, none⟩ := fun o => k.cell (p := ⟨p.block, o, none⟩) hp
  unfold AtP at *
  simp only [e, e0]
  exact h

/-- The boxes of a slice, below block B. -/
def Boxes (w : World) (B : Nat) (A : Option Addr) (bs : List Bx) : Prop :=
  ∀ k, k < bs.length → ∃ ad : Addr, A = some ad ∧ ad.block < B ∧ AtP w (ad.add (k * 14)) (bs.getD k noB)

theorem Boxes.below {w w' : World} {B : Nat} {A : Option Addr} {bs : List Bx} (h : Boxes w B A bs) (k : Below B w w') : Boxes w' B A bs := fun i hi => by
  obtain ⟨ad, e, hb, hc⟩ := h i hi
  exact ⟨ad, e, hb, hc.below (by rw [block_of_add]; exact hb) k⟩

theorem Boxes.more {w : World} {B C : Nat} {A : Option Addr} {bs : List Bx} (h : Boxes w B A bs) (hc : B ≤ C) : Boxes w C A bs := fun i hi => by
  obtain ⟨ad, e, hb, hx⟩ := h i hi
  exact ⟨ad, e, by omega, hx⟩

theorem Boxes.thru {w w' : World} {A : Option Addr} {bs : List Bx} (h : Boxes w w.heap.size A bs) (k : Below w.heap.size w w') : Boxes w' w'.heap.size A bs := (h.below k).more k.size

theorem flat_len (bs : List Bx) : (bs.flatMap cellsOfB).length = bs.length * 14 := by
  induction bs with
  | nil => rfl
  | cons b bs ih => simp only [List.flatMap_cons, List.length_append, cellsOfB_len, ih, List.length_cons]; omega

theorem flat_at (bs : List Bx) : ∀ (k : Nat), k < bs.length → ∀ j v, (cellsOfB (bs.getD k noB))[j]? = some v → (bs.flatMap cellsOfB)[k * 14 + j]? = some v := by
  induction bs with
  | nil => intro k hk; simp at hk
  | cons b bs ih =>
    intro k hk j v h
    have hj : j < 14 := by
      have := (List.getElem?_eq_some_iff.1 h).1
      rwa [cellsOfB_len] at this
    rw [List.flatMap_cons]
    cases k with
    | zero =>
      rw [List.getElem?_append_left (by rw [cellsOfB_len]; omega)]
      simpa using h
    | succ k =>
      rw [List.getElem?_append_right (by rw [cellsOfB_len]; omega), cellsOfB_len, show (k + 1) * 14 + j - 14 = k * 14 + j by omega]
      exact ih k (by simpa using hk) j v (by simpa using h)

theorem flat_cells (bs : List Bx) : ∀ u ∈ bs.flatMap cellsOfB, u.oneCell' = true := by
  intro u hu
  rw [List.mem_flatMap] at hu
  obtain ⟨b, _, h⟩ := hu
  simp only [cellsOfB, List.mem_cons, List.not_mem_nil, or_false] at h
  rcases h with h | h | h | h | h | h | h | h | h | h | h | h | h | h <;> (subst h; rfl)

theorem add_add (p : Addr) (i j : Nat) : (p.add i).add j = p.add (i + j) := by
  unfold Addr.add
  by_cases hi : i = 0 <;> by_cases hj : j = 0 <;> simp [hi, hj] <;> omega

/-- A slice of one's own, of boxes. -/
def MineB (T : TypeId) (w : World) (B : Nat) (A : Option Addr) (n c : Nat) (bs : List Bx) : Prop :=
  w.ownsRow B T 14 (.slice A n c) n (bs.flatMap cellsOfB)

theorem mineB_shape {T : TypeId} {w : World} {B : Nat} {v : Value} {n : Nat} {xs : List Value} (h : w.ownsRow B T 14 v n xs) : ∃ A c, v = .slice A n c := by
  rcases h.2 with ⟨rfl, rfl⟩ | ⟨g, cap, cur, rfl, _⟩
  · exact ⟨none, 0, rfl⟩
  · exact ⟨_, _, rfl⟩

section
variable {T : TypeId} {w w' : World} {B : Nat} {A : Option Addr} {n c : Nat} {bs : List Bx}

theorem MineB.len (h : MineB T w B A n c bs) : bs.length = n := by
  have := h.1; rw [flat_len] at this; omega

theorem MineB.lt (h : MineB T w B A n c bs) : ∀ k, blk A = some k → B ≤ k ∧ k < w.heap.size := by
  intro k hk
  exact World.ownsRow.lt h k (by rw [ownBlock_blk]; exact hk)

theorem MineB.kept {row : Option Nat} (h : MineB T w B A n c bs) (hg : w.grownBy w' row) (hne : ∀ k, blk A = some k → row ≠ some k) : MineB T w' B A n c bs := by
  refine World.ownsRow.kept h hg ?_
  rw [ownBlock_blk]
  cases hb : blk A with
  | none => exact .inl rfl
  | some k => exact .inr fun e => hne k hb e.symm

theorem MineB.below (h : MineB T w B A n c bs) (hb : Below w.heap.size w w') : MineB T w' B A n c bs :=
  h.kept (grown_of_below hb) (fun k _ e => by cases e)

theorem MineB.alloc (h : MineB T w B A n c bs) (o : Obj) : MineB T (w.alloc o) B A n c bs := World.ownsRow.alloc h o

theorem MineB.cells (h : MineB T w B A n c bs) : ∀ j u, (bs.flatMap cellsOfB)[j]? = some u → ∃ g, A = some ⟨g, 0, none⟩ ∧ g < w.heap.size ∧ w.cell? ((⟨g, 0, none⟩ : Addr).add j) = some u := by
  intro j u hu
  have hl := h.len
  have hlt := (List.getElem?_eq_some_iff.1 hu).1
  rw [flat_len] at hlt
  obtain ⟨g, cap, hv, _, hg⟩ := World.ownsRow.form h (by omega)
  have hA : A = some ⟨g, 0, none⟩ := by injection hv
  subst hA
  exact ⟨g, rfl, hg, World.ownsRow.cells h (g := g) rfl j u hu⟩

theorem MineB.boxes (h : MineB T w B A n c bs) : Boxes w w.heap.size A bs := fun k hk => by
  obtain ⟨g, e, hg, _⟩ := h.cells (k * 14 + 0) _ (flat_at bs k hk 0 _ rfl)
  refine ⟨_, e, hg, AtP.of_cells fun j v hv => ?_⟩
  obtain ⟨g', e', _, hc⟩ := h.cells (k * 14 + j) v (flat_at bs k hk j v hv)
  rw [e] at e'
  injection e' with e'
  rw [add_add, e']
  exact hc

end

/-- What is appended: m boxes of a slice, nil or not. -/
def SrcB (w : World) (A : Option Addr) (m c : Nat) (ys : List Bx) : Prop :=
  ys.length = m ∧ (A = none → c = 0) ∧ ∀ j u, (ys.flatMap cellsOfB)[j]? = some u → ∃ ad : Addr, A = some ad ∧ w.cell? (ad.add j) = some u

/-- What the model knows of a type of boxes. -/
def BoxInfo (T TS : TypeId) : Prop :=
  Try.prog.underlying TS = some (.slice T) ∧ ∃ z : Value, z.cells.size = 14 ∧ (Try.prog.info? T).map (fun i => (i.zero, i.size, i.bytes)) = some (some z, 14, 112)

/-- What an append leaves. -/
def AppendedB (T : TypeId) (w : World) (B : Nat) (A : Option Addr) (n : Nat) (xs ys : List Bx) (m : Nat) (A' : Option Addr) (c' : Nat) (w' : World) : Prop :=
  MineB T w' B A' (n + m) c' (xs ++ ys) ∧ w.grownBy w' (blk A) ∧ (blk A' = blk A ∨ blk A' = some w.heap.size)

theorem run_append_boxes {T TS : TypeId} (hT : BoxInfo T TS) (ty : TypeId) (w : World) (B : Nat) (A : Option Addr) (n c : Nat) (xs : List Bx) (hown : MineB T w B A n c xs) (A2 : Option Addr) (m c2 : Nat) (ys : List Bx) (hs : SrcB w A2 m c2 ys)
    (hlen : n + m ≤ 1000000) (hB : B ≤ w.heap.size) :
    ∃ A' c' w', (Builtin.append_ #[TS, TS] ty #[.slice A n c, .slice A2 m c2]).run Try.prog w = .ok (.slice A' (n + m) c') w' ∧ AppendedB T w B A n xs ys m A' c' w' := by
  obtain ⟨hu, z, hzc, hinfo⟩ := hT
  obtain ⟨i0, hi0, hz0, hz1, hz2⟩ := info_parts hinfo
  obtain ⟨h1, h2, h3⟩ := hs
  cases A2 with
  | none =>
    have hm : m = 0 := by
      rcases Nat.eq_zero_or_pos m with h | h
      · exact h
      · obtain ⟨ad, e, _⟩ := h3 (0 * 14 + 0) _ (flat_at ys 0 (by omega) 0 _ rfl)
        cases e
    subst hm
    have hy : ys = [] := List.eq_nil_of_length_eq_zero h1
    subst hy
    obtain rfl := h2 rfl
    exact ⟨A, c, w, run_append_owned_none (P := Try.prog) w B TS ty T i0 14 hu hi0 _ n _ hown, by simpa [MineB] using hown, World.grownBy.refl w _, .inl rfl⟩
  | some ad =>
    have hcells : ∀ j u, (ys.flatMap cellsOfB)[j]? = some u → w.cell? (ad.add j) = some u := by
      intro j u hu
      obtain ⟨ad', e, hc⟩ := h3 j u hu
      obtain rfl := Option.some.inj e
      exact hc
    obtain ⟨v', w', hrun, g2, g3, _, g5⟩ := run_append_own_at (P := Try.prog) w B TS ty T i0 z 14 112 hu hi0 hz0 hz1 hz2 hzc (by omega) _ n _ hown ad m c2 _ (by rw [flat_len, h1]) hcells
      (flat_cells ys) (by simp only [maxLen]; omega) (by omega) hB
    obtain ⟨A', c', rfl⟩ := mineB_shape g2
    refine ⟨A', c', w', hrun, ?_, ?_, ?_⟩
    · unfold MineB; rw [List.flatMap_append]; exact g2
    · rw [ownBlock_blk] at g3; exact g3
    · rw [ownBlock_blk, ownBlock_blk] at g5; exact g5

theorem wp_append_boxes {T TS : TypeId} (hT : BoxInfo T TS) (w : World) {o : Oper} {a : Act} {K : Act → World → Prop} {Q : Exit → Act → World → Prop} (s x : Operand)
    (ho : o.op = .call { callee := .builtin .append, args := #[s, x], argTypes := #[TS, TS] })
    (B : Nat) (A : Option Addr) (n c : Nat) (xs : List Bx) (hs : a.eval s = .slice A n c) (hown : MineB T w B A n c xs) (A2 : Option Addr) (m c2 : Nat) (ys : List Bx) (hx : a.eval x = .slice A2 m c2) (hsrc : SrcB w A2 m c2 ys)
    (hlen : n + m ≤ 1000000) (hB : B ≤ w.heap.size)
    (h : ∀ A' c' w', AppendedB T w B A n xs ys m A' c' w' → K (a.put o.dst (.slice A' (n + m) c')) w') : o.wp Try.prog a w K Q := by
  obtain ⟨A', c', w', hr, h2⟩ := run_append_boxes hT o.type w B A n c xs hown A2 m c2 ys hsrc hlen hB
  unfold Oper.wp execOp
  simp only [ho, resolve, invoke, builtin, Sem.run_bind, Sem.run_pure, Result.andThen_ok, List.map_toArray, List.map_cons, List.map_nil, hs, hx, hr]
  exact h A' c' w' h2

theorem wpList_append_boxes {T TS : TypeId} (hT : BoxInfo T TS) (w : World) {ops : Array Oper} {rest : List Oper} {o : Oper} {a : Act} {Q : Exit → Act → World → Prop} (hgd : o.guard = none) (s x : Operand)
    (ho : o.op = .call { callee := .builtin .append, args := #[s, x], argTypes := #[TS, TS] })
    (B : Nat) (A : Option Addr) (n c : Nat) (xs : List Bx) (hs : a.eval s = .slice A n c) (hown : MineB T w B A n c xs) (A2 : Option Addr) (m c2 : Nat) (ys : List Bx) (hx : a.eval x = .slice A2 m c2) (hsrc : SrcB w A2 m c2 ys)
    (hlen : n + m ≤ 1000000) (hB : B ≤ w.heap.size)
    (h : ∀ A' c' w', AppendedB T w B A n xs ys m A' c' w' → wpList Try.prog ops Q rest (a.put o.dst (.slice A' (n + m) c')) w') : wpList Try.prog ops Q (o :: rest) a w :=
  wpList_plain hgd fun _ hK => wp_append_boxes hT w s x ho B A n c xs hs hown A2 m c2 ys hx hsrc hlen hB fun A' c' w' h2 => hK _ _ (h A' c' w' h2)

theorem oneB_src (w : World) (b : Bx) (T : TypeId) : SrcB (w.alloc (.cells (cellsOfB b).toArray T)) (some ⟨w.heap.size, 0, none⟩) 1 1 [b] := by
  have hm : MineB T (w.alloc (.cells (cellsOfB b).toArray T)) 0 (some ⟨w.heap.size, 0, none⟩) 1 1 [b] := by
    have := World.ownsRow_lit (e := T) (size := 14) (base := 0) w (cellsOfB b).toArray 1 (Nat.zero_le _) (by unfold maxLen; omega) rfl
    simpa [MineB] using this
  refine ⟨rfl, fun e => (by cases e), fun j u hu => ?_⟩
  obtain ⟨g, e, _, hc⟩ := hm.cells j u hu
  exact ⟨_, e, hc⟩

theorem noneB_mine (T : TypeId) (w : World) (B : Nat) : MineB T w B none 0 0 [] := World.ownsRow_nil w B T 14

theorem emptyB_mine (T : TypeId) (w : World) (B : Nat) (hB : B ≤ w.heap.size) : MineB T (w.alloc (.cells #[] T)) B (some ⟨w.heap.size, 0, none⟩) 0 0 [] :=
  World.ownsRow_lit w #[] 0 hB (by unfold maxLen; omega) rfl

theorem AppendedB.below {T : TypeId} {w W : World} {B C : Nat} {A : Option Addr} {n c : Nat} {xs ys : List Bx} {m : Nat} {A' : Option Addr} {c' : Nat} {w' : World}
    (h : AppendedB T w B A n xs ys m A' c' w') (hown : MineB T w B A n c xs) (hw : Below C W w) (hC : C ≤ B) (hB : C ≤ w.heap.size) : Below C W w' :=
  hw.grown h.2.1 hB (fun k hk => by have := (hown.lt k hk).1; omega)

end Go.Proofs.Ytnmfgcdenngpfaa.Script
