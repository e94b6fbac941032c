/- Texts of this proof that follow each other, in one file. -/
import Derived.Test.YtmgokpdeolnidaaPart26
import Derived.ArgAppend
/-! One more float at the end of a list that came in: a list of one's own, made in whichever order. -/
namespace Go.Proofs.Ytmgokpdeolnidaa.Space
open Go.RowKit Go.Sort Go.Proofs.Ytmgokpdeolnidaa.Rect Go.Proofs.Ytmgokpdeolnidaa.More Go.Proofs.Ytmgokpdeolnidaa.Shelf
set_option linter.unusedVariables false

/-- An append to a list that has no room: all that lay there stays. -/
theorem run_append_fresh {α : Type} {E : Enc α} {T TS : TypeId} {bytes : Nat} (hT : InfoE E T TS bytes) (ty : TypeId) (w : World) (B b : Nat) (hown : MineE E T w B (some ⟨b, 0, none⟩) 0 0 []) (A2 : Option Addr) (m c2 : Nat) (ys : List α) (hs : SrcE E w A2 m c2 ys)
    (hlen : m ≤ maxLen) (hby : m * bytes ≤ 140737488355328) (hB : B ≤ w.heap.size) :
    ∃ A' c' w', (Builtin.append_ #[TS, TS] ty #[.slice (some ⟨b, 0, none⟩) 0 0, .slice A2 m c2]).run Try.prog w = .ok (.slice A' m c') w' ∧ MineE E T w' B A' m c' ys ∧ Below w.heap.size w w' := by
  rcases Nat.eq_zero_or_pos m with hm | hm
  · subst hm
    have hy : ys = [] := List.eq_nil_of_length_eq_zero hs.1
    subst hy
    obtain ⟨hu, z, hzc, hinfo⟩ := hT
    obtain ⟨i0, hi0, hz0, hz1, hz2⟩ := info_parts hinfo
    cases A2 with
    | none =>
      obtain rfl := hs.2.1 rfl
      exact ⟨_, 0, w, run_append_owned_none (P := Try.prog) w B TS ty T i0 E.size hu hi0 _ 0 _ hown, hown, Below.refl _ _⟩
    | some ad =>
      have hr := run_append_room_cells (P := Try.prog) w TS ty T i0 hu hi0 b 0 0 0 ad 0 c2 [] (by simp) (by simp) (by simp) (Nat.le_refl _) (by simp) (by simp)
      exact ⟨_, 0, w, by simpa [World.setCells] using hr, hown, Below.refl _ _⟩
  · obtain ⟨hu, z, hzc, hinfo⟩ := hT
    obtain ⟨i0, hi0, hz0, hz1, hz2⟩ := info_parts hinfo
    obtain ⟨h1, h2, h3⟩ := hs
    have hne : ∃ ad, A2 = some ad := by
      cases ys with
      | nil => simp at h1; omega
      | cons y ys =>
        have hp := E.pos
        have hl := E.len y
        obtain ⟨ad, e, _⟩ := h3 0 ((E.cells y)[0]'(by omega)) (by rw [List.flatMap_cons, List.getElem?_append_left (by omega)]; simp)
        exact ⟨ad, e⟩
    obtain ⟨ad, rfl⟩ := hne
    obtain ⟨v', w', hrun, g2, g3⟩ := run_append_arg_grows (P := Try.prog) w TS ty T i0 z E.size bytes hu hi0 hz0 hz1 hz2 hzc E.pos ⟨b, 0, none⟩ 0 0 [] (by simp) (by simp) ad m c2 (ys.flatMap E.cells) (by rw [E.flat_len, h1]) (fun j u hu => by
      obtain ⟨ad', e, hc⟩ := h3 j u hu
      obtain rfl := Option.some.inj e
      exact hc) (by omega) (by simpa using hlen) (by rw [Nat.zero_add]; exact hby)
    obtain ⟨A', c', rfl⟩ := shapeE g2
    rw [Nat.zero_add, List.nil_append] at g2
    rw [Nat.zero_add] at hrun
    exact ⟨A', c', w', hrun, MineE.mono (E := E) g2 hB, ⟨g3.os, g3.tape, g3.output, g3.size, fun k hk => g3.block k hk (by simp)⟩⟩

/-- An append to a list of one's own, as long as the form lets lists be. -/
theorem run_append_wideE {α : Type} {E : Enc α} {T TS : TypeId} {bytes : Nat} (hT : InfoE E T TS bytes) (ty : TypeId) (w : World) (B : Nat) (A : Option Addr) (n c : Nat) (xs : List α) (hown : MineE E T w B A n c xs) (ad : Addr) (m c2 : Nat) (ys : List α) (hs : SrcE E w (some ad) m c2 ys)
    (hlen : n + m ≤ maxLen) (hbn : (n + m) * bytes ≤ 140737488355328) (hB : B ≤ w.heap.size) :
    ∃ A' c' w', (Builtin.append_ #[TS, TS] ty #[.slice A n c, .slice (some ad) m c2]).run Try.prog w = .ok (.slice A' (n + m) c') w' ∧ AppendedE E T w B A n xs ys m A' c' w' := by
  obtain ⟨hu, z, hzc, hinfo⟩ := hT
  obtain ⟨i0, hi0, hz0, hz1, hz2⟩ := info_parts hinfo
  obtain ⟨h1, h2, h3⟩ := hs
  have hcells : ∀ j u, (ys.flatMap E.cells)[j]? = some u → w.cell? (ad.add j) = some u := by
    intro j u hu
    obtain ⟨ad', e, hc⟩ := h3 j u hu
    obtain rfl := Option.some.inj e
    exact hc
  obtain ⟨v', w', hrun, g2, g3, _, g5⟩ := run_append_own_at (P := Try.prog) w B TS ty T i0 z E.size bytes hu hi0 hz0 hz1 hz2 hzc E.pos _ n _ hown ad m c2 _ (by rw [E.flat_len, h1]) hcells
    (E.flat_cells ys) hlen hbn hB
  obtain ⟨A', c', rfl⟩ := shapeE g2
  refine ⟨A', c', w', hrun, ?_, ?_, ?_⟩
  · unfold MineE; rw [List.flatMap_append]; exact g2
  · rw [ownBlock_blk] at g3; exact g3
  · rw [ownBlock_blk, ownBlock_blk] at g5; exact g5

theorem wpList_append_wideE {α : Type} {E : Enc α} {T TS : TypeId} {bytes : Nat} (hT : InfoE E T TS bytes) (w : World) {ops : Array Oper} {rest : List Oper} {o : Oper} {a : Act} {Q : Exit → Act → World → Prop} (hgd : o.guard = none) (s x : Operand)
    (ho : o.op = .call { callee := .builtin .append, args := #[s, x], argTypes := #[TS, TS] })
    (B : Nat) (A : Option Addr) (n c : Nat) (xs : List α) (hs : a.eval s = .slice A n c) (hown : MineE E T w B A n c xs) (ad : Addr) (m c2 : Nat) (ys : List α) (hx : a.eval x = .slice (some ad) m c2) (hsrc : SrcE E w (some ad) m c2 ys)
    (hlen : n + m ≤ maxLen) (hbn : (n + m) * bytes ≤ 140737488355328) (hB : B ≤ w.heap.size)
    (h : ∀ A' c' w', AppendedE E T w B A n xs ys m A' c' w' → wpList Try.prog ops Q rest (a.put o.dst (.slice A' (n + m) c')) w') : wpList Try.prog ops Q (o :: rest) a w := by
  refine wpList_plain hgd fun _ hK => ?_
  obtain ⟨A', c', w', hr, h2⟩ := run_append_wideE hT o.type w B A n c xs hown ad m c2 ys hsrc hlen hbn hB
  unfold Oper.wp execOp
  simp only [ho, resolve, invoke, builtin, Sem.run_bind, Sem.run_pure, Result.andThen_ok, List.map_toArray, List.map_cons, List.map_nil, hs, hx, hr]
  exact hK _ _ (h A' c' w' h2)

/-- A list of one's own. -/
def Own (fs : List Fl) (n B : Nat) (w : World) (v : Value) : Prop := ∃ A c, v = .slice A n c ∧ MineE encF 94 w B A n c fs ∧ B ≤ w.heap.size
/-- One without room. -/
def Emp (B : Nat) (w : World) (v : Value) : Prop := ∃ b, v = .slice (some ⟨b, 0, none⟩) 0 0 ∧ MineE encF 94 w B (some ⟨b, 0, none⟩) 0 0 [] ∧ B ≤ w.heap.size

theorem own_keeps (fs : List Fl) (n B : Nat) : Hold.Keeps (Own fs n B) := fun w w' u k ⟨A, c, e, h, hb⟩ => ⟨A, c, e, MineE.below h k, Nat.le_trans hb k.size⟩
theorem emp_keeps (B : Nat) : Hold.Keeps (Emp B) := fun w w' u k ⟨b, e, h, hb⟩ => ⟨b, e, MineE.below h k, Nat.le_trans hb k.size⟩

end Go.Proofs.Ytmgokpdeolnidaa.Space

/-! The law of one float more. -/
namespace Go.Proofs.Ytmgokpdeolnidaa.Space
open Go.RowKit Go.Sort Go.Proofs.Ytmgokpdeolnidaa.Rect Go.Proofs.Ytmgokpdeolnidaa.More Go.Proofs.Ytmgokpdeolnidaa.Shelf
set_option linter.unusedVariables false
set_option linter.unusedSimpArgs false

theorem gives_append {TS : TypeId} {a : Act} {o : Oper} {w : World} {R : World → Value → Prop} (s x : Operand) (ho : o.op = .call { callee := .builtin .append, args := #[s, x], argTypes := #[TS, TS] }) (v1 v2 : Value) (hs : a.eval s = v1) (hx : a.eval x = v2)
    (h : ∃ v w', (Builtin.append_ #[TS, TS] o.type #[v1, v2]).run Try.prog w = .ok v w' ∧ Below w.heap.size w w' ∧ R w' v) : Hold.gives Try.prog w R ((execOp a.eval o).run Try.prog w) := by
  obtain ⟨v, w', hr, h1, h2⟩ := h
  unfold execOp
  simp only [ho, resolve, invoke, builtin, Sem.run_bind, Sem.run_pure, Result.andThen_ok, List.map_toArray, List.map_cons, List.map_nil, hs, hx, hr]
  exact ⟨h1, h2⟩

theorem in_cleared {fs : List Fl} {c : Int} {f : Fl} : f ∈ cleared fs c ↔ f ∈ fs ∧ clrB c f.s = true := List.mem_filter

theorem oneF (w : World) (B : Nat) (hB : B ≤ w.heap.size) (f : Fl) : MineE encF 94 (w.alloc (.cells #[.int .i64 f.s, .int .i64 f.l, .int .i64 f.t, .int .i64 f.r, .int .i64 f.b] 94)) B (some ⟨w.heap.size, 0, none⟩) 1 1 [f] := by
  have := World.ownsRow_lit (e := 94) (size := 5) (base := B) w #[.int .i64 f.s, .int .i64 f.l, .int .i64 f.t, .int .i64 f.r, .int .i64 f.b] 1 hB (by unfold maxLen; omega) rfl
  simpa [MineE, encF, cellsFl] using this

theorem src_all {w : World} {B : Nat} {A : Option Addr} {fs : List Fl} {n c : Nat} (h : Floats w B A fs) (hn : n = fs.length) (hnil : A = none → c = 0) : SrcE encF w A n c fs := by
  refine ⟨hn.symm, hnil, fun j u hu => ?_⟩
  cases A with
  | none =>
    have hlt := (List.getElem?_eq_some_iff.1 hu).1
    rw [encF.flat_len] at hlt
    have h5 : encF.size = 5 := rfl
    rw [h5] at hlt
    obtain ⟨ad, e, -⟩ := h (j / 5) fs[j / 5] (List.getElem?_eq_getElem (by omega))
    cases e
  | some ad => exact ⟨ad, rfl, floats_cell h j u hu⟩

/-- The two numbers of a block that has been made. -/
theorem pair_at {w : World} {r : Nat} {a b : Value} {T : TypeId} (h : w.heap[r]? = some (.cells #[a, b] T (0, 0))) :
    w.cell? ⟨r, 0, none⟩ = some a ∧ w.cell? ⟨r, 1, none⟩ = some b ∧ w.frozen? ⟨r, 0, none⟩ = false ∧ w.frozen? ⟨r, 1, none⟩ = false :=
  ⟨by rw [cell_of_row w r 0 _ _ _ h]; rfl, by rw [cell_of_row w r 1 _ _ _ h]; rfl, frozen_of_row w r 0 _ _ h, frozen_of_row w r 1 _ _ h⟩

theorem bandL_snoc (fs : List Fl) (f : Fl) (a z : Int) : bandL (fs ++ [f]) a z = if hitF 1 a z f then max (bandL fs a z) f.r else bandL fs a z := by
  unfold bandL
  simp [List.foldl_append]
theorem bandR_snoc (fs : List Fl) (f : Fl) (a z : Int) : bandR (fs ++ [f]) a z = if hitF 2 a z f then min (bandR fs a z) f.l else bandR fs a z := by
  unfold bandR
  simp [List.foldl_append]
theorem band_more (fs : List Fl) (f : Fl) (a z : Int) : ¬ bandL (fs ++ [f]) a z < bandL fs a z ∧ ¬ bandR fs a z < bandR (fs ++ [f]) a z := by
  rw [bandL_snoc, bandR_snoc]
  constructor
  · split <;> omega
  · split <;> omega
theorem band_same (fs : List Fl) (f : Fl) (a z : Int) (h : z ≤ f.t) : bandL (fs ++ [f]) a z = bandL fs a z ∧ bandR (fs ++ [f]) a z = bandR fs a z := by
  have hn : ∀ side, ¬ hitF side a z f = true := fun side hh => by
    obtain ⟨c, s, h1, h2, -⟩ := hitF_iff.1 hh
    omega
  rw [bandL_snoc, bandR_snoc, if_neg (hn 1), if_neg (hn 2)]
  exact ⟨rfl, rfl⟩

section
variable {S : World → (Nat → Prop) → Addr → List Fl → Prop}

end

end Go.Proofs.Ytmgokpdeolnidaa.Space
