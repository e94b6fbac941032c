/- Texts of this proof that follow each other, in one file. -/
import Derived.Test.YtdibdfalahjmbaaPart13
import Derived.Test.YtdibdfalahjmbaaPart12
import Derived.Test.YtdibdfalahjmbaaPart6
import Derived.ArgAppend
import Derived.Test.YtdibdfalahjmbaaPart14
import Derived.Test.YtdibdfalahjmbaaPart44
/-! The law's example. -/
namespace Go.Proofs.Ytdibdfalahjmbaa.Space
open Go.RowKit Go.Sort Go.Proofs.Ytdibdfalahjmbaa.Rect Go.Proofs.Ytdibdfalahjmbaa.More Go.Proofs.Ytdibdfalahjmbaa.Shelf
set_option linter.unusedVariables false

/-- The example's float. -/
def exP : Fl := ⟨1, 0, 2, 3, 5⟩

section
variable {S : World → (Nat → Prop) → Addr → List Fl → Prop}

theorem SpaceOk.thru (hO : SpaceOk S) {w w' : World} {F : Nat → Prop} {p : Addr} {fs : List Fl} (h : S w F p fs) (k : Below w.heap.size w w') : S w' F p fs :=
  hO.keep _ _ _ (fun _ => False) _ _ h (But.of_below k) (fun _ _ h => h)

end

end Go.Proofs.Ytdibdfalahjmbaa.Space

/-! The law of what a space tells. -/
namespace Go.Proofs.Ytdibdfalahjmbaa.Space
open Go.RowKit Go.Sort Go.Proofs.Ytdibdfalahjmbaa.Rect Go.Proofs.Ytdibdfalahjmbaa.More Go.Proofs.Ytdibdfalahjmbaa.Shelf
set_option linter.unusedVariables false

theorem eqRect_same (a b c d : Int) (w : World) : (Op.equalIn 10000 39 (.agg #[.int .i64 a, .int .i64 b, .int .i64 c, .int .i64 d]) (.agg #[.int .i64 a, .int .i64 b, .int .i64 c, .int .i64 d])).run Try.prog w = .ok true w := by
  have u3 := Try.underlying3
  have a3 := Try.isAgg3
  have z3 := Try.sizeOf3
  have hS : Try.prog.underlying 39 = some (.struct (Try.prog.fieldsOf 39)) := by kernel_rfl
  rw [show (10000 : Nat) = 9999 + 1 from rfl, run_equalIn_agg w 9999 39 _ _ hS (by kernel_rfl)]
  simp only [Program.fieldsOf, Try.underlying39]
  go_simp

section
variable {S : World → (Nat → Prop) → Addr → List Fl → Prop}

end

end Go.Proofs.Ytdibdfalahjmbaa.Space

/-! The law of what a space leaves free. -/
namespace Go.Proofs.Ytdibdfalahjmbaa.Space
open Go.RowKit Go.Sort Go.Proofs.Ytdibdfalahjmbaa.Rect Go.Proofs.Ytdibdfalahjmbaa.More Go.Proofs.Ytdibdfalahjmbaa.Shelf
set_option linter.unusedVariables false

theorem eqSpan_same (a b : Int) (w : World) : (Op.equalIn 10000 33 (.agg #[.int .i64 a, .int .i64 b]) (.agg #[.int .i64 a, .int .i64 b])).run Try.prog w = .ok true w := by
  have u3 := Try.underlying3
  have a3 := Try.isAgg3
  have z3 := Try.sizeOf3
  have hS : Try.prog.underlying 33 = some (.struct (Try.prog.fieldsOf 33)) := by kernel_rfl
  rw [show (10000 : Nat) = 9999 + 1 from rfl, run_equalIn_agg w 9999 33 _ _ hS (by kernel_rfl)]
  simp only [Program.fieldsOf, Try.underlying33]
  go_simp

section
variable {S : World → (Nat → Prop) → Addr → List Fl → Prop}

end

end Go.Proofs.Ytdibdfalahjmbaa.Space

/-! One more float at the end of a list that came in: a list of one's own, made in whichever order. -/
namespace Go.Proofs.Ytdibdfalahjmbaa.Space
open Go.RowKit Go.Sort Go.Proofs.Ytdibdfalahjmbaa.Rect Go.Proofs.Ytdibdfalahjmbaa.More Go.Proofs.Ytdibdfalahjmbaa.Shelf
set_option linter.unusedVariables false

/-- An append to a list that has no room: all that lay there stays. -/
theorem run_append_fresh {α : Type} {E : Enc α} {T TS : TypeId} {bytes : Nat} (hT : InfoE E T TS bytes) (ty : TypeId) (w : World) (B b : Nat) (hown : MineE E T w B (some ⟨b, 0, none⟩) 0 0 []) (A2 : Option Addr) (m c2 : Nat) (ys : List α) (hs : SrcE E w A2 m c2 ys)
    (hlen : m ≤ maxLen) (hby : m * bytes ≤ 140737488355328) (hB : B ≤ w.heap.size) :
    ∃ A' c' w', (Builtin.append_ #[TS, TS] ty #[.slice (some ⟨b, 0, none⟩) 0 0, .slice A2 m c2]).run Try.prog w = .ok (.slice A' m c') w' ∧ MineE E T w' B A' m c' ys ∧ Below w.heap.size w w' := by
  rcases Nat.eq_zero_or_pos m with hm | hm
  · subst hm
    have hy : ys = [] := List.eq_nil_of_length_eq_zero hs.1
    subst hy
    obtain ⟨hu, z, hzc, hinfo⟩ := hT
    obtain ⟨i0, hi0, hz0, hz1, hz2⟩ := info_parts hinfo
    cases A2 with
    | none =>
      obtain rfl := hs.2.1 rfl
      exact ⟨_, 0, w, run_append_owned_none (P := Try.prog) w B TS ty T i0 E.size hu hi0 _ 0 _ hown, hown, Below.refl _ _⟩
    | some ad =>
      have hr := run_append_room_cells (P := Try.prog) w TS ty T i0 hu hi0 b 0 0 0 ad 0 c2 [] (by simp) (by simp) (by simp) (Nat.le_refl _) (by simp) (by simp)
      exact ⟨_, 0, w, by simpa [World.setCells] using hr, hown, Below.refl _ _⟩
  · obtain ⟨hu, z, hzc, hinfo⟩ := hT
    obtain ⟨i0, hi0, hz0, hz1, hz2⟩ := info_parts hinfo
    obtain ⟨h1, h2, h3⟩ := hs
    have hne : ∃ ad, A2 = some ad := by
      cases ys with
      | nil => simp at h1; omega
      | cons y ys =>
        have hp := E.pos
        have hl := E.len y
        obtain ⟨ad, e, _⟩ := h3 0 ((E.cells y)[0]'(by omega)) (by rw [List.flatMap_cons, List.getElem?_append_left (by omega)]; simp)
        exact ⟨ad, e⟩
    obtain ⟨ad, rfl⟩ := hne
    obtain ⟨v', w', hrun, g2, g3⟩ := run_append_arg_grows (P := Try.prog) w TS ty T i0 z E.size bytes hu hi0 hz0 hz1 hz2 hzc E.pos ⟨b, 0, none⟩ 0 0 [] (by simp) (by simp) ad m c2 (ys.flatMap E.cells) (by rw [E.flat_len, h1]) (fun j u hu => by
      obtain ⟨ad', e, hc⟩ := h3 j u hu
      obtain rfl := Option.some.inj e
      exact hc) (by omega) (by simpa using hlen) (by rw [Nat.zero_add]; exact hby)
    obtain ⟨A', c', rfl⟩ := shapeE g2
    rw [Nat.zero_add, List.nil_append] at g2
    rw [Nat.zero_add] at hrun
    exact ⟨A', c', w', hrun, MineE.mono (E := E) g2 hB, ⟨g3.os, g3.tape, g3.output, g3.size, fun k hk => g3.block k hk (by simp)⟩⟩

/-- An append to a list of one's own, as long as the form lets lists be. -/
theorem run_append_wideE {α : Type} {E : Enc α} {T TS : TypeId} {bytes : Nat} (hT : InfoE E T TS bytes) (ty : TypeId) (w : World) (B : Nat) (A : Option Addr) (n c : Nat) (xs : List α) (hown : MineE E T w B A n c xs) (ad : Addr) (m c2 : Nat) (ys : List α) (hs : SrcE E w (some ad) m c2 ys)
    (hlen : n + m ≤ maxLen) (hbn : (n + m) * bytes ≤ 140737488355328) (hB : B ≤ w.heap.size) :
    ∃ A' c' w', (Builtin.append_ #[TS, TS] ty #[.slice A n c, .slice (some ad) m c2]).run Try.prog w = .ok (.slice A' (n + m) c') w' ∧ AppendedE E T w B A n xs ys m A' c' w' := by
  obtain ⟨hu, z, hzc, hinfo⟩ := hT
  obtain ⟨i0, hi0, hz0, hz1, hz2⟩ := info_parts hinfo
  obtain ⟨h1, h2, h3⟩ := hs
  have hcells : ∀ j u, (ys.flatMap E.cells)[j]? = some u → w.cell? (ad.add j) = some u := by
    intro j u hu
    obtain ⟨ad', e, hc⟩ := h3 j u hu
    obtain rfl := Option.some.inj e
    exact hc
  obtain ⟨v', w', hrun, g2, g3, _, g5⟩ := run_append_own_at (P := Try.prog) w B TS ty T i0 z E.size bytes hu hi0 hz0 hz1 hz2 hzc E.pos _ n _ hown ad m c2 _ (by rw [E.flat_len, h1]) hcells
    (E.flat_cells ys) hlen hbn hB
  obtain ⟨A', c', rfl⟩ := shapeE g2
  refine ⟨A', c', w', hrun, ?_, ?_, ?_⟩
  · unfold MineE; rw [List.flatMap_append]; exact g2
  · rw [ownBlock_blk] at g3; exact g3
  · rw [ownBlock_blk, ownBlock_blk] at g5; exact g5

theorem wpList_append_wideE {α : Type} {E : Enc α} {T TS : TypeId} {bytes : Nat} (hT : InfoE E T TS bytes) (w : World) {ops : Array Oper} {rest : List Oper} {o : Oper} {a : Act} {Q : Exit → Act → World → Prop} (hgd : o.guard = none) (s x : Operand)
    (ho : o.op = .call { callee := .builtin .append, args := #[s, x], argTypes := #[TS, TS] })
    (B : Nat) (A : Option Addr) (n c : Nat) (xs : List α) (hs : a.eval s = .slice A n c) (hown : MineE E T w B A n c xs) (ad : Addr) (m c2 : Nat) (ys : List α) (hx : a.eval x = .slice (some ad) m c2) (hsrc : SrcE E w (some ad) m c2 ys)
    (hlen : n + m ≤ maxLen) (hbn : (n + m) * bytes ≤ 140737488355328) (hB : B ≤ w.heap.size)
    (h : ∀ A' c' w', AppendedE E T w B A n xs ys m A' c' w' → wpList Try.prog ops Q rest (a.put o.dst (.slice A' (n + m) c')) w') : wpList Try.prog ops Q (o :: rest) a w := by
  refine wpList_plain hgd fun _ hK => ?_
  obtain ⟨A', c', w', hr, h2⟩ := run_append_wideE hT o.type w B A n c xs hown ad m c2 ys hsrc hlen hbn hB
  unfold Oper.wp execOp
  simp only [ho, resolve, invoke, builtin, Sem.run_bind, Sem.run_pure, Result.andThen_ok, List.map_toArray, List.map_cons, List.map_nil, hs, hx, hr]
  exact hK _ _ (h A' c' w' h2)

/-- A list of one's own. -/
def Own (fs : List Fl) (n B : Nat) (w : World) (v : Value) : Prop := ∃ A c, v = .slice A n c ∧ MineE encF 87 w B A n c fs ∧ B ≤ w.heap.size
/-- One without room. -/
def Emp (B : Nat) (w : World) (v : Value) : Prop := ∃ b, v = .slice (some ⟨b, 0, none⟩) 0 0 ∧ MineE encF 87 w B (some ⟨b, 0, none⟩) 0 0 [] ∧ B ≤ w.heap.size

theorem own_keeps (fs : List Fl) (n B : Nat) : Hold.Keeps (Own fs n B) := fun w w' u k ⟨A, c, e, h, hb⟩ => ⟨A, c, e, MineE.below h k, Nat.le_trans hb k.size⟩
theorem emp_keeps (B : Nat) : Hold.Keeps (Emp B) := fun w w' u k ⟨b, e, h, hb⟩ => ⟨b, e, MineE.below h k, Nat.le_trans hb k.size⟩

end Go.Proofs.Ytdibdfalahjmbaa.Space

/-! Lists of items of one's own, as a law makes them. -/
namespace Go.Proofs.Ytdibdfalahjmbaa.Text
open Go.RowKit Go.Sort Go.Proofs.Ytdibdfalahjmbaa.Rect Go.Proofs.Ytdibdfalahjmbaa.More Go.Proofs.Ytdibdfalahjmbaa.Shelf Go.Proofs.Ytdibdfalahjmbaa.Space Go.Proofs.Ytdibdfalahjmbaa.Place Go.Proofs.Ytdibdfalahjmbaa.Line
set_option linter.unusedVariables false
set_option linter.unusedSimpArgs false

theorem infoIR : InfoE encI 46 23 32 := ⟨Try.underlying23, .agg #[.int .i64 0, .int .i64 0, .int .i64 0, .int .i64 0], rfl, by kernel_rfl⟩

theorem items_mine {w : World} {B : Nat} {A : Option Addr} {n c : Nat} {its : List It} (h : MineE encI 46 w B A n c its) : Items w w.heap.size A its := fun k x hk => by
  have hn : 0 < n := by have := MineE.len h; have := (List.getElem?_eq_some_iff.1 hk).1; omega
  obtain ⟨g, rfl, -, hg, -, -⟩ := MineE.form h hn
  refine ⟨_, rfl, hg, atI_of fun j v hv => ?_⟩
  have hj : j < 4 := (List.getElem?_eq_some_iff.1 hv).1
  rw [Addr.add_add, Addr.add_lit, Nat.zero_add]
  exact (MineE.at h k x hk j hj).trans hv

theorem own_item {w : World} {B : Nat} {A : Option Addr} {n c : Nat} {its : List It} (h : MineE encI 46 w B A n c its) {k : Nat} {x : It} (hk : its[k]? = some x) : ∃ g, A = some ⟨g, 0, none⟩ ∧
    w.cell? ⟨g, k * 4, none⟩ = some (.int .i64 x.sd) ∧ w.cell? ⟨g, k * 4 + 1, none⟩ = some (.int .i64 x.cl) ∧ w.cell? ⟨g, k * 4 + 2, none⟩ = some (.int .i64 x.wd) ∧ w.cell? ⟨g, k * 4 + 3, none⟩ = some (.int .i64 x.ht) := by
  have hl := (List.getElem?_eq_some_iff.1 hk).1
  rw [h.len] at hl
  obtain ⟨g, e, -⟩ := h.form (by omega)
  rw [e] at h
  exact ⟨g, e, h.at k x hk 0 (by show 0 < 4; omega), h.at k x hk 1 (by show 1 < 4; omega), h.at k x hk 2 (by show 2 < 4; omega), h.at k x hk 3 (by show 3 < 4; omega)⟩

theorem filter_yes {α : Type} {l : List α} {p : α → Bool} {k : Nat} {x : α} (h : l[k]? = some x) (hp : p x = true) : (l.take (k + 1)).filter p = (l.take k).filter p ++ [x] := by
  rw [List.take_add_one, h, List.filter_append]
  simp [hp]
theorem filter_no {α : Type} {l : List α} {p : α → Bool} {k : Nat} {x : α} (h : l[k]? = some x) (hp : p x = false) : (l.take (k + 1)).filter p = (l.take k).filter p := by
  rw [List.take_add_one, h, List.filter_append]
  simp [hp]

/-- What is read of a slice of items is as long as it; and no longer than the form lets it be. -/
theorem items_data {H : Type} {enc : TypeId × Value → H} {W : World} {A : Option Addr} {n c : Nat} {d : DataW H} {ps : List MemPlace} (h : DataW.Trod enc Try.prog W 0 (fun _ => true) true 23 (.slice A n c) d ps) :
    n = 0 ∨ ∃ elems spare, d = .slice elems spare ∧ elems.length = n := by
  obtain ⟨fuel, hf⟩ := h
  rcases Go.Deep.open_slice Try.underlying23 hf with ⟨hcs, hx⟩ | ⟨a, len', cap', m, n', D, Pl, hcs, _, hl, hm, hz, hx, hcell⟩
  · simp [Value.cells] at hcs
    exact .inl hcs.2.1
  · simp [Value.cells] at hcs
    obtain ⟨rfl, rfl, rfl⟩ := hcs
    injection hx with h1 h2
    exact .inr ⟨_, _, h1, by simp⟩

theorem items_sized {H : Type} {enc : TypeId × Value → H} {W : World} {A : Option Addr} {n c : Nat} {d : DataW H} {ps : List MemPlace} {ts : List TypeId} {ds : List (DataW H)} {j : Nat} (h : DataW.Trod enc Try.prog W 0 (fun _ => true) true 23 (.slice A n c) d ps)
    (hs : (DataW.weightsEach Try.prog ts ds).all (· ≤ reachBytes) = true) (ht : ts[j]? = some 23) (hd : ds[j]? = some d) : n * 32 ≤ 140737488351232 := by
  rcases items_data h with e | ⟨elems, spare, e, hl⟩
  · omega
  · subst e
    have h1 := sized_slice hs ht hd Try.underlying23
    rw [show Try.prog.bytesOf 46 = 32 by kernel_rfl, show reachBytes = 140737488351232 from rfl, hl] at h1
    exact Nat.le_trans (Nat.mul_le_mul_right 32 (Nat.le_add_right n spare.length)) h1

end Go.Proofs.Ytdibdfalahjmbaa.Text
