/- The lists of one who lays items: one more atom, one more that waits, one more line; none at all. -/
import Derived.Test.YtdibdfalahjmbaaPart35
namespace Go.Proofs.Ytdibdfalahjmbaa.Text
open Go.RowKit Go.Sort Go.Proofs.Ytdibdfalahjmbaa.Rect Go.Proofs.Ytdibdfalahjmbaa.More Go.Proofs.Ytdibdfalahjmbaa.Shelf Go.Proofs.Ytdibdfalahjmbaa.Space Go.Proofs.Ytdibdfalahjmbaa.Place Go.Proofs.Ytdibdfalahjmbaa.Line
set_option linter.unusedVariables false
set_option linter.unusedSimpArgs false

theorem mine_zero {α : Type} {E : Enc α} {T : TypeId} {w : World} {B : Nat} {A : Option Addr} {n c : Nat} {xs : List α} (h : MineE E T w B A n c xs) : MineE E T w B A 0 c [] := by
  rcases h.2 with ⟨e, h0⟩ | ⟨g, cap, cur, e, -⟩
  · injection e with e1 e2 e3
    subst e1 e3
    exact noneE_mine _ T w B
  · injection e with e1 e2 e3
    subst e1 e3
    have := mine_trunc h (Nat.zero_le n)
    rw [List.take_zero] at this
    exact this

section
variable {S : World → (Nat → Prop) → Addr → List Fl → Prop} {w w5 : World} {P : Fast} {q : Loose} {its : List It} {s : Ly}

theorem app_but {α : Type} {E : Enc α} {T : TypeId} {B n m c' o : Nat} {A A' : Option Addr} {xs ys : List α} {kb : Nat} {v : Value} (hA : AppendedE E T w B A n xs ys m A' c' w5) {G : Nat → Prop} (h1 : ∀ j, blk A = some j → G j) (h2 : G kb) : But G w (w5.setCell ⟨kb, o, none⟩ v) := by
  have g := hA.2.1
  have kA : But G w w5 := ⟨g.os, g.tape, g.output, g.size, fun j hj hn => g.block j hj (fun e => hn (h1 j e.symm))⟩
  exact kA.trans (but_one w5 kb o v) (fun j _ e => by rw [e]; exact h2)
theorem app_row {α : Type} {E : Enc α} {T : TypeId} {B n m c' o : Nat} {A A' : Option Addr} {xs ys : List α} {kb : Nat} {v : Value} {vs : List Value} (hA : AppendedE E T w B A n xs ys m A' c' w5) (hr : RowAt w kb vs) (hv : 0 < vs.length) (ho : o < vs.length) (hne : blk A ≠ some kb) : RowAt (w5.setCell ⟨kb, o, none⟩ v) kb (vs.set o v) :=
  (hr.kept (hA.2.1.block kb (hr.lt hv) (fun e => hne e.symm))).set o v ho
theorem app_own {α : Type} {E : Enc α} {T : TypeId} {B n m c' o : Nat} {A A' : Option Addr} {xs ys : List α} {kb : Nat} {v : Value} (hA : AppendedE E T w B A n xs ys m A' c' w5) (hkb : kb < w.heap.size) (hne : blk A ≠ some kb) : MineE E T (w5.setCell ⟨kb, o, none⟩ v) B A' (n + m) c' (xs ++ ys) :=
  mineE_but hA.1 (but_one w5 kb o v) (fun j e g => by
    rcases hA.2.2 with x | x
    · rw [x] at e; rw [g] at e; exact hne e
    · rw [x] at e; injection e with e; omega)

theorem Kat.lined (hO : SpaceOk S) (h : Kat S w P q its s) {A' : Option Addr} {c' : Nat} (e : Mk × List Nat) (hA : AppendedE encL 41 w P.B q.A3 s.out.length (s.out.map fun e => lnOf e.1) [lnOf e.1] 1 A' c' w5) :
    Kat S (w5.setCell ⟨P.kb, 8, none⟩ (.slice A' (s.out.length + 1) c')) P { q with A3 := A', c3 := c' } its { s with out := s.out ++ [e] } ∧ Grew P q { q with A3 := A', c3 := c' } w (w5.setCell ⟨P.kb, 8, none⟩ (.slice A' (s.out.length + 1) c')) := by
  have hne : blk q.A3 ≠ some P.kb := fun x => absurd (h.ap 6 2 P.kb x rfl) (by decide)
  have hl : (s.out ++ [e]).length = s.out.length + 1 := by rw [List.length_append]; rfl
  refine h.listed hO (i := 6) (.inr (.inr rfl)) rfl rfl rfl (app_but hA (fun j x => .inl x) (.inr rfl)) (fun j k hj x => ?_) (fun k x => ?_) ?_ (fun _ => ⟨rfl, rfl, rfl⟩) (fun x => absurd x (by decide)) (fun _ => ⟨rfl, rfl, rfl⟩) (fun x => absurd x (by decide)) (fun x => absurd rfl x) (fun _ => ?_)
  · match j, hj, x with
    | 0, _, x => exact x
    | 1, _, x => exact x
    | 2, _, x => exact x
    | 3, _, x => exact x
    | 4, _, x => exact x
    | 5, _, x => exact x
    | 7, _, x => exact x
  · have x' : blk A' = some k := x
    rcases hA.2.2 with y | y
    · left; show blk q.A3 = some k; rw [← y]; exact x'
    · right; rw [y] at x'; injection x' with x'; omega
  · have := app_row (v := .slice A' (s.out.length + 1) c') (o := 8) hA h.kr (by simp) (by simp) hne
    unfold krow
    dsimp only
    rw [hl]
    exact this
  · dsimp only
    rw [hl, List.map_append]
    exact app_own hA h.klt hne

theorem Kat.onrow (hO : SpaceOk S) (h : Kat S w P q its s) {A' : Option Addr} {c' : Nat} (k : Nat) (hA : AppendedE encN 3 w P.B q.A1 s.row.length s.row [k] 1 A' c' w5) :
    Kat S (w5.setCell ⟨P.kb, 5, none⟩ (.slice A' (s.row.length + 1) c')) P { q with A1 := A', c1 := c' } its { s with row := s.row ++ [k] } ∧ Grew P q { q with A1 := A', c1 := c' } w (w5.setCell ⟨P.kb, 5, none⟩ (.slice A' (s.row.length + 1) c')) := by
  have hne : blk q.A1 ≠ some P.kb := fun x => absurd (h.ap 4 2 P.kb x rfl) (by decide)
  have hl : (s.row ++ [k]).length = s.row.length + 1 := by rw [List.length_append]; rfl
  refine h.listed hO (i := 4) (.inl rfl) rfl rfl rfl (app_but hA (fun j x => .inl x) (.inr rfl)) (fun j k hj x => ?_) (fun k x => ?_) ?_ (fun x => absurd rfl x) (fun _ => ?_) (fun _ => ⟨rfl, rfl, rfl⟩) (fun x => absurd x (by decide)) (fun _ => ⟨rfl, rfl, rfl⟩) (fun x => absurd x (by decide))
  · match j, hj, x with
    | 0, _, x => exact x
    | 1, _, x => exact x
    | 2, _, x => exact x
    | 3, _, x => exact x
    | 5, _, x => exact x
    | 6, _, x => exact x
    | 7, _, x => exact x
  · have x' : blk A' = some k := x
    rcases hA.2.2 with y | y
    · left; show blk q.A1 = some k; rw [← y]; exact x'
    · right; rw [y] at x'; injection x' with x'; omega
  · have := app_row (v := .slice A' (s.row.length + 1) c') (o := 5) hA h.kr (by simp) (by simp) hne
    unfold krow
    dsimp only
    rw [hl]
    exact this
  · dsimp only
    rw [hl]
    exact app_own hA h.klt hne

theorem Kat.waited (hO : SpaceOk S) (h : Kat S w P q its s) {A' : Option Addr} {c' : Nat} (k : Nat) (hA : AppendedE encN 3 w P.B q.A2 s.wait.length s.wait [k] 1 A' c' w5) :
    Kat S (w5.setCell ⟨P.kb, 6, none⟩ (.slice A' (s.wait.length + 1) c')) P { q with A2 := A', c2 := c' } its { s with wait := s.wait ++ [k] } ∧ Grew P q { q with A2 := A', c2 := c' } w (w5.setCell ⟨P.kb, 6, none⟩ (.slice A' (s.wait.length + 1) c')) := by
  have hne : blk q.A2 ≠ some P.kb := fun x => absurd (h.ap 5 2 P.kb x rfl) (by decide)
  have hl : (s.wait ++ [k]).length = s.wait.length + 1 := by rw [List.length_append]; rfl
  refine h.listed hO (i := 5) (.inr (.inl rfl)) rfl rfl rfl (app_but hA (fun j x => .inl x) (.inr rfl)) (fun j k hj x => ?_) (fun k x => ?_) ?_ (fun _ => ⟨rfl, rfl, rfl⟩) (fun x => absurd x (by decide)) (fun x => absurd rfl x) (fun _ => ?_) (fun _ => ⟨rfl, rfl, rfl⟩) (fun x => absurd x (by decide))
  · match j, hj, x with
    | 0, _, x => exact x
    | 1, _, x => exact x
    | 2, _, x => exact x
    | 3, _, x => exact x
    | 4, _, x => exact x
    | 6, _, x => exact x
    | 7, _, x => exact x
  · have x' : blk A' = some k := x
    rcases hA.2.2 with y | y
    · left; show blk q.A2 = some k; rw [← y]; exact x'
    · right; rw [y] at x'; injection x' with x'; omega
  · have := app_row (v := .slice A' (s.wait.length + 1) c') (o := 6) hA h.kr (by simp) (by simp) hne
    unfold krow
    dsimp only
    rw [hl]
    exact this
  · dsimp only
    rw [hl]
    exact app_own hA h.klt hne

/-- No atom on the line; none that waits. -/
theorem Kat.norow (hO : SpaceOk S) (h : Kat S w P q its s) : Kat S (w.setCell ⟨P.kb, 5, none⟩ (.slice q.A1 0 q.c1)) P q its { s with row := [] } ∧ Grew P q q w (w.setCell ⟨P.kb, 5, none⟩ (.slice q.A1 0 q.c1)) := by
  have hne : blk q.A1 ≠ some P.kb := fun x => absurd (h.ap 4 2 P.kb x rfl) (by decide)
  refine h.listed hO (i := 4) (.inl rfl) rfl rfl rfl (but_wide (but_one w P.kb 5 _) (fun j e => .inr e)) (fun j k hj x => x) (fun k x => .inl x) ?_ (fun x => absurd rfl x) (fun _ => ?_) (fun _ => ⟨rfl, rfl, rfl⟩) (fun x => absurd x (by decide)) (fun _ => ⟨rfl, rfl, rfl⟩) (fun x => absurd x (by decide))
  · exact h.kr.set 5 (.slice q.A1 0 q.c1) (by simp)
  · exact mineE_but (mine_zero h.ro) (but_one w P.kb 5 _) (fun j e g => hne (by rw [← g]; exact e))
theorem Kat.nowait (hO : SpaceOk S) (h : Kat S w P q its s) : Kat S (w.setCell ⟨P.kb, 6, none⟩ (.slice q.A2 0 q.c2)) P q its { s with wait := [] } ∧ Grew P q q w (w.setCell ⟨P.kb, 6, none⟩ (.slice q.A2 0 q.c2)) := by
  have hne : blk q.A2 ≠ some P.kb := fun x => absurd (h.ap 5 2 P.kb x rfl) (by decide)
  refine h.listed hO (i := 5) (.inr (.inl rfl)) rfl rfl rfl (but_wide (but_one w P.kb 6 _) (fun j e => .inr e)) (fun j k hj x => x) (fun k x => .inl x) ?_ (fun _ => ⟨rfl, rfl, rfl⟩) (fun x => absurd x (by decide)) (fun x => absurd rfl x) (fun _ => ?_) (fun _ => ⟨rfl, rfl, rfl⟩) (fun x => absurd x (by decide))
  · exact h.kr.set 6 (.slice q.A2 0 q.c2) (by simp)
  · exact mineE_but (mine_zero h.wa) (but_one w P.kb 6 _) (fun j e g => hne (by rw [← g]; exact e))

/-- The store that empties the row of atoms, as a stage. -/
theorem stK_norow (hO : SpaceOk S) {W : World} {ss : Nat → Ly} {st : Nat} {G : Nat → Prop} (h : stK S W P q its ss st w G) (hn : ss (st + 1) = { ss st with row := [] }) :
    stK S W P q its ss (st + 1) (w.setCell ⟨P.kb, 5, .none⟩ (.slice q.A1 0 q.c1)) G ∧ w.heap.size ≤ (w.setCell ⟨P.kb, 5, .none⟩ (.slice q.A1 0 q.c1)).heap.size ∧ ∀ k, G k → (w.setCell ⟨P.kb, 5, .none⟩ (.slice q.A1 0 q.c1)).heap[k]? = w.heap[k]? := by
  obtain ⟨g0, ⟨F', g1, g2, g3⟩, g4⟩ := h
  obtain ⟨a1, a2⟩ := g1.norow hO
  have hs := a2.but.size
  refine ⟨⟨Nat.le_trans g0 hs, ⟨F', by rw [hn]; exact a1, g2.trans a2, g3⟩, fun k hk => ⟨(g4 k hk).1, Nat.lt_of_lt_of_le (g4 k hk).2 hs⟩⟩, hs, fun k hk => ?_⟩
  exact heap_setCell_other _ ⟨P.kb, 5, .none⟩ k _ (fun e => g3 k hk 2 e)

end

end Go.Proofs.Ytdibdfalahjmbaa.Text
