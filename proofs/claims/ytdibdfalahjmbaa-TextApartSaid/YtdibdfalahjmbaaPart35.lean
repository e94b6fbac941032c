/- One who lays items, as a region goes on: by stages, one more for each call that turns memory. -/
import Derived.Test.YtdibdfalahjmbaaPart34
namespace Go.Proofs.Ytdibdfalahjmbaa.Text
open Go.RowKit Go.Sort Go.Proofs.Ytdibdfalahjmbaa.Rect Go.Proofs.Ytdibdfalahjmbaa.More Go.Proofs.Ytdibdfalahjmbaa.Shelf Go.Proofs.Ytdibdfalahjmbaa.Space Go.Proofs.Ytdibdfalahjmbaa.Place Go.Proofs.Ytdibdfalahjmbaa.Line
set_option linter.unusedVariables false
set_option linter.unusedSimpArgs false

def stK (S : World → (Nat → Prop) → Addr → List Fl → Prop) (W : World) (P : Fast) (q : Loose) (its : List It) (ss : Nat → Ly) : Nat → World → (Nat → Prop) → Prop := fun st w G =>
  W.heap.size ≤ w.heap.size ∧ (∃ F', Kat S w P { q with F := F' } its (ss st) ∧ Grew P q { q with F := F' } W w ∧ ∀ k, G k → ∀ i, ¬ part P { q with F := F' } i k) ∧ ∀ k, G k → W.heap.size ≤ k ∧ k < w.heap.size

section
variable {S : World → (Nat → Prop) → Addr → List Fl → Prop} {w w' W : World} {P : Fast} {q : Loose} {its : List It} {s : Ly} {ss : Nat → Ly}

theorem Kat.far (hO : SpaceOk S) (h : Kat S w P q its s) {G : Nat → Prop} (k : But G w w') (hG : ∀ i j, part P q i j → ¬ G j) : Kat S w' P q its s :=
  ⟨hO.keep _ _ _ _ _ _ h.sp k (fun j e => hG 0 j e), h.bl.but k (hG 1 _ rfl), h.kr.but (by simp) k (hG 2 _ rfl), mineE_but h.it k (fun j e => hG 7 j e), mineE_but h.ro k (fun j e => hG 4 j e), mineE_but h.wa k (fun j e => hG 5 j e), mineE_but h.bo k (fun j e => hG 3 j (by injection e with e; exact e.symm)), mineE_but h.li k (fun j e => hG 6 j e), h.ap, h.b1, h.b2, Nat.le_trans h.hB k.size⟩

theorem stK_kept (hO : SpaceOk S) : Draw.Kept (stK S W P q its ss) where
  below := fun st w w' G G' ⟨h0, ⟨q', h1, h2, h3⟩, h4⟩ k hG => ⟨Nat.le_trans h0 k.size, ⟨q', h1.below hO k, h2.trans (Grew.of_below k), fun j hj i e => by
      have := h1.low hO i j e
      rcases hG j hj with g | g
      · exact h3 j g i e
      · omega⟩, fun j hj => by
      have := k.size
      rcases hG j hj with g | g
      · have := h4 j g; omega
      · omega⟩
  only := fun st w w' b G ⟨h0, ⟨q', h1, h2, h3⟩, h4⟩ hb ho => by
    have hk : But (fun j => j = b) w w' := ⟨ho.os, ho.tape, ho.output, by rw [ho.size]; exact Nat.le_refl _, fun j _ hn => ho.block j hn⟩
    refine ⟨by rw [ho.size]; exact h0, ⟨q', h1.far hO hk (fun i j e g => h3 b hb i (by rw [← g]; exact e)), ⟨⟨hk.os.trans h2.but.os, hk.tape.trans h2.but.tape, hk.output.trans h2.but.output, by rw [ho.size]; exact h0, fun j hj hn => (ho.block j (fun e => by have := (h4 b hb).1; omega)).trans (h2.but.block j hj hn)⟩, h2.own⟩, h3⟩, fun j hj => by rw [ho.size]; exact h4 j hj⟩
  less := fun st w G G' ⟨h0, ⟨q', h1, h2, h3⟩, h4⟩ hG => ⟨h0, ⟨q', h1, h2, fun j hj => h3 j (hG j hj)⟩, fun j hj => h4 j (hG j hj)⟩

theorem stK_start (hO : SpaceOk S) (h : Kat S W P q its (ss 0)) : stK S W P q its ss 0 { W with drawn := W.drawn + 1 } (fun _ => False) := by
  have hk : Below W.heap.size W { W with drawn := W.drawn + 1 } := ⟨rfl, rfl, rfl, Nat.le_refl _, fun _ _ => rfl⟩
  exact ⟨Nat.le_refl _, ⟨q.F, h.below hO hk, Grew.of_below hk, fun _ e => e.elim⟩, fun _ e => e.elim⟩

/-- The space is turned by a call, which gives a stage more. -/
theorem stK_space (hO : SpaceOk S) {st : Nat} {G : Nat → Prop} {f : FuncId} {args : Array Value} {v : Value} {m' : Mk} (h : stK S W P q its ss st w G)
    (hc : ∀ F, S w F P.p (ss st).m.fs → (Kat S w P { q with F := F } its (ss st) → Calls Try.prog f args w fun e w'' => e = .returned v ∧ (∃ F', S w'' F' P.p m'.fs ∧ ∀ k, F' k → F k ∨ w.heap.size ≤ k) ∧ But F w w''))
    (hn : ss (st + 1) = { ss st with m := m' }) (h1 : m'.f = (ss st).m.f) (h2 : m'.t = (ss st).m.t) (h3 : m'.y = (ss st).m.y) (h4 : m'.top = (ss st).m.top) (h5 : m'.az = (ss st).m.az) :
    Calls Try.prog f args w fun e w'' => e = .returned v ∧ stK S W P q its ss (st + 1) w'' G ∧ w.heap.size ≤ w''.heap.size ∧ ∀ k, G k → w''.heap[k]? = w.heap[k]? := by
  obtain ⟨g0, ⟨q', g1, g2, g3⟩, g4⟩ := h
  refine (hc q' g1.sp g1).mono ?_
  rintro e w'' ⟨rfl, ⟨F', k1, k2⟩, k3⟩
  obtain ⟨a1, a2⟩ := g1.space hO (m' := m') k1 k2 k3 h1 h2 h3 h4 h5
  have hs := k3.size
  refine ⟨rfl, ⟨by omega, ⟨F', by rw [hn]; exact a1, g2.trans a2, fun k hk i e => ?_⟩, fun k hk => by have := g4 k hk; omega⟩, hs, fun k hk => k3.block k (g4 k hk).2 (fun e => g3 k hk 0 e)⟩
  by_cases hi : i = 0
  · subst hi
    rcases k2 k e with x | x
    · exact g3 k hk 0 x
    · have := g4 k hk; omega
  · refine g3 k hk i ?_
    match i, hi, e with
    | 1, _, e => exact e
    | 2, _, e => exact e
    | 3, _, e => exact e
    | 4, _, e => exact e
    | 5, _, e => exact e
    | 6, _, e => exact e
    | 7, _, e => exact e

/-- Two stages: the maker of lines turns from one to the other. -/
def two' (s : Ly) (m' : Mk) : Nat → Ly
  | 0 => s
  | _ => { s with m := m' }

end

/-- A box's cells. -/
theorem box_cells {T : TypeId} {w : World} {B g n c k : Nat} {xs : List Bx} (h : MineE encB T w B (some ⟨g, 0, none⟩) n c xs) (hk : k < n) : ∃ x, xs[k]? = some x ∧
    w.cell? ⟨g, k * 4, none⟩ = some (.int .i64 x.l) ∧ w.cell? ⟨g, k * 4 + 1, none⟩ = some (.int .i64 x.t) ∧ w.cell? ⟨g, k * 4 + 2, none⟩ = some (.int .i64 x.r) ∧ w.cell? ⟨g, k * 4 + 3, none⟩ = some (.int .i64 x.b) ∧ ∀ j, w.frozen? ⟨g, j, none⟩ = false := by
  have hl := h.len
  obtain ⟨a, ha⟩ : ∃ a, xs[k]? = some a := ⟨_, List.getElem?_eq_getElem (by omega)⟩
  exact ⟨a, ha, h.at k _ ha 0 (by show 0 < 4; omega), h.at k _ ha 1 (by show 1 < 4; omega), h.at k _ ha 2 (by show 2 < 4; omega), h.at k _ ha 3 (by show 3 < 4; omega), h.frozen⟩

end Go.Proofs.Ytdibdfalahjmbaa.Text
