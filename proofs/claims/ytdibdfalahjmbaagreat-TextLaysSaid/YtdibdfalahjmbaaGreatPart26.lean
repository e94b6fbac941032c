/- Texts of this proof that follow each other, in one file. -/
import Derived.Test.YtdibdfalahjmbaaGreatPart25
namespace Go.Proofs.YtdibdfalahjmbaaGreat.Text

open Go.RowKit Go.Sort Go.Proofs.YtdibdfalahjmbaaGreat.Rect Go.Proofs.YtdibdfalahjmbaaGreat.More Go.Proofs.YtdibdfalahjmbaaGreat.Shelf Go.Proofs.YtdibdfalahjmbaaGreat.Space Go.Proofs.YtdibdfalahjmbaaGreat.Place Go.Proofs.YtdibdfalahjmbaaGreat.Line

set_option linter.unusedVariables false

set_option linter.unusedSimpArgs false

def stK (S : World → (Nat → Prop) → Addr → List Fl → Prop) (W : World) (P : Fast) (q : Loose) (its : List It) (ss : Nat → Ly) : Nat → World → (Nat → Prop) → Prop := fun st w G =>
  W.heap.size ≤ w.heap.size ∧ (∃ F', Kat S w P { q with F := F' } its (ss st) ∧ Grew P q { q with F := F' } W w ∧ ∀ k, G k → ∀ i, ¬ part P { q with F := F' } i k) ∧ ∀ k, G k → W.heap.size ≤ k ∧ k < w.heap.size

section

variable {S : World → (Nat → Prop) → Addr → List Fl → Prop} {w w' W : World} {P : Fast} {q : Loose} {its : List It} {s : Ly} {ss : Nat → Ly}

theorem Kat.far (hO : SpaceOk S) (h : Kat S w P q its s) {G : Nat → Prop} (k : But G w w') (hG : ∀ i j, part P q i j → ¬ G j) : Kat S w' P q its s :=
  ⟨hO.keep _ _ _ _ _ _ h.sp k (fun j e => hG 0 j e), h.bl.but k (hG 1 _ rfl), h.kr.but (by simp) k (hG 2 _ rfl), mineE_but h.it k (fun j e => hG 7 j e), mineE_but h.ro k (fun j e => hG 4 j e), mineE_but h.wa k (fun j e => hG 5 j e), mineE_but h.bo k (fun j e => hG 3 j (by injection e with e; exact e.symm)), mineE_but h.li k (fun j e => hG 6 j e), h.ap, h.b1, h.b2, Nat.le_trans h.hB k.size⟩

theorem stK_kept (hO : SpaceOk S) : Draw.Kept (stK S W P q its ss) where
  below := fun st w w' G G' ⟨h0, ⟨q', h1, h2, h3⟩, h4⟩ k hG => ⟨Nat.le_trans h0 k.size, ⟨q', h1.below hO k, h2.trans (Grew.of_below k), fun j hj i e => by
      have := h1.low hO i j e
      rcases hG j hj with g | g
      · exact h3 j g i e
      · omega⟩, fun j hj => by
      have := k.size
      rcases hG j hj with g | g
      · have := h4 j g; omega
      · omega⟩
  only := fun st w w' b G ⟨h0, ⟨q', h1, h2, h3⟩, h4⟩ hb ho => by
    have hk : But (fun j => j = b) w w' := ⟨ho.os, ho.tape, ho.output, by rw [ho.size]; exact Nat.le_refl _, fun j _ hn => ho.block j hn⟩
    refine ⟨by rw [ho.size]; exact h0, ⟨q', h1.far hO hk (fun i j e g => h3 b hb i (by rw [← g]; exact e)), ⟨⟨hk.os.trans h2.but.os, hk.tape.trans h2.but.tape, hk.output.trans h2.but.output, by rw [ho.size]; exact h0, fun j hj hn => (ho.block j (fun e => by have := (h4 b hb).1; omega)).trans (h2.but.block j hj hn)⟩, h2.own⟩, h3⟩, fun j hj => by rw [ho.size]; exact h4 j hj⟩
  less := fun st w G G' ⟨h0, ⟨q', h1, h2, h3⟩, h4⟩ hG => ⟨h0, ⟨q', h1, h2, fun j hj => h3 j (hG j hj)⟩, fun j hj => h4 j (hG j hj)⟩

theorem stK_start (hO : SpaceOk S) (h : Kat S W P q its (ss 0)) : stK S W P q its ss 0 { W with drawn := W.drawn + 1 } (fun _ => False) := by
  have hk : Below W.heap.size W { W with drawn := W.drawn + 1 } := ⟨rfl, rfl, rfl, Nat.le_refl _, fun _ _ => rfl⟩
  exact ⟨Nat.le_refl _, ⟨q.F, h.below hO hk, Grew.of_below hk, fun _ e => e.elim⟩, fun _ e => e.elim⟩

theorem stK_space (hO : SpaceOk S) {st : Nat} {G : Nat → Prop} {f : FuncId} {args : Array Value} {v : Value} {m' : Mk} (h : stK S W P q its ss st w G)
    (hc : ∀ F, S w F P.p (ss st).m.fs → (Kat S w P { q with F := F } its (ss st) → Calls Tryz.prog f args w fun e w'' => e = .returned v ∧ (∃ F', S w'' F' P.p m'.fs ∧ ∀ k, F' k → F k ∨ w.heap.size ≤ k) ∧ But F w w''))
    (hn : ss (st + 1) = { ss st with m := m' }) (h1 : m'.f = (ss st).m.f) (h2 : m'.t = (ss st).m.t) (h3 : m'.y = (ss st).m.y) (h4 : m'.top = (ss st).m.top) (h5 : m'.az = (ss st).m.az) :
    Calls Tryz.prog f args w fun e w'' => e = .returned v ∧ stK S W P q its ss (st + 1) w'' G ∧ w.heap.size ≤ w''.heap.size ∧ ∀ k, G k → w''.heap[k]? = w.heap[k]? := by
  obtain ⟨g0, ⟨q', g1, g2, g3⟩, g4⟩ := h
  refine (hc q' g1.sp g1).mono ?_
  rintro e w'' ⟨rfl, ⟨F', k1, k2⟩, k3⟩
  obtain ⟨a1, a2⟩ := g1.space hO (m' := m') k1 k2 k3 h1 h2 h3 h4 h5
  have hs := k3.size
  refine ⟨rfl, ⟨by omega, ⟨F', by rw [hn]; exact a1, g2.trans a2, fun k hk i e => ?_⟩, fun k hk => by have := g4 k hk; omega⟩, hs, fun k hk => k3.block k (g4 k hk).2 (fun e => g3 k hk 0 e)⟩
  by_cases hi : i = 0
  · subst hi
    rcases k2 k e with x | x
    · exact g3 k hk 0 x
    · have := g4 k hk; omega
  · refine g3 k hk i ?_
    match i, hi, e with
    | 1, _, e => exact e
    | 2, _, e => exact e
    | 3, _, e => exact e
    | 4, _, e => exact e
    | 5, _, e => exact e
    | 6, _, e => exact e
    | 7, _, e => exact e

def two' (s : Ly) (m' : Mk) : Nat → Ly
  | 0 => s
  | _ => { s with m := m' }

end

theorem box_cells {T : TypeId} {w : World} {B g n c k : Nat} {xs : List Bx} (h : MineE encB T w B (some ⟨g, 0, none⟩) n c xs) (hk : k < n) : ∃ x, xs[k]? = some x ∧
    w.cell? ⟨g, k * 4, none⟩ = some (.int .i64 x.l) ∧ w.cell? ⟨g, k * 4 + 1, none⟩ = some (.int .i64 x.t) ∧ w.cell? ⟨g, k * 4 + 2, none⟩ = some (.int .i64 x.r) ∧ w.cell? ⟨g, k * 4 + 3, none⟩ = some (.int .i64 x.b) ∧ ∀ j, w.frozen? ⟨g, j, none⟩ = false := by
  have hl := h.len
  obtain ⟨a, ha⟩ : ∃ a, xs[k]? = some a := ⟨_, List.getElem?_eq_getElem (by omega)⟩
  exact ⟨a, ha, h.at k _ ha 0 (by show 0 < 4; omega), h.at k _ ha 1 (by show 1 < 4; omega), h.at k _ ha 2 (by show 2 < 4; omega), h.at k _ ha 3 (by show 3 < 4; omega), h.frozen⟩

end Go.Proofs.YtdibdfalahjmbaaGreat.Text

namespace Go.Proofs.YtdibdfalahjmbaaGreat.Text

open Go.RowKit Go.Sort Go.Proofs.YtdibdfalahjmbaaGreat.Rect Go.Proofs.YtdibdfalahjmbaaGreat.More Go.Proofs.YtdibdfalahjmbaaGreat.Shelf Go.Proofs.YtdibdfalahjmbaaGreat.Space Go.Proofs.YtdibdfalahjmbaaGreat.Place Go.Proofs.YtdibdfalahjmbaaGreat.Line

set_option linter.unusedVariables false

set_option linter.unusedSimpArgs false

section

variable {S : World → (Nat → Prop) → Addr → List Fl → Prop}

set_option maxRecDepth 100000 in
set_option maxHeartbeats 2000000 in
theorem kput_any (hO : SpaceOk S) (hP : PlaceOk S) {w : World} {P : Fast} {q : Loose} {its : List It} {s : Ly} (h : Kat S w P q its s) {k : Nat} (hk : k < its.length) (hb : s.box.length = its.length) (hlen : s.m.fs.length < 1000) (h49 : s.m.fs.all near49 = true) (hr : RightW (wantAt its s.m k s.m.y)) :
    Calls Tryz.prog 34 #[.pointer (some ⟨P.kb, 0, none⟩), .int .i64 (k : Int)] w fun e w' => (∃ v, e = .returned v) ∧ ∃ F', Kat S w' P { q with F := F' } its (s.putN its k) ∧ Grew P q { q with F := F' } w w' := by
  have hki : (k : Int) < (s.box.length : Int) := by omega
  have hk0 : ¬ (k : Int) < 0 := by omega
  obtain ⟨m', hm'⟩ : ∃ m', putM s.m (wantAt its s.m k s.m.y) = m' := ⟨_, rfl⟩
  obtain ⟨r, hr'⟩ : ∃ r, placed s.m.fs (wantAt its s.m k s.m.y) = r := ⟨_, rfl⟩
  have hput : s.putN its k = { s with m := m', box := s.box.set k (bxOf r) } := by unfold Ly.putN putK; rw [hm', hr']
  have hfs : m'.fs = s.m.fs ++ [r] := by rw [← hm', ← hr']; rfl
  have HM := Lib.hid (⟨by rw [← hm']; rfl, by rw [← hm']; rfl, by rw [← hm']; rfl, by rw [← hm']; rfl, by rw [← hm']; rfl⟩ : m'.f = s.m.f ∧ m'.t = s.m.t ∧ m'.y = s.m.y ∧ m'.top = s.m.top ∧ m'.az = s.m.az)
  have HW := Lib.hid (fun (st : Nat) w' G (j : stK S w P q its (two' s m') st w' G) => show ∃ F', Kat S w' P { q with F := F' } its { s with m := (two' s m' st).m } by
    obtain ⟨-, ⟨q', a, -, -⟩, -⟩ := j
    exact ⟨q', by cases st <;> exact a⟩)
  have HMM := Lib.hid (fun st => show (two' s m' st).m.f = s.m.f ∧ (two' s m' st).m.t = s.m.t ∧ (two' s m' st).m.y = s.m.y by
    cases st
    · exact ⟨rfl, rfl, rfl⟩
    · exact ⟨HM.out.1, HM.out.2.1, HM.out.2.2.1⟩)
  have HKr := Lib.hid (fun (st : Nat) w' G (j : stK S w P q its (two' s m') st w' G) => show RowAt w' P.kb [.pointer (some ⟨P.bb, 0, none⟩), .pointer (some P.p)] ∨ True from .inr trivial)
  have HC0 := Lib.hid (fun (st : Nat) w' G (j : stK S w P q its (two' s m') st w' G) => (show w'.cell? ⟨P.kb, 0, none⟩ = some (.pointer (some ⟨P.bb, 0, none⟩)) ∧ w'.cell? ⟨P.kb, 1, none⟩ = some (.pointer (some P.p)) ∧ w'.cell? ⟨P.kb, 7, none⟩ = some (.slice (some ⟨P.bx, 0, none⟩) s.box.length s.box.length) by
    obtain ⟨q', a⟩ := HW.out st w' G j
    exact ⟨a.kr.at' 0, a.kr.at' 1, a.kr.at' 7⟩))
  have HY := Lib.hid (fun (st : Nat) w' G (j : stK S w P q its (two' s m') st w' G) => show Calls Tryz.prog 19 #[.pointer (some ⟨P.bb, 0, none⟩)] w' fun e w'' => e = .returned (.int .i64 s.m.y) ∧ Below w'.heap.size w' w'' by
    obtain ⟨q', a⟩ := HW.out st w' G j
    have := ly_any w' P.p P.bb _ a.bl
    rw [show ({ s with m := (two' s m' st).m } : Ly).m.y = s.m.y from (HMM.out st).2.2] at this
    exact this)
  have HWa := Lib.hid (fun (st : Nat) w' G (j : stK S w P q its (two' s m') st w' G) => show Calls Tryz.prog 49 #[.pointer (some ⟨P.kb, 0, none⟩), .int .i64 (k : Int), .int .i64 s.m.y] w' fun e w'' => e = .returned (wantAt its s.m k s.m.y).v ∧ Below w'.heap.size w' w'' by
    obtain ⟨q', a⟩ := HW.out st w' G j
    have := want_any hO a hk s.m.y
    rw [show wantAt its ({ s with m := (two' s m' st).m } : Ly).m k s.m.y = wantAt its s.m k s.m.y by unfold wantAt; rw [show ({ s with m := (two' s m' st).m } : Ly).m.f = s.m.f from (HMM.out st).1, show ({ s with m := (two' s m' st).m } : Ly).m.t = s.m.t from (HMM.out st).2.1]] at this
    exact this)
  have HPu := Lib.hid (fun w' G (j : stK S w P q its (two' s m') 0 w' G) => stK_space hO (m' := m') (v := Fl.box r) (f := 48) (args := #[.pointer (some P.p), (wantAt its s.m k s.m.y).v]) j (fun F hF a => by
      have := hP.put w' F P.p s.m.fs (wantAt its s.m k s.m.y) hF hlen h49 hr
      rw [hr', ← hfs] at this
      exact this) rfl HM.out.1 HM.out.2.1 HM.out.2.2.1 HM.out.2.2.2.1 HM.out.2.2.2.2)
  have HK0 := Lib.hid (stK_start (ss := two' s m') hO h)
  rw [hput]
  generalize wantAt its s.m k s.m.y = x at *
  have HL := Lib.hid (⟨hk, hb⟩ : k < its.length ∧ s.box.length = its.length)
  clear h hk hb hlen h49 hr hm' hr' hput hfs HKr
  go_enter Tryz.func34, Tryz.ntmps34
  refine DrawT.wp_region_tail (stK S w P q its (two' s m')) 1 [.val (.pointer (some ⟨P.kb, 0, none⟩)), .val (.pointer (some ⟨P.kb, 0, none⟩)), .val (.pointer (some ⟨P.kb, 7, none⟩)), .val (.pointer (some ⟨P.kb, 7, none⟩)), .val (.slice (some ⟨P.bx, 0, none⟩) s.box.length s.box.length), .val (.int .i64 (k : Int)), .val (.pointer (some ⟨P.kb, 0, none⟩)), .val (.pointer (some ⟨P.kb, 0, none⟩)), .val (.pointer (some ⟨P.kb, 1, none⟩)), .val (.pointer (some P.p)), .val (.pointer (some ⟨P.kb, 0, none⟩)), .val (.int .i64 (k : Int)), .val (.pointer (some ⟨P.kb, 0, none⟩)), .val (.pointer (some ⟨P.kb, 0, none⟩)), .val (.pointer (some ⟨P.kb, 0, none⟩)), .val (.pointer (some ⟨P.bb, 0, none⟩)), .val (.int .i64 s.m.y), .val (x.v), .turn 0 (Fl.box r)] (by kernel_rfl) (by kernel_rfl) (by kernel_rfl) (stK_kept hO) HK0.out ?_ ?_
  · simp only [Draw.fill, Draw.Leave.value]
    refine ⟨?_, ?_, ?_, ?_, ?_, ?_, ?_, ?_, ?_, ?_, ?_, ?_, ?_, ?_, ?_, ?_, ?_, ?_, ?_, trivial⟩
    · intro st gg w' G hw hk
      go_simp
      exact ⟨rfl, rfl⟩
    · intro st gg w' G hw hk
      go_simp
      exact ⟨rfl, rfl⟩
    · intro st gg w' G hw hk
      go_simp
      exact ⟨rfl, rfl⟩
    · intro st gg w' G hw hk
      go_simp
      exact ⟨rfl, rfl⟩
    · intro st gg w' G hw hk
      have q0 : w'.cell? ⟨P.kb, 7, none⟩ = some (.slice (some ⟨P.bx, 0, none⟩) s.box.length s.box.length) := (HC0.out st w' G hw).2.2
      go_simp
      exact ⟨rfl, rfl⟩
    · intro st gg w' G hw hk
      go_simp
      exact ⟨rfl, rfl⟩
    · intro st gg w' G hw hk
      go_simp
      exact ⟨rfl, rfl⟩
    · intro st gg w' G hw hk
      go_simp
      exact ⟨rfl, rfl⟩
    · intro st gg w' G hw hk
      go_simp
      exact ⟨rfl, rfl⟩
    · intro st gg w' G hw hk
      have q0 : w'.cell? ⟨P.kb, 1, none⟩ = some (.pointer (some P.p)) := (HC0.out st w' G hw).2.1
      go_simp
      exact ⟨rfl, rfl⟩
    · intro st gg w' G hw hk
      go_simp
      exact ⟨rfl, rfl⟩
    · intro st gg w' G hw hk
      go_simp
      exact ⟨rfl, rfl⟩
    · intro st gg w' G hw hk
      go_simp
      exact ⟨rfl, rfl⟩
    · intro st gg w' G hw hk
      go_simp
      exact ⟨rfl, rfl⟩
    · intro st gg w' G hw hk
      go_simp
      exact ⟨rfl, rfl⟩
    · intro st gg w' G hw hk
      have q0 : w'.cell? ⟨P.kb, 0, none⟩ = some (.pointer (some ⟨P.bb, 0, none⟩)) := (HC0.out st w' G hw).1
      go_simp
      exact ⟨rfl, rfl⟩
    · intro st gg w' G hw hk
      go_simp
      exact Draw.stays_call (HY.out st w' G hw)
    · intro st gg w' G hw hk
      go_simp
      exact Draw.stays_call (HWa.out st w' G hw)
    · intro gg w' G hw hk
      go_simp
      exact Draw.turns_call (HPu.out w' G hw)
  intro gg w5 G5 hkw hbox hput hap
  simp only [Draw.fill, Draw.Leave.value, List.length_cons, List.length_nil, List.drop_succ_cons, List.drop_zero]
  obtain ⟨-, ⟨q5, a5, b5, -⟩, -⟩ := hkw
  have S5 := Lib.hid (⟨a5, b5⟩ : Kat S w5 P { q with F := q5 } its { s with m := m' } ∧ Grew P q { q with F := q5 } w w5)
  obtain ⟨bo, hbo, d0, d1, d2, d3, fz⟩ := box_cells a5.bo (k := k) (by show k < s.box.length; have := HL.out; omega)
  have f0 := fz (k * 4)
  have f1 := fz (k * 4 + 1)
  have f2 := fz (k * 4 + 2)
  have f3 := fz (k * 4 + 3)
  clear a5 b5 hbo fz hbox hput hap HC0 HY HWa HPu HK0 HW HMM
  go_simp
  go_wp2_with fail
  obtain ⟨a5, b5⟩ := S5.out
  obtain ⟨c1, c2⟩ := mineB_put a5.bo (k := k) (by show k < s.box.length; have := HL.out; omega) (bxOf r)
  obtain ⟨e1, e2⟩ := a5.boxed hO (bs := s.box.set k (bxOf r)) List.length_set c1 c2
  go_end0
  exact ⟨⟨_, rfl⟩, q5, e1, b5.trans e2⟩

end

end Go.Proofs.YtdibdfalahjmbaaGreat.Text

namespace Go.Proofs.YtdibdfalahjmbaaGreat.Text

open Go.RowKit Go.Sort Go.Proofs.YtdibdfalahjmbaaGreat.Rect Go.Proofs.YtdibdfalahjmbaaGreat.More Go.Proofs.YtdibdfalahjmbaaGreat.Shelf Go.Proofs.YtdibdfalahjmbaaGreat.Space Go.Proofs.YtdibdfalahjmbaaGreat.Place Go.Proofs.YtdibdfalahjmbaaGreat.Line

set_option linter.unusedVariables false

set_option linter.unusedSimpArgs false

theorem offs_snoc (its : List It) (l : List Nat) (k : Nat) : offs its (l ++ [k]) = offs its l + (itAt its k).wd := by
  unfold offs
  rw [List.map_append, List.sum_append]
  simp

theorem setRow_snoc (its : List It) (top : Int) (l : List Nat) (k : Nat) : ∀ (x : Int) (bs : List Bx), setRow its top x (l ++ [k]) bs = (setRow its top x l bs).set k ⟨x + offs its l, top, x + offs its l + (itAt its k).wd, top + (itAt its k).ht⟩ := by
  induction l with
  | nil =>
    intro x bs
    show setRow its top (x + (itAt its k).wd) [] (bs.set k ⟨x, top, x + (itAt its k).wd, top + (itAt its k).ht⟩) = _
    have e : offs its [] = 0 := rfl
    rw [e, Int.add_zero]
    rfl
  | cons j l ih =>
    intro x bs
    show setRow its top (x + (itAt its j).wd) (l ++ [k]) _ = _
    rw [ih]
    have e : offs its (j :: l) = (itAt its j).wd + offs its l := by unfold offs; rw [List.map_cons, List.sum_cons]
    rw [e, ← Int.add_assoc]
    rfl

theorem offs_b (its : List It) (l : List Nat) (h : ∀ i ∈ l, RightS (itAt its i).z) : 0 ≤ offs its l ∧ offs its l ≤ l.length * 2147483648 := by
  induction l with
  | nil => exact ⟨Int.le_refl _, Int.le_refl _⟩
  | cons j l ih =>
    have h1 := h j List.mem_cons_self
    have h2 := ih fun i hi => h i (List.mem_cons_of_mem _ hi)
    have e : offs its (j :: l) = (itAt its j).wd + offs its l := by unfold offs; rw [List.map_cons, List.sum_cons]
    have w1 : 0 ≤ (itAt its j).wd := h1.w1
    have w2 : (itAt its j).wd ≤ 2147483648 := h1.w2
    rw [e, List.length_cons]
    omega

theorem place_cell {T : TypeId} {w : World} {B g n c k i : Nat} {xs : List Nat} (h : MineE encN T w B (some ⟨g, 0, none⟩) n c xs) (hk : xs[k]? = some i) : w.cell? ⟨g, k, none⟩ = some (.int .i64 (i : Int)) := by
  have := h.at k i hk 0 (by show 0 < 1; omega)
  rw [show k * encN.size + 0 = k from Nat.mul_one k] at this
  exact this

section

variable {S : World → (Nat → Prop) → Addr → List Fl → Prop}

set_option maxRecDepth 100000 in
set_option maxHeartbeats 2000000 in
theorem kfill_any (hO : SpaceOk S) {w : World} {P : Fast} {q : Loose} {its : List It} {s : Ly} (h : Kat S w P q its s) (l t r b : Int) (hb : s.box.length = its.length) (hrow : ∀ i ∈ s.row, i < its.length ∧ RightS (itAt its i).z) (hlen : s.row.length ≤ 100000) (hl : -4503599627370496 ≤ l ∧ l ≤ 4503599627370496) (ht : -4503599627370496 ≤ t ∧ t ≤ 4503599627370496) :
    Calls Tryz.prog 33 #[.pointer (some ⟨P.kb, 0, none⟩), .agg #[.int .i64 l, .int .i64 t, .int .i64 r, .int .i64 b]] w fun e w' => (∃ v, e = .returned v) ∧ Kat S w' P q its { s with box := setRow its t l s.row s.box } ∧ Grew P q q w w' := by
  have HK := Lib.hid h
  have HL := Lib.hid (⟨hb, hrow, hlen, hl, ht⟩ : s.box.length = its.length ∧ (∀ i ∈ s.row, i < its.length ∧ RightS (itAt its i).z) ∧ s.row.length ≤ 100000 ∧ (-4503599627370496 ≤ l ∧ l ≤ 4503599627370496) ∧ (-4503599627370496 ≤ t ∧ t ≤ 4503599627370496))
  clear h hb hrow hlen hl ht
  go_enter Tryz.func33, Tryz.ntmps33
  go_upto_region 1 with fail
  generalize hW1 : World.alloc w _ = W
  obtain ⟨b0, hb0⟩ : ∃ b0, w.heap.size = b0 := ⟨_, rfl⟩
  have k1 : Below w.heap.size w W := by rw [← hW1]; exact ba1 _ _
  have z1 : RowAt W b0 [.int .i64 l, .int .i64 t, .int .i64 r, .int .i64 b] := by rw [← hW1, ← hb0]; exact RowAt.new w _ _
  have hno : ∀ i j, part P q i j → ¬ j = b0 := fun i j e g => by have := HK.out.low hO i j e; omega
  rw [hb0]
  have S1 := Lib.hid (⟨k1, HK.out.below hO k1, z1, hno⟩ : Below w.heap.size w W ∧ Kat S W P q its s ∧ RowAt W b0 [.int .i64 l, .int .i64 t, .int .i64 r, .int .i64 b] ∧ ∀ i j, part P q i j → ¬ j = b0)
  have d0 : W.cell? ⟨b0, 0, none⟩ = some (.int .i64 l) := z1.at' 0
  clear hW1 hb0 k1 z1 hno HK
  obtain ⟨c0, c1, c2, c3, c4, c5, -⟩ := S1.out.2.1.cells
  obtain ⟨n, hn⟩ : ∃ n, s.row.length = n := ⟨_, rfl⟩
  rw [hn] at c5
  have HN := Lib.hid hn
  clear hn c0 c1 c2 c3
  go_wp2_with fail
  go_loopw [4, 16] (fun u i wr => ∃ j : Nat, j ≤ n ∧ i = .int .i64 (j : Int) ∧ u = .int .i64 (l + offs its (s.row.take j)) ∧ Hid (Kat S wr P q its { s with box := setRow its t l (s.row.take j) s.box } ∧ Grew P q q w wr ∧ RowAt wr b0 [.int .i64 l, .int .i64 t, .int .i64 r, .int .i64 b])) (fun _ i _ => n - (intOf i).toNat)
  case atStart => exact ⟨0, Nat.zero_le _, rfl, by rw [List.take_zero]; show Value.int .i64 l = .int .i64 (l + 0); rw [Int.add_zero], Lib.hid ⟨S1.out.2.1, Grew.of_below S1.out.1, S1.out.2.2.1⟩⟩
  case round =>
    obtain ⟨j, hj, rfl, rfl, H⟩ := hrel
    clear d0 c4 c5
    by_cases hlt : j < n
    · have hji : (j : Int) < (n : Int) := by omega
      have hj0 : ¬ (j : Int) < 0 := by omega
      have hwj : IntKind.i64.wrap ((j : Int) + 1) = (j : Int) + 1 := by have := HN.out; have := HL.out.2.2.1; exact IntWalk.i64_in _ (by omega)
      obtain ⟨k, hk⟩ : ∃ k, s.row[j]? = some k := ⟨_, List.getElem?_eq_getElem (by rw [HN.out]; exact hlt)⟩
      have hkr := HL.out.2.1 k (List.mem_of_getElem? hk)
      have hki : (k : Int) < (its.length : Int) := by omega
      have hk0 : ¬ (k : Int) < 0 := by omega
      have hkb : (k : Int) < (s.box.length : Int) := by have := HL.out.1; omega
      have ht1 : s.row.take (j + 1) = s.row.take j ++ [k] := by rw [List.take_add_one, hk]; rfl
      have hof := offs_b its (s.row.take j) (fun i hi => (HL.out.2.1 i (List.mem_of_mem_take hi)).2)
      have hw1 : 0 ≤ (itAt its k).wd := hkr.2.w1
      have hw2 : (itAt its k).wd ≤ 2147483648 := hkr.2.w2
      have hh1 : 0 ≤ (itAt its k).ht := hkr.2.h1
      have hh2 : (itAt its k).ht ≤ 2147483648 := hkr.2.h2
      have htl : (s.row.take j).length ≤ 100000 := by rw [List.length_take]; have := HL.out.2.2.1; omega
      have hA : ∃ g1, q.A1 = some ⟨g1, 0, none⟩ := by
        obtain ⟨g1, e, -⟩ := H.out.1.ro.form (by show 0 < s.row.length; rw [HN.out]; omega)
        exact ⟨g1, e⟩
      obtain ⟨g1, hA⟩ := hA
      have hro := H.out.1.ro
      rw [hA] at hro
      have p1 := place_cell hro hk
      obtain ⟨g0, hA0, d0, d1, d2, d3⟩ := H.out.1.item hkr.1
      obtain ⟨c0, c1, c2, c3, c4, c5, c6, c7, -⟩ := H.out.1.cells
      rw [hA0] at c4
      dsimp only at c7
      rw [setRow_len] at c7
      obtain ⟨x, hx⟩ : ∃ x, itAt its k = x := ⟨_, rfl⟩
      obtain ⟨u, hu⟩ : ∃ u, l + offs its (s.row.take j) = u := ⟨_, rfl⟩
      rw [hx] at d0 d1 d2 d3 hw1 hw2 hh1 hh2
      rw [hu]
      have hwu : IntKind.i64.wrap (u + x.wd) = u + x.wd := IntWalk.i64_in _ (by have := HL.out.2.2.2.1; omega)
      have HWt := Lib.hid (show IntKind.i64.wrap (t + x.ht) = t + x.ht from IntWalk.i64_in _ (by have := HL.out.2.2.2.2; omega))
      have hset : setRow its t l (s.row.take (j + 1)) s.box = (setRow its t l (s.row.take j) s.box).set k ⟨u, t, u + x.wd, t + x.ht⟩ := by rw [ht1, setRow_snoc, hu, hx]
      have hoff : l + offs its (s.row.take (j + 1)) = u + x.wd := by rw [ht1, offs_snoc, hx, ← hu]; omega
      have HS := Lib.hid (⟨hset, hoff, hkr.1⟩ : setRow its t l (s.row.take (j + 1)) s.box = (setRow its t l (s.row.take j) s.box).set k ⟨u, t, u + x.wd, t + x.ht⟩ ∧ l + offs its (s.row.take (j + 1)) = u + x.wd ∧ k < its.length)
      rw [hA]
      clear hk hkr ht1 hof hw1 hw2 hh1 hh2 htl hA hro hA0 hx hu hset hoff c1 c2 c3 c5 c6
      go_upto_region 6 with fail
      generalize hW2 : World.alloc wr _ = W2
      obtain ⟨b7, hb7⟩ : ∃ b7, wr.heap.size = b7 := ⟨_, rfl⟩
      have k2 : Below wr.heap.size wr W2 := by rw [← hW2]; exact ba1 _ _
      have z2 : RowAt W2 b7 (Line.two x.wd x.ht) := by rw [← hW2, ← hb7]; exact RowAt.new wr _ _
      rw [hb7]
      have S2 := Lib.hid (⟨k2, z2⟩ : Below wr.heap.size wr W2 ∧ RowAt W2 b7 (Line.two x.wd x.ht))
      obtain ⟨e0, e1, -, -⟩ := two_of z2
      clear hW2 hb7 k2 z2 d0 d1 d2 d3 c0 c4 c7 p1
      go_upto_region 7 with fail
      generalize hW3 : World.alloc W2 _ = W3
      obtain ⟨b8, hb8⟩ : ∃ b8, W2.heap.size = b8 := ⟨_, rfl⟩
      have k3 : Below W2.heap.size W2 W3 := by rw [← hW3]; exact ba1 _ _
      have z3 : RowAt W3 b8 (Line.two u (u + x.wd)) := by rw [← hW3, ← hb8]; exact RowAt.new W2 _ _
      have kk := thru S2.out.1 k3
      have hno8 : ∀ i j, part P q i j → ¬ j = b8 := fun i j e g => by have := H.out.1.low hO i j e; have := S2.out.1.size; omega
      rw [hb8]
      have S3 := Lib.hid (⟨kk, S2.out.2.below (by simp) k3, z3, H.out.1.below hO kk, H.out.2.2.below (by simp) kk, hno8⟩ : Below wr.heap.size wr W3 ∧ RowAt W3 b7 (Line.two x.wd x.ht) ∧ RowAt W3 b8 (Line.two u (u + x.wd)) ∧ Kat S W3 P q its { s with box := setRow its t l (s.row.take j) s.box } ∧ RowAt W3 b0 [.int .i64 l, .int .i64 t, .int .i64 r, .int .i64 b] ∧ ∀ i j, part P q i j → ¬ j = b8)
      clear hW3 hb8 k3 z3 kk hno8 e0 e1 S2
      have hlb : (setRow its t l (s.row.take j) s.box).length = s.box.length := setRow_len ..
      have HKr := Lib.hid (fun w' (i : Below W3.heap.size W3 w') => show w'.cell? ⟨P.kb, 7, none⟩ = some (.slice (some ⟨P.bx, 0, none⟩) s.box.length s.box.length) by
        have := (S3.out.2.2.2.1.below hO i).kr.at' 7
        rw [this]
        show some (Value.slice (some ⟨P.bx, 0, none⟩) (setRow its t l (s.row.take j) s.box).length (setRow its t l (s.row.take j) s.box).length) = _
        rw [hlb])
      have HB0 := Lib.hid (fun w' (i : Below W3.heap.size W3 w') => S3.out.2.2.2.2.1.below (by simp) i)
      have HB7 := Lib.hid (fun w' (i : Below W3.heap.size W3 w') => S3.out.2.1.below (by simp) i)
      have HB8 := Lib.hid (fun w' (i : Below W3.heap.size W3 w') => S3.out.2.2.1.below (by simp) i)
      refine Hold.wp_region_hold [.val (.pointer (some ⟨P.kb, 0, none⟩)), .val (.pointer (some ⟨P.kb, 0, none⟩)), .val (.pointer (some ⟨P.kb, 7, none⟩)), .val (.pointer (some ⟨P.kb, 7, none⟩)), .val (.slice (some ⟨P.bx, 0, none⟩) s.box.length s.box.length), .val (.int .i64 (k : Int)), .val (.agg #[.int .i64 u, .int .i64 (u + x.wd)]), .val (.pointer (some ⟨b0, 1, none⟩)), .val (.int .i64 t), .val (.pointer (some ⟨b0, 1, none⟩)), .val (.int .i64 t), .val (.pointer (some ⟨b7, 1, none⟩)), .val (.int .i64 x.ht), .val (.int .i64 (t + x.ht)), .val (.agg #[.int .i64 t, .int .i64 (t + x.ht)]), .val (.agg #[.int .i64 u, .int .i64 t, .int .i64 (u + x.wd), .int .i64 (t + x.ht)])] (by kernel_rfl) (by kernel_rfl) (by kernel_rfl) ?_ ?_
      · simp only [Hold.fill, Hold.Leave.value]
        refine ⟨?_, ?_, ?_, ?_, ?_, ?_, ?_, ?_, ?_, ?_, ?_, ?_, ?_, ?_, ?_, ?_, trivial⟩
        · intro gg w' hw hk
          go_simp
          exact ⟨rfl, rfl⟩
        · intro gg w' hw hk
          go_simp
          exact ⟨rfl, rfl⟩
        · intro gg w' hw hk
          go_simp
          exact ⟨rfl, rfl⟩
        · intro gg w' hw hk
          go_simp
          exact ⟨rfl, rfl⟩
        · intro gg w' hw hk
          have q0 : w'.cell? ⟨P.kb, 7, none⟩ = some (.slice (some ⟨P.bx, 0, none⟩) s.box.length s.box.length) := HKr.out w' hw
          go_simp
          exact ⟨rfl, rfl⟩
        · intro gg w' hw hk
          go_simp
          exact ⟨rfl, rfl⟩
        · intro gg w' hw hk
          have q0 : w'.cell? ⟨b8, 0, none⟩ = some (.int .i64 u) := (HB8.out w' hw).at' 0
          have q1 : w'.cell? ⟨b8, 1, none⟩ = some (.int .i64 (u + x.wd)) := (HB8.out w' hw).at' 1
          go_simp
          exact ⟨rfl, rfl⟩
        · intro gg w' hw hk
          go_simp
          exact ⟨rfl, rfl⟩
        · intro gg w' hw hk
          have q0 : w'.cell? ⟨b0, 1, none⟩ = some (.int .i64 t) := (HB0.out w' hw).at' 1
          go_simp
          exact ⟨rfl, rfl⟩
        · intro gg w' hw hk
          go_simp
          exact ⟨rfl, rfl⟩
        · intro gg w' hw hk
          have q0 : w'.cell? ⟨b0, 1, none⟩ = some (.int .i64 t) := (HB0.out w' hw).at' 1
          go_simp
          exact ⟨rfl, rfl⟩
        · intro gg w' hw hk
          go_simp
          exact ⟨rfl, rfl⟩
        · intro gg w' hw hk
          have q0 : w'.cell? ⟨b7, 1, none⟩ = some (.int .i64 x.ht) := (HB7.out w' hw).at' 1
          go_simp
          exact ⟨rfl, rfl⟩
        · intro gg w' hw hk
          have qn := HWt.out
          go_simp
          exact ⟨rfl, rfl⟩
        · intro gg w' hw hk
          go_simp
          exact ⟨rfl, rfl⟩
        · intro gg w' hw hk
          go_simp
          exact Hold.stays_call (rof_any _ _ _ _ w')
      intro gg w4 k4 hgg
      clear hgg
      simp only [Hold.fill, Hold.Leave.value, List.length_cons, List.length_nil, List.drop_succ_cons, List.drop_zero]
      have hK4 := S3.out.2.2.2.1.below hO k4
      have S4 := Lib.hid (⟨thru S3.out.1 k4, hK4, HB0.out w4 k4, HB8.out w4 k4⟩ : Below wr.heap.size wr w4 ∧ Kat S w4 P q its { s with box := setRow its t l (s.row.take j) s.box } ∧ RowAt w4 b0 [.int .i64 l, .int .i64 t, .int .i64 r, .int .i64 b] ∧ RowAt w4 b8 (Line.two u (u + x.wd)))
      have hbo := hK4.bo
      dsimp only at hbo
      rw [hlb] at hbo
      obtain ⟨bo, hbo', d0, d1, d2, d3, fz⟩ := box_cells hbo (k := k) (by omega)
      have f0 := fz (k * 4)
      have f1 := fz (k * 4 + 1)
      have f2 := fz (k * 4 + 2)
      have f3 := fz (k * 4 + 3)
      obtain ⟨c1, c2⟩ := mineB_put hbo (k := k) (by omega) ⟨u, t, u + x.wd, t + x.ht⟩
      obtain ⟨e1, e2⟩ := hK4.boxed hO (bs := (setRow its t l (s.row.take j) s.box).set k ⟨u, t, u + x.wd, t + x.ht⟩) List.length_set (by dsimp only; rw [hlb]; exact c1) c2
      have z0 := S4.out.2.2.1.but (by simp) c2 (fun e => S1.out.2.2.2 3 P.bx rfl e.symm)
      have z8 := S4.out.2.2.2.but (by simp) c2 (fun e => S3.out.2.2.2.2.2 3 P.bx rfl e.symm)
      have S5 := Lib.hid (⟨e1, (Grew.of_below S4.out.1).trans e2, z0, z8⟩ : _ ∧ Grew P q q wr _ ∧ _ ∧ _)
      have q8 : ((((w4.setCell ⟨P.bx, k * 4, none⟩ (.int .i64 u)).setCell ⟨P.bx, k * 4 + 1, none⟩ (.int .i64 t)).setCell ⟨P.bx, k * 4 + 2, none⟩ (.int .i64 (u + x.wd))).setCell ⟨P.bx, k * 4 + 3, none⟩ (.int .i64 (t + x.ht))).cell? ⟨b8, 1, none⟩ = some (.int .i64 (u + x.wd)) := z8.at' 1
      clear k4 hK4 hbo hbo' fz c1 c2 e1 e2 z0 z8 HKr HB0 HB7 HB8
      go_simp
      go_wp2_with fail
      go_roundw
      case rel => exact ⟨j + 1, by omega, by go_num, by rw [HS.out.2.1], Lib.hid ⟨by rw [HS.out.1]; exact S5.out.1, H.out.2.1.trans S5.out.2.1, S5.out.2.2.1⟩⟩
      case measure => simp [intOf]; omega
    · obtain rfl : j = n := by omega
      have he : s.row.take j = s.row := List.take_of_length_le (by rw [HN.out]; exact Nat.le_refl _)
      have hK := H.out.1
      rw [he] at hK
      have HZ := Lib.hid (⟨hK, H.out.2.1⟩ : Kat S wr P q its { s with box := setRow its t l s.row s.box } ∧ Grew P q q w wr)
      clear he hK
      go_wp2_with fail
      go_end0
      exact ⟨⟨_, rfl⟩, HZ.out.1, HZ.out.2⟩

end

end Go.Proofs.YtdibdfalahjmbaaGreat.Text

namespace Go.Proofs.YtdibdfalahjmbaaGreat.Text

open Go.RowKit Go.Sort Go.Proofs.YtdibdfalahjmbaaGreat.Rect Go.Proofs.YtdibdfalahjmbaaGreat.More Go.Proofs.YtdibdfalahjmbaaGreat.Shelf Go.Proofs.YtdibdfalahjmbaaGreat.Space Go.Proofs.YtdibdfalahjmbaaGreat.Place Go.Proofs.YtdibdfalahjmbaaGreat.Line

set_option linter.unusedVariables false

set_option linter.unusedSimpArgs false

theorem mine_zero {α : Type} {E : Enc α} {T : TypeId} {w : World} {B : Nat} {A : Option Addr} {n c : Nat} {xs : List α} (h : MineE E T w B A n c xs) : MineE E T w B A 0 c [] := by
  rcases h.2 with ⟨e, h0⟩ | ⟨g, cap, cur, e, -⟩
  · injection e with e1 e2 e3
    subst e1 e3
    exact noneE_mine _ T w B
  · injection e with e1 e2 e3
    subst e1 e3
    have := mine_trunc h (Nat.zero_le n)
    rw [List.take_zero] at this
    exact this

section

variable {S : World → (Nat → Prop) → Addr → List Fl → Prop} {w w5 : World} {P : Fast} {q : Loose} {its : List It} {s : Ly}

theorem app_but {α : Type} {E : Enc α} {T : TypeId} {B n m c' o : Nat} {A A' : Option Addr} {xs ys : List α} {kb : Nat} {v : Value} (hA : AppendedE E T w B A n xs ys m A' c' w5) {G : Nat → Prop} (h1 : ∀ j, blk A = some j → G j) (h2 : G kb) : But G w (w5.setCell ⟨kb, o, none⟩ v) := by
  have g := hA.2.1
  have kA : But G w w5 := ⟨g.os, g.tape, g.output, g.size, fun j hj hn => g.block j hj (fun e => hn (h1 j e.symm))⟩
  exact kA.trans (but_one w5 kb o v) (fun j _ e => by rw [e]; exact h2)

theorem app_row {α : Type} {E : Enc α} {T : TypeId} {B n m c' o : Nat} {A A' : Option Addr} {xs ys : List α} {kb : Nat} {v : Value} {vs : List Value} (hA : AppendedE E T w B A n xs ys m A' c' w5) (hr : RowAt w kb vs) (hv : 0 < vs.length) (ho : o < vs.length) (hne : blk A ≠ some kb) : RowAt (w5.setCell ⟨kb, o, none⟩ v) kb (vs.set o v) :=
  (hr.kept (hA.2.1.block kb (hr.lt hv) (fun e => hne e.symm))).set o v ho

theorem app_own {α : Type} {E : Enc α} {T : TypeId} {B n m c' o : Nat} {A A' : Option Addr} {xs ys : List α} {kb : Nat} {v : Value} (hA : AppendedE E T w B A n xs ys m A' c' w5) (hkb : kb < w.heap.size) (hne : blk A ≠ some kb) : MineE E T (w5.setCell ⟨kb, o, none⟩ v) B A' (n + m) c' (xs ++ ys) :=
  mineE_but hA.1 (but_one w5 kb o v) (fun j e g => by
    rcases hA.2.2 with x | x
    · rw [x] at e; rw [g] at e; exact hne e
    · rw [x] at e; injection e with e; omega)

theorem Kat.lined (hO : SpaceOk S) (h : Kat S w P q its s) {A' : Option Addr} {c' : Nat} (e : Mk × List Nat) (hA : AppendedE encL 47 w P.B q.A3 s.out.length (s.out.map fun e => lnOf e.1) [lnOf e.1] 1 A' c' w5) :
    Kat S (w5.setCell ⟨P.kb, 8, none⟩ (.slice A' (s.out.length + 1) c')) P { q with A3 := A', c3 := c' } its { s with out := s.out ++ [e] } ∧ Grew P q { q with A3 := A', c3 := c' } w (w5.setCell ⟨P.kb, 8, none⟩ (.slice A' (s.out.length + 1) c')) := by
  have hne : blk q.A3 ≠ some P.kb := fun x => absurd (h.ap 6 2 P.kb x rfl) (by decide)
  have hl : (s.out ++ [e]).length = s.out.length + 1 := by rw [List.length_append]; rfl
  refine h.listed hO (i := 6) (.inr (.inr rfl)) rfl rfl rfl (app_but hA (fun j x => .inl x) (.inr rfl)) (fun j k hj x => ?_) (fun k x => ?_) ?_ (fun _ => ⟨rfl, rfl, rfl⟩) (fun x => absurd x (by decide)) (fun _ => ⟨rfl, rfl, rfl⟩) (fun x => absurd x (by decide)) (fun x => absurd rfl x) (fun _ => ?_)
  · match j, hj, x with
    | 0, _, x => exact x
    | 1, _, x => exact x
    | 2, _, x => exact x
    | 3, _, x => exact x
    | 4, _, x => exact x
    | 5, _, x => exact x
    | 7, _, x => exact x
  · have x' : blk A' = some k := x
    rcases hA.2.2 with y | y
    · left; show blk q.A3 = some k; rw [← y]; exact x'
    · right; rw [y] at x'; injection x' with x'; omega
  · have := app_row (v := .slice A' (s.out.length + 1) c') (o := 8) hA h.kr (by simp) (by simp) hne
    unfold krow
    dsimp only
    rw [hl]
    exact this
  · dsimp only
    rw [hl, List.map_append]
    exact app_own hA h.klt hne

theorem Kat.onrow (hO : SpaceOk S) (h : Kat S w P q its s) {A' : Option Addr} {c' : Nat} (k : Nat) (hA : AppendedE encN 3 w P.B q.A1 s.row.length s.row [k] 1 A' c' w5) :
    Kat S (w5.setCell ⟨P.kb, 5, none⟩ (.slice A' (s.row.length + 1) c')) P { q with A1 := A', c1 := c' } its { s with row := s.row ++ [k] } ∧ Grew P q { q with A1 := A', c1 := c' } w (w5.setCell ⟨P.kb, 5, none⟩ (.slice A' (s.row.length + 1) c')) := by
  have hne : blk q.A1 ≠ some P.kb := fun x => absurd (h.ap 4 2 P.kb x rfl) (by decide)
  have hl : (s.row ++ [k]).length = s.row.length + 1 := by rw [List.length_append]; rfl
  refine h.listed hO (i := 4) (.inl rfl) rfl rfl rfl (app_but hA (fun j x => .inl x) (.inr rfl)) (fun j k hj x => ?_) (fun k x => ?_) ?_ (fun x => absurd rfl x) (fun _ => ?_) (fun _ => ⟨rfl, rfl, rfl⟩) (fun x => absurd x (by decide)) (fun _ => ⟨rfl, rfl, rfl⟩) (fun x => absurd x (by decide))
  · match j, hj, x with
    | 0, _, x => exact x
    | 1, _, x => exact x
    | 2, _, x => exact x
    | 3, _, x => exact x
    | 5, _, x => exact x
    | 6, _, x => exact x
    | 7, _, x => exact x
  · have x' : blk A' = some k := x
    rcases hA.2.2 with y | y
    · left; show blk q.A1 = some k; rw [← y]; exact x'
    · right; rw [y] at x'; injection x' with x'; omega
  · have := app_row (v := .slice A' (s.row.length + 1) c') (o := 5) hA h.kr (by simp) (by simp) hne
    unfold krow
    dsimp only
    rw [hl]
    exact this
  · dsimp only
    rw [hl]
    exact app_own hA h.klt hne

theorem Kat.waited (hO : SpaceOk S) (h : Kat S w P q its s) {A' : Option Addr} {c' : Nat} (k : Nat) (hA : AppendedE encN 3 w P.B q.A2 s.wait.length s.wait [k] 1 A' c' w5) :
    Kat S (w5.setCell ⟨P.kb, 6, none⟩ (.slice A' (s.wait.length + 1) c')) P { q with A2 := A', c2 := c' } its { s with wait := s.wait ++ [k] } ∧ Grew P q { q with A2 := A', c2 := c' } w (w5.setCell ⟨P.kb, 6, none⟩ (.slice A' (s.wait.length + 1) c')) := by
  have hne : blk q.A2 ≠ some P.kb := fun x => absurd (h.ap 5 2 P.kb x rfl) (by decide)
  have hl : (s.wait ++ [k]).length = s.wait.length + 1 := by rw [List.length_append]; rfl
  refine h.listed hO (i := 5) (.inr (.inl rfl)) rfl rfl rfl (app_but hA (fun j x => .inl x) (.inr rfl)) (fun j k hj x => ?_) (fun k x => ?_) ?_ (fun _ => ⟨rfl, rfl, rfl⟩) (fun x => absurd x (by decide)) (fun x => absurd rfl x) (fun _ => ?_) (fun _ => ⟨rfl, rfl, rfl⟩) (fun x => absurd x (by decide))
  · match j, hj, x with
    | 0, _, x => exact x
    | 1, _, x => exact x
    | 2, _, x => exact x
    | 3, _, x => exact x
    | 4, _, x => exact x
    | 6, _, x => exact x
    | 7, _, x => exact x
  · have x' : blk A' = some k := x
    rcases hA.2.2 with y | y
    · left; show blk q.A2 = some k; rw [← y]; exact x'
    · right; rw [y] at x'; injection x' with x'; omega
  · have := app_row (v := .slice A' (s.wait.length + 1) c') (o := 6) hA h.kr (by simp) (by simp) hne
    unfold krow
    dsimp only
    rw [hl]
    exact this
  · dsimp only
    rw [hl]
    exact app_own hA h.klt hne

theorem Kat.norow (hO : SpaceOk S) (h : Kat S w P q its s) : Kat S (w.setCell ⟨P.kb, 5, none⟩ (.slice q.A1 0 q.c1)) P q its { s with row := [] } ∧ Grew P q q w (w.setCell ⟨P.kb, 5, none⟩ (.slice q.A1 0 q.c1)) := by
  have hne : blk q.A1 ≠ some P.kb := fun x => absurd (h.ap 4 2 P.kb x rfl) (by decide)
  refine h.listed hO (i := 4) (.inl rfl) rfl rfl rfl (but_wide (but_one w P.kb 5 _) (fun j e => .inr e)) (fun j k hj x => x) (fun k x => .inl x) ?_ (fun x => absurd rfl x) (fun _ => ?_) (fun _ => ⟨rfl, rfl, rfl⟩) (fun x => absurd x (by decide)) (fun _ => ⟨rfl, rfl, rfl⟩) (fun x => absurd x (by decide))
  · exact h.kr.set 5 (.slice q.A1 0 q.c1) (by simp)
  · exact mineE_but (mine_zero h.ro) (but_one w P.kb 5 _) (fun j e g => hne (by rw [← g]; exact e))

theorem Kat.nowait (hO : SpaceOk S) (h : Kat S w P q its s) : Kat S (w.setCell ⟨P.kb, 6, none⟩ (.slice q.A2 0 q.c2)) P q its { s with wait := [] } ∧ Grew P q q w (w.setCell ⟨P.kb, 6, none⟩ (.slice q.A2 0 q.c2)) := by
  have hne : blk q.A2 ≠ some P.kb := fun x => absurd (h.ap 5 2 P.kb x rfl) (by decide)
  refine h.listed hO (i := 5) (.inr (.inl rfl)) rfl rfl rfl (but_wide (but_one w P.kb 6 _) (fun j e => .inr e)) (fun j k hj x => x) (fun k x => .inl x) ?_ (fun _ => ⟨rfl, rfl, rfl⟩) (fun x => absurd x (by decide)) (fun x => absurd rfl x) (fun _ => ?_) (fun _ => ⟨rfl, rfl, rfl⟩) (fun x => absurd x (by decide))
  · exact h.kr.set 6 (.slice q.A2 0 q.c2) (by simp)
  · exact mineE_but (mine_zero h.wa) (but_one w P.kb 6 _) (fun j e g => hne (by rw [← g]; exact e))

theorem stK_norow (hO : SpaceOk S) {W : World} {ss : Nat → Ly} {st : Nat} {G : Nat → Prop} (h : stK S W P q its ss st w G) (hn : ss (st + 1) = { ss st with row := [] }) :
    stK S W P q its ss (st + 1) (w.setCell ⟨P.kb, 5, .none⟩ (.slice q.A1 0 q.c1)) G ∧ w.heap.size ≤ (w.setCell ⟨P.kb, 5, .none⟩ (.slice q.A1 0 q.c1)).heap.size ∧ ∀ k, G k → (w.setCell ⟨P.kb, 5, .none⟩ (.slice q.A1 0 q.c1)).heap[k]? = w.heap[k]? := by
  obtain ⟨g0, ⟨F', g1, g2, g3⟩, g4⟩ := h
  obtain ⟨a1, a2⟩ := g1.norow hO
  have hs := a2.but.size
  refine ⟨⟨Nat.le_trans g0 hs, ⟨F', by rw [hn]; exact a1, g2.trans a2, g3⟩, fun k hk => ⟨(g4 k hk).1, Nat.lt_of_lt_of_le (g4 k hk).2 hs⟩⟩, hs, fun k hk => ?_⟩
  exact heap_setCell_other _ ⟨P.kb, 5, .none⟩ k _ (fun e => g3 k hk 2 e)

end

end Go.Proofs.YtdibdfalahjmbaaGreat.Text
