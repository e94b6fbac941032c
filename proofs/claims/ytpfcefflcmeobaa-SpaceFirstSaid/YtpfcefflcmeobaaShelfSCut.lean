/- The contract of cut: a shelf is made to begin at a row. -/
import Derived.Test.YtpfcefflcmeobaaShelfSIns2
import Derived.Test.YtpfcefflcmeobaaMoreToldF
namespace Go.Proofs.Ytpfcefflcmeobaa.Shelf
open Go.RowKit Go.Sort Go.Proofs.Ytpfcefflcmeobaa.Rect Go.Proofs.Ytpfcefflcmeobaa.More
set_option linter.unusedVariables false

/-- Nothing that lay there is turned, but in some blocks. -/
structure But (S : Nat → Prop) (w w' : World) : Prop where
  os : w'.os = w.os
  tape : w'.tape = w.tape
  output : w'.output = w.output
  size : w.heap.size ≤ w'.heap.size
  block : ∀ k, k < w.heap.size → ¬ S k → w'.heap[k]? = w.heap[k]?

section
variable {S S' : Nat → Prop} {w w' w'' : World}

theorem But.of_below (h : Below w.heap.size w w') : But S w w' := ⟨h.os, h.tape, h.output, h.size, fun k hk _ => h.block k hk⟩
theorem But.of_grown {g : Nat} (h : w.grownBy w' (some g)) (hg : S g) : But S w w' := ⟨h.os, h.tape, h.output, h.size, fun k hk hs => h.block k hk (fun e => hs (by injection e with e; rw [e]; exact hg))⟩
theorem But.trans (h : But S w w') (k : But S' w' w'') (hs : ∀ j, j < w.heap.size → S' j → S j) : But S w w'' :=
  ⟨k.os.trans h.os, k.tape.trans h.tape, k.output.trans h.output, Nat.le_trans h.size k.size, fun j hj hn => (k.block j (Nat.lt_of_lt_of_le hj h.size) (fun q => hn (hs j hj q))).trans (h.block j hj hn)⟩
theorem But.below {B : Nat} (h : But S w w') (hB : B ≤ w.heap.size) (hs : ∀ k, S k → B ≤ k) : Below B w w' :=
  ⟨h.os, h.tape, h.output, h.size, fun k hk => h.block k (by omega) (fun q => by have := hs k q; omega)⟩
theorem But.cell (h : But S w w') {b o : Nat} (hb : b < w.heap.size) (hs : ¬ S b) : w'.cell? ⟨b, o, none⟩ = w.cell? ⟨b, o, none⟩ := World.cell?_of_block (a := ⟨b, o, none⟩) (h.block b hb hs)
theorem But.frozen (h : But S w w') {b o : Nat} (hb : b < w.heap.size) (hs : ¬ S b) : w'.frozen? ⟨b, o, none⟩ = w.frozen? ⟨b, o, none⟩ := World.frozen?_of_block (a := ⟨b, o, none⟩) (h.block b hb hs)
theorem But.set (b o : Nat) (v : Value) (hs : S b) : But S w (w.setCell ⟨b, o, none⟩ v) :=
  ⟨rfl, rfl, rfl, by simp [World.setCell], fun k _ hk => Below.heap_setCell _ _ _ k (fun e => hk (by rw [e]; exact hs))⟩

end

/-- The blocks of a list. -/
abbrev two (g pb : Nat) : Nat → Prop := fun k => k = g ∨ k = pb

/-- The list's slice is stored. -/
theorem lst_set {w : World} {B pb g n c : Nat} {xs : List Sh} {u : Value} (hb : B ≤ pb) (hc : w.cell? ⟨pb, 0, none⟩ = some u) (hf : w.frozen? ⟨pb, 0, none⟩ = false) (hne : g ≠ pb) (hm : MineE encSh 83 w B (some ⟨g, 0, none⟩) n c xs) :
    Lst (w.setCell ⟨pb, 0, none⟩ (.slice (some ⟨g, 0, none⟩) n c)) B pb g n c xs :=
  ⟨hb, World.cell?_setCell_same _ _ _ hc, by rw [World.frozen?_setCell]; exact hf, hne,
    MineE.kept hm (row := some pb) ⟨rfl, rfl, rfl, by simp [World.setCell], fun k _ hk => Below.heap_setCell _ _ _ k (fun e => hk (by rw [e]))⟩ (fun k hk e => by
      simp only [blk, Option.some.injEq] at hk e
      omega)⟩

/-- What cut leaves. -/
def Cutted (w : World) (B pb g n : Nat) (ys : List Sh) (i : Nat) (r : Ending) (w' : World) : Prop :=
  ∃ g' n' c', r = .returned (.int .i64 (i : Int)) ∧ Lst w' B pb g' n' c' ys ∧ But (two g pb) w w' ∧ n' ≤ n + 1 ∧ (g' = g ∨ w.heap.size ≤ g')

set_option maxRecDepth 100000 in
set_option maxHeartbeats 600000 in
theorem cut_same (pb g n c B k : Nat) (xs : List Sh) (y : Int) (x : Sh) (w : World) (hl : Lst w B pb g n c xs) (hn : n < 1000000) (ht : Thr xs y (k + 1)) (hx : xs[k]? = some x) (e : x.1 = y) :
    Calls Try.prog 58 #[.pointer (some ⟨pb, 0, none⟩), .int .i64 y] w (Cutted w B pb g n xs k) := by
  have HO := Lib.hid (of_next pb g n c B k xs y w hl (by omega) ht)
  have HL := Lib.hid hl
  have hkn : k < n := by have := ht.1; have := hl.len; omega
  have hki : (k : Int) < (n : Int) := by omega
  have hk0 : ¬ (k : Int) < 0 := by omega
  have HX := Lib.hid hx
  obtain ⟨x1, x2, x3⟩ := x
  dsimp only at e
  subst e
  clear hl ht hx
  go_enter Try.func58, Try.ntmps58
  go_upto_region 2 with (first
    | (go_at_call 45; refine HO.out.mono ?_; rintro e w1 ⟨rfl, k1⟩; have hp := (HL.out.below k1).cell; obtain ⟨c0, c1, c2⟩ := (HL.out.below k1).at k _ HX.out; have K1 := Lib.hid k1; clear k1))
  go_wp2_with fail
  go_ret
  exact ⟨g, n, c, rfl, HL.out.below (thru K1.out (ba1 _ _)), But.of_below (thru K1.out (ba1 _ _)), by omega, .inl rfl⟩

set_option maxRecDepth 100000 in
set_option maxHeartbeats 1000000 in
theorem cut_new (pb g n c B k : Nat) (xs : List Sh) (y : Int) (x : Sh) (w : World) (hl : Lst w B pb g n c xs) (hn : n < 1000000) (hB : B ≤ w.heap.size) (ht : Thr xs y (k + 1)) (hx : xs[k]? = some x) (e : ¬ x.1 = y) :
    Calls Try.prog 58 #[.pointer (some ⟨pb, 0, none⟩), .int .i64 y] w (Cutted w B pb g n (xs.take (k + 1) ++ (y, x.2) :: xs.drop (k + 1)) (k + 1)) := by
  have HO := Lib.hid (of_next pb g n c B k xs y w hl (by omega) ht)
  have HL := Lib.hid hl
  have HB := Lib.hid hB
  have hkn : k < n := by have := ht.1; have := hl.len; omega
  have hki : (k : Int) < (n : Int) := by omega
  have hk0 : ¬ (k : Int) < 0 := by omega
  have hw1 : IntKind.i64.wrap ((k : Int) + 1) = (k : Int) + 1 := IntWalk.i64_in _ (by omega)
  have HX := Lib.hid hx
  have HN := Lib.hid (⟨hn, hkn⟩ : n < 1000000 ∧ k < n)
  obtain ⟨x1, x2, x3⟩ := x
  dsimp only at e
  clear hl ht hx hB
  go_enter Try.func58, Try.ntmps58
  go_upto_region 2 with (first
    | (go_at_call 45; refine HO.out.mono ?_; rintro e w1 ⟨rfl, k1⟩; have hp := (HL.out.below k1).cell; obtain ⟨c0, c1, c2⟩ := (HL.out.below k1).at k _ HX.out; have K1 := Lib.hid k1; clear k1))
  go_upto_region 6 with fail
  generalize hW : World.alloc w1 _ = W
  obtain ⟨s, hs⟩ : ∃ s, w1.heap.size = s := ⟨_, rfl⟩
  have hkW : Below w1.heap.size w1 W := by rw [← hW]; exact ba1 _ _
  have e0 : W.cell? ⟨s, 0, none⟩ = some (.int .i64 y) := by rw [← hW, ← hs]; simp [go_sem]
  have e1 : W.cell? ⟨s, 1, none⟩ = some (.int .i64 x2) := by rw [← hW, ← hs]; simp [go_sem]
  have e2 : W.cell? ⟨s, 2, none⟩ = some (.int .i64 x3) := by rw [← hW, ← hs]; simp [go_sem]
  rw [hs]
  have KW := Lib.hid (thru K1.out hkW)
  clear hW hkW hs hp c0 c1 c2
  have HT := Lib.hid (⟨e0, e1, e2⟩ : W.cell? ⟨s, 0, none⟩ = some (.int .i64 y) ∧ W.cell? ⟨s, 1, none⟩ = some (.int .i64 x2) ∧ W.cell? ⟨s, 2, none⟩ = some (.int .i64 x3))
  clear e0 e1 e2
  refine wp_region_told_first [.val (.pointer (some ⟨pb, 0, none⟩)), .val (.pointer (some ⟨pb, 0, none⟩)), .val (.pointer (some ⟨pb, 0, none⟩)), .val (.pointer (some ⟨pb, 0, none⟩)), .val (.slice (some ⟨g, 0, none⟩) n c), .val (.int .i64 (k : Int)), .val (.int .i64 ((k : Int) + 1)), .val (.agg #[.int .i64 y, .int .i64 x2, .int .i64 x3]), .row (.cells #[.int .i64 y, .int .i64 x2, .int .i64 x3] 83) 1 1] (by kernel_rfl) (by kernel_rfl) (by kernel_rfl) (v0 := .pointer (some ⟨pb, 0, none⟩)) rfl rfl (by kernel_rfl) (by kernel_rfl) (.inl ⟨rfl, fun w => by go_simp⟩) (fun _ _ _ h => h) ?_ ?_
  · simp only [Told.fill, Told.Leave.value]
    refine ⟨?_, ?_, ?_, ?_, ?_, ?_, ?_, ?_, ?_, trivial⟩
    · intro g w' hw hk
      go_simp
      exact ⟨rfl, rfl⟩
    · intro g w' hw hk
      go_simp
      exact ⟨rfl, rfl⟩
    · intro g w' hw hk
      go_simp
      exact ⟨rfl, rfl⟩
    · intro g w' hw hk
      go_simp
      exact ⟨rfl, rfl⟩
    · intro g w' hw hk
      have hc := (HL.out.below (thru KW.out hw)).cell
      go_simp
      exact ⟨rfl, rfl⟩
    · intro g w' hw hk
      go_simp
      exact ⟨rfl, rfl⟩
    · intro g w' hw hk
      go_simp
      exact ⟨rfl, rfl⟩
    · intro g w' hw hk
      have q0 := (hw.cell (p := ⟨s, 0, none⟩) (block_lt_of_cell HT.out.1)).trans HT.out.1
      have q1 := (hw.cell (p := ⟨s, 1, none⟩) (block_lt_of_cell HT.out.2.1)).trans HT.out.2.1
      have q2 := (hw.cell (p := ⟨s, 2, none⟩) (block_lt_of_cell HT.out.2.2)).trans HT.out.2.2
      go_simp
      exact ⟨rfl, rfl⟩
    · intro g w' hw hk
      go_simp
  · intro gg w4 k4 hbox hap
    obtain ⟨g4, h4⟩ := hbox 8 _ _ rfl rfl
    clear hbox hap
    simp only [Told.fill, Told.Leave.value, List.length_cons, List.length_nil, List.drop_succ_cons, List.drop_zero]
    generalize gg 8 = r at g4 h4 ⊢
    have K4 := Lib.hid (thru KW.out k4)
    have L4 := Lib.hid (HL.out.below K4.out)
    have hne : r ≠ g := by have := HL.out.glt.2; have := KW.out.size; omega
    have HI := Lib.hid (insert_any g n c B (k + 1) r xs (y, (x2, x3)) w4 L4.out.row (by have := HN.out.2; omega) HN.out.1 (by have := K4.out.size; have := HB.out; omega) h4 hne)
    clear h4 g4 k4 hne HT KW
    go_simp
    go_wp2_with (first
      | (go_at_call 60; refine HI.out.mono ?_; rintro e w5 ⟨g', c', rfl, hm, hg, hgg⟩; have hfz := (hg.frozen_far ⟨pb, 0, none⟩ L4.out.lt (by simp; exact Ne.symm L4.out.ne)).trans L4.out.frz; have hcl := hg.cell L4.out.cell (by simp; exact Ne.symm L4.out.ne); have M5 := Lib.hid hm; have G5 := Lib.hid (⟨hg, hgg⟩ : w4.grownBy w5 (some g) ∧ (g' = g ∨ g' = w4.heap.size)); clear hm hg hgg))
    go_ret
    have hw4 : w.heap.size ≤ w4.heap.size := K4.out.size
    have hne2 : g' ≠ pb := by
      rcases G5.out.2 with e | e
      · rw [e]; exact HL.out.ne
      · have := L4.out.lt; omega
    refine ⟨g', n + 1, c', rfl, lst_set HL.out.hb hcl hfz hne2 M5.out, ?_, Nat.le_refl _, ?_⟩
    · refine But.trans (But.trans (But.of_below K4.out) (But.of_grown (S := two g pb) G5.out.1 (.inl rfl)) (fun _ _ h => h)) (But.set (S := two g pb) pb 0 _ (.inr rfl)) (fun _ _ h => h)
    · rcases G5.out.2 with e | e
      · exact .inl e
      · exact .inr (by omega)

theorem cut_any (pb g n c B k i : Nat) (xs ys : List Sh) (y : Int) (w : World) (hl : Lst w B pb g n c xs) (hn : n < 1000000) (hB : B ≤ w.heap.size) (h1 : 1 ≤ k) (ht : Thr xs y k) (hc : cutL xs y k = (ys, i)) :
    Calls Try.prog 58 #[.pointer (some ⟨pb, 0, none⟩), .int .i64 y] w (Cutted w B pb g n ys i) := by
  obtain ⟨q, rfl⟩ : ∃ q, k = q + 1 := ⟨k - 1, by omega⟩
  obtain ⟨x, hx⟩ : ∃ x, xs[q]? = some x := ⟨_, List.getElem?_eq_getElem (by have := ht.1; omega)⟩
  unfold cutL at hc
  rw [Nat.add_sub_cancel, hx] at hc
  dsimp only at hc
  by_cases e : x.1 = y
  · rw [if_pos e] at hc
    injection hc with a b
    subst a b
    exact cut_same pb g n c B q xs y x w hl hn ht hx e
  · rw [if_neg e] at hc
    injection hc with a b
    subst a b
    exact cut_new pb g n c B q xs y x w hl hn hB ht hx e

end Go.Proofs.Ytpfcefflcmeobaa.Shelf
