/- Texts of this proof that follow each other, in one file. -/
import Derived.Test.YtdibdfalahjmbaaGreatPart8
import Derived.Test.YtdibdfalahjmbaaGreatPart7
import Derived.Laws.StructEq
import Derived.Test.YtdibdfalahjmbaaGreatPart3
import Derived.Test.YtdibdfalahjmbaaGreatPart5
namespace Go.Proofs.YtdibdfalahjmbaaGreat.More

open Go.RowKit Go.Sort Go.Proofs.YtdibdfalahjmbaaGreat.Told

def sink1 (md : Region.Mode) (ops : Array Oper) (n : Nat) : Bool :=
  (List.range n).all fun i => decide (i = 0) || (List.range (n + 1)).any fun j => decide (i < j) && Region.waitsFor md ops j i

theorem tail_waits1 {ops : Array Oper} {md : Region.Mode} {n : Nat} {listed : Array Bool} (hs : sink1 md ops n = true) (hc : Region.chainB md ops n = true) (hn : n < ops.size) (inv : HeadInv md ops n listed) :
    ∀ (d i : Nat), n - i = d → i < n → i ≠ 0 → listed.getD i true = false → ∀ t, n ≤ t → t ∉ Region.ready md ops listed := by
  -- who waits for one that has not come up is neither ready nor has it come up
  have late : ∀ j i, Region.waitsFor md ops j i = true → listed.getD i true = false → j ∉ Region.ready md ops listed ∧ listed.getD j false = false := by
    intro j i hw hi
    obtain ⟨oj, hj, e, he, hb, rfl⟩ := Region.waitsFor_spec hw
    have hi' := getD_both hi
    refine ⟨fun hr => ?_, ?_⟩
    · obtain ⟨-, o, ho, hall⟩ := mem_ready.1 hr
      obtain rfl : oj = o := Option.some.inj (hj.symm.trans ho)
      exact absurd (hall e he hb) (by simp [hi'])
    · cases hl : listed.getD j false with
      | false => rfl
      | true => exact absurd (inv.closed j oj hj hl e he hb) (by simp [hi'])
  intro d
  induction d using Nat.strongRecOn with
  | _ d ih =>
    intro i hd hi h0 hun t ht hr
    have htl : t < ops.size := by
      obtain ⟨-, o, ho, -⟩ := mem_ready.1 hr
      exact (Array.getElem?_eq_some_iff.1 ho).1
    rcases Nat.lt_or_ge n t with hnt | hnt
    · have h1 := List.all_eq_true.1 hc t (List.mem_range.2 htl)
      simp only [Bool.or_eq_true, decide_eq_true_eq] at h1
      exact (late t (t - 1) (h1.resolve_left (by omega)) (inv.tail (t - 1) (by omega) (by omega))).1 hr
    · obtain rfl : t = n := by omega
      have h1 := List.all_eq_true.1 hs i (List.mem_range.2 hi)
      simp only [Bool.or_eq_true, decide_eq_true_eq, List.any_eq_true, Bool.and_eq_true, List.mem_range] at h1
      obtain ⟨j, hj, hij, hw⟩ := h1.resolve_left h0
      obtain ⟨k1, k2⟩ := late j i hw hun
      rcases Nat.lt_or_ge j t with hjt | hjt
      · exact ih (t - j) (by omega) j rfl hjt (by omega) (getD_in (by rw [inv.size]; omega) k2) t (Nat.le_refl _) hr
      · obtain rfl : j = t := by omega
        exact k1 hr

theorem getD_set_true {listed : Array Bool} (h : listed.getD 0 false = true) (j : Nat) : (listed.setIfInBounds j true).getD 0 false = true := by
  by_cases e : j = 0
  · subst e
    have : 0 < listed.size := by
      rcases Nat.eq_zero_or_pos listed.size with h0 | h0
      · rw [Array.getD_eq_getD_getElem?, Array.getElem?_eq_none (by omega)] at h; cases h
      · exact h0
    simp [this]
  · rw [getD_set_ne false e]; exact h

section

variable {P : Program} {l : List Oper} {a0 : Act} {W : World}

theorem wp_region_told_first {id : Nat} {Q : Exit → Act → World → Prop} (ys : List Leave) (hm : P.follows .mixedOrders = true)
    (hB : (Region.noSelect l.toArray && decide (ys.length < l.toArray.size) && sink1 .any l.toArray ys.length && Region.chainB .any l.toArray ys.length &&
      Region.seqB .any l.toArray (l.toArray.size - ys.length) ys.length ((List.replicate ys.length true ++ List.replicate (l.toArray.size - ys.length) false).toArray) && headB l ys.length a0.tmps.size) = true)
    (hgd : guardsB l ys ys = true) {o0 : Oper} {v0 : Value} (h0o : l[0]? = some o0) (h0y : ys[0]? = some (.val v0))
    (h0f : Region.free .any l.toArray (Array.replicate l.toArray.size false) 0 = true) (h0r : (Region.ready .any l.toArray (Array.replicate l.toArray.size false)).contains 0 = true) (h0Y : Yields P l.toArray o0 v0 a0)
    (h0Q : ∀ c a w, Q (.panic c) (a.put o0.dst v0) w → Q (.panic c) a w)
    (hall : allLeave P (fun g => fill g 0 l ys a0) ys W l ys)
    (hend : ∀ (g : Nat → Nat) (w' : World), Below W.heap.size W w' → (∀ i y b, ys[i]? = some y → y.obj = some b → W.heap.size ≤ g i ∧ w'.heap[g i]? = some b) →
      (∀ i j y z b c, i ≠ j → ys[i]? = some y → ys[j]? = some z → y.obj = some b → z.obj = some c → g i ≠ g j) → wpList P l.toArray Q (l.drop ys.length) (fill g 0 l ys a0) w') :
    (Code.region id l.toArray true).wp P Q a0 W := by
  simp only [Bool.and_eq_true, decide_eq_true_eq] at hB
  obtain ⟨⟨⟨⟨⟨hsel, hn⟩, hs⟩, hc⟩, hseq⟩, hhead⟩ := hB
  have ok := headOk hhead
  have hn' : ys.length < l.length := by simpa using hn
  have hdl : (l.drop ys.length).length = l.toArray.size - ys.length := by simp
  refine wp_region_any hm ?_
  have key : ∀ (f : Nat) (listed : Array Bool) (a : Act) (w : World) (g : Nat → Nat), HeadInv .any l.toArray ys.length listed → unlisted listed = f + (l.toArray.size - ys.length) → Telling l ys a0 W g listed a w → listed.getD 0 false = true →
      wpAny P .any l.toArray Q (f + (l.toArray.size - ys.length)) listed a w := by
    intro f
    induction f with
    | zero =>
      intro listed a w g inv hu hb hz0
      have hls : listed.size = l.length := by have := inv.size; simpa using this
      -- all of the head has come up
      have hcount : listed.toList.countP (fun b => !b) = l.length - ys.length := by
        unfold unlisted at hu; simpa using hu
      have htail : listed.toList.drop ys.length = List.replicate (l.length - ys.length) false := by
        refine List.ext_getElem (by simp [hls]) fun k h1 h2 => ?_
        have hk : ys.length + k < listed.size := by simp at h1; omega
        have := inv.tail (ys.length + k) (by omega) (by rw [← inv.size]; exact hk)
        simpa [hk] using this
      have hsplit : listed.toList = listed.toList.take ys.length ++ List.replicate (l.length - ys.length) false := by rw [← htail, List.take_append_drop]
      have hh : (listed.toList.take ys.length).countP (fun b => !b) = 0 := by
        rw [hsplit, List.countP_append] at hcount
        have hr : (List.replicate (l.length - ys.length) false).countP (fun b => !b) = l.length - ys.length := by rw [List.countP_replicate]; simp
        rw [hr] at hcount
        omega
      have hhead : listed.toList.take ys.length = List.replicate ys.length true := by
        have hlen : (listed.toList.take ys.length).length = ys.length := by simp [hls]; omega
        rw [List.eq_replicate_iff]
        refine ⟨hlen, fun b hb => ?_⟩
        have := List.countP_eq_zero.1 hh b hb
        simpa using this
      have hlisted : listed = (List.replicate ys.length true ++ List.replicate (l.toArray.size - ys.length) false).toArray := by
        have h1 : listed = listed.toList.toArray := by simp
        rw [h1, hsplit, hhead]
        simp
      have hall' : ∀ i, i < ys.length → listed.getD i false = true := by
        intro i hi
        rw [hlisted, Array.getD_eq_getD_getElem?, List.getElem?_toArray, List.getElem?_append_left (by simpa using hi)]
        simp [hi]
      have hfull := hb.full ok hall'
      have := wpAny_of_seq (P := P) (ops := l.toArray) (md := .any) (Q' := Q) (l.drop ys.length) ys.length listed a w (fun j => by simp [List.getElem?_drop]) (by rw [hdl, hlisted]; exact hseq) (by
        rw [hfull]
        exact hend g w hb.below (fun i y b hi hy => hb.boxes i y b hi hy (hall' i (List.getElem?_eq_some_iff.1 hi).1)) (fun i j y z b c hij hi hj hy hz => hb.apart i j y z b c hij hi hj hy hz (hall' i (List.getElem?_eq_some_iff.1 hi).1) (hall' j (List.getElem?_eq_some_iff.1 hj).1)))
      rwa [hdl, ← Nat.zero_add (l.toArray.size - ys.length)] at this
    | succ f ih =>
      intro listed a w g inv hu hb hz0
      -- the first one of the head that has not come up
      have hex : ∃ i, i < ys.length ∧ listed.getD i false = false := by
        refine Classical.byContradiction fun hno => ?_
        have hno' : ∀ i, i < ys.length → listed.getD i false = true := fun i hi => by
          cases h : listed.getD i false with
          | true => rfl
          | false => exact absurd ⟨i, hi, h⟩ hno
        have hls : listed.size = l.length := by have := inv.size; simpa using this
        have h0 : (listed.toList.take ys.length).countP (fun b => !b) = 0 := by
          rw [List.countP_eq_zero]
          intro b hb'
          obtain ⟨k, hk, rfl⟩ := List.getElem_of_mem hb'
          have hk1 : k < ys.length := by simp at hk; omega
          have hk2 : k < listed.size := by omega
          have := hno' k hk1
          simpa [hk2] using this
        have h1 := List.countP_le_length (p := fun b => !b) (l := listed.toList.drop ys.length)
        have h2 : unlisted listed = (listed.toList.take ys.length).countP (fun b => !b) + (listed.toList.drop ys.length).countP (fun b => !b) := by
          unfold unlisted; rw [← List.countP_append, List.take_append_drop]
        simp only [List.length_drop, Array.length_toList, hls] at h1
        have h3 : l.toArray.size = l.length := by simp
        omega
      have hleast : ∀ m : Nat, (∃ i, i < m ∧ i < ys.length ∧ listed.getD i false = false) → ∃ i, i < ys.length ∧ listed.getD i false = false ∧ ∀ j, j < i → listed.getD j false = true := by
        intro m
        induction m with
        | zero => rintro ⟨i, hi, _⟩; omega
        | succ m ih2 =>
          rintro ⟨i, hi, hiy, hil⟩
          by_cases hsm : ∃ j, j < m ∧ j < ys.length ∧ listed.getD j false = false
          · exact ih2 hsm
          · refine ⟨i, hiy, hil, fun j hj => ?_⟩
            cases h : listed.getD j false with
            | true => rfl
            | false => exact absurd ⟨j, by omega, by omega, h⟩ hsm
      obtain ⟨i, hi, hil, hlt⟩ := hleast ys.length (by obtain ⟨i, h1, h2⟩ := hex; exact ⟨i, h1, h1, h2⟩)
      have hsize : ∀ k, k < ys.length → k < listed.size := fun k hk => by rw [inv.size]; omega
      have hready : i ∈ Region.ready .any l.toArray listed := by
        obtain ⟨o, ho⟩ := ok.there i hi
        exact mem_ready.2 ⟨getD_in (hsize i hi) hil, o, by simpa using ho, fun e he hbd => hlt _ (ok.back i o hi ho e he hbd)⟩
      rw [show f + 1 + (l.toArray.size - ys.length) = (f + (l.toArray.size - ys.length)) + 1 by omega]
      refine ⟨fun h0 => (by rw [h0] at hready; cases hready), fun j hj => ?_⟩
      have hjn : j < ys.length := by
        rcases Nat.lt_or_ge j ys.length with h | h
        · exact h
        · exact absurd hj (tail_waits1 hs hc hn inv _ i rfl hi (fun e => by rw [e, hz0] at hil; cases hil) (getD_in (hsize i hi) hil) j h)
      refine wpOp_mono (fun a' w' ⟨g', hb'⟩ => ih _ a' w' g' (inv.set hj hjn) ?_ hb' (getD_set_true hz0 j)) (hb.step ok hsel hgd hall inv.size hjn hj)
      have := unlisted_set (mem_ready.1 hj).1
      omega
  have inv0 : HeadInv .any l.toArray ys.length (Array.replicate l.toArray.size false) :=
    ⟨by simp, fun j oj _ hl => (by rw [getD_replicate_false] at hl; cases hl), fun t _ ht => getD_in (by simpa using ht) (getD_replicate_false _ _)⟩
  have hu : unlisted (Array.replicate l.toArray.size false) = ys.length + (l.toArray.size - ys.length) := by
    unfold unlisted
    rw [Array.toList_replicate, List.countP_replicate]
    simp
    omega
  have hys : 0 < ys.length := (List.getElem?_eq_some_iff.1 h0y).1
  have T0 : Telling l ys a0 W (fun _ => 0) (Array.replicate l.toArray.size false) a0 { W with drawn := W.drawn + 1 } :=
    ⟨rfl, rfl, ⟨rfl, rfl, rfl, Nat.le_refl _, fun _ _ => rfl⟩, fun _ _ => rfl, fun i o y d _ _ hl => (by rw [getD_replicate_false] at hl; cases hl), fun i y b _ _ hl => (by rw [getD_replicate_false] at hl; cases hl),
      fun i j y z b c _ _ _ _ _ hl => (by rw [getD_replicate_false] at hl; cases hl)⟩
  have hl0 : 0 < l.length := by omega
  have T1 := T0.plain ok hys h0o h0y (by simpa using hl0) (getD_replicate_false _ _) (v := v0) rfl rfl (Below.refl _ _)
  have hr0 : 0 ∈ Region.ready .any l.toArray (Array.replicate l.toArray.size false) := by simpa using h0r
  have hun := unlisted_set (mem_ready.1 hr0).1
  have := key (ys.length - 1) _ _ _ _ (inv0.set hr0 hys) (by omega) T1 (by simp [hl0])
  have h3 := wpAny_take (P := P) (md := .any) (Q := Q) (fuel := ys.length - 1 + (l.toArray.size - ys.length)) (i := 0) (oi := o0) (v := v0) (listed := Array.replicate l.toArray.size false) (a := a0) (w := { W with drawn := W.drawn + 1 }) (by simpa using h0o) hsel h0f h0r h0Q h0Y this
  rwa [show ys.length - 1 + (l.toArray.size - ys.length) + 1 = l.toArray.size by omega] at h3

end

end Go.Proofs.YtdibdfalahjmbaaGreat.More

namespace Go.Proofs.YtdibdfalahjmbaaGreat.Shelf

open Go.RowKit Go.Sort Go.Proofs.YtdibdfalahjmbaaGreat.Rect Go.Proofs.YtdibdfalahjmbaaGreat.More

set_option linter.unusedVariables false

structure But (S : Nat → Prop) (w w' : World) : Prop where
  os : w'.os = w.os
  tape : w'.tape = w.tape
  output : w'.output = w.output
  size : w.heap.size ≤ w'.heap.size
  block : ∀ k, k < w.heap.size → ¬ S k → w'.heap[k]? = w.heap[k]?

section

variable {S S' : Nat → Prop} {w w' w'' : World}

theorem But.of_below (h : Below w.heap.size w w') : But S w w' := ⟨h.os, h.tape, h.output, h.size, fun k hk _ => h.block k hk⟩

theorem But.of_grown {g : Nat} (h : w.grownBy w' (some g)) (hg : S g) : But S w w' := ⟨h.os, h.tape, h.output, h.size, fun k hk hs => h.block k hk (fun e => hs (by injection e with e; rw [e]; exact hg))⟩

theorem But.trans (h : But S w w') (k : But S' w' w'') (hs : ∀ j, j < w.heap.size → S' j → S j) : But S w w'' :=
  ⟨k.os.trans h.os, k.tape.trans h.tape, k.output.trans h.output, Nat.le_trans h.size k.size, fun j hj hn => (k.block j (Nat.lt_of_lt_of_le hj h.size) (fun q => hn (hs j hj q))).trans (h.block j hj hn)⟩

theorem But.below {B : Nat} (h : But S w w') (hB : B ≤ w.heap.size) (hs : ∀ k, S k → B ≤ k) : Below B w w' :=
  ⟨h.os, h.tape, h.output, h.size, fun k hk => h.block k (by omega) (fun q => by have := hs k q; omega)⟩

theorem But.cell (h : But S w w') {b o : Nat} (hb : b < w.heap.size) (hs : ¬ S b) : w'.cell? ⟨b, o, none⟩ = w.cell? ⟨b, o, none⟩ := World.cell?_of_block (a := ⟨b, o, none⟩) (h.block b hb hs)

theorem But.frozen (h : But S w w') {b o : Nat} (hb : b < w.heap.size) (hs : ¬ S b) : w'.frozen? ⟨b, o, none⟩ = w.frozen? ⟨b, o, none⟩ := World.frozen?_of_block (a := ⟨b, o, none⟩) (h.block b hb hs)

theorem But.set (b o : Nat) (v : Value) (hs : S b) : But S w (w.setCell ⟨b, o, none⟩ v) :=
  ⟨rfl, rfl, rfl, by simp [World.setCell], fun k _ hk => Below.heap_setCell _ _ _ k (fun e => hk (by rw [e]; exact hs))⟩

end

abbrev two (g pb : Nat) : Nat → Prop := fun k => k = g ∨ k = pb

theorem lst_set {w : World} {B pb g n c : Nat} {xs : List Sh} {u : Value} (hb : B ≤ pb) (hc : w.cell? ⟨pb, 0, none⟩ = some u) (hf : w.frozen? ⟨pb, 0, none⟩ = false) (hne : g ≠ pb) (hm : MineE encSh 116 w B (some ⟨g, 0, none⟩) n c xs) :
    Lst (w.setCell ⟨pb, 0, none⟩ (.slice (some ⟨g, 0, none⟩) n c)) B pb g n c xs :=
  ⟨hb, World.cell?_setCell_same _ _ _ hc, by rw [World.frozen?_setCell]; exact hf, hne,
    MineE.kept hm (row := some pb) ⟨rfl, rfl, rfl, by simp [World.setCell], fun k _ hk => Below.heap_setCell _ _ _ k (fun e => hk (by rw [e]))⟩ (fun k hk e => by
      simp only [blk, Option.some.injEq] at hk e
      omega)⟩

def Cutted (w : World) (B pb g n : Nat) (ys : List Sh) (i : Nat) (r : Ending) (w' : World) : Prop :=
  ∃ g' n' c', r = .returned (.int .i64 (i : Int)) ∧ Lst w' B pb g' n' c' ys ∧ But (two g pb) w w' ∧ n' ≤ n + 1 ∧ (g' = g ∨ w.heap.size ≤ g')

set_option maxRecDepth 100000 in
set_option maxHeartbeats 600000 in
theorem cut_same (pb g n c B k : Nat) (xs : List Sh) (y : Int) (x : Sh) (w : World) (hl : Lst w B pb g n c xs) (hn : n < 1000000) (ht : Thr xs y (k + 1)) (hx : xs[k]? = some x) (e : x.1 = y) :
    Calls Tryz.prog 72 #[.pointer (some ⟨pb, 0, none⟩), .int .i64 y] w (Cutted w B pb g n xs k) := by
  have HO := Lib.hid (of_next pb g n c B k xs y w hl (by omega) ht)
  have HL := Lib.hid hl
  have hkn : k < n := by have := ht.1; have := hl.len; omega
  have hki : (k : Int) < (n : Int) := by omega
  have hk0 : ¬ (k : Int) < 0 := by omega
  have HX := Lib.hid hx
  obtain ⟨x1, x2, x3⟩ := x
  dsimp only at e
  subst e
  clear hl ht hx
  go_enter Tryz.func72, Tryz.ntmps72
  go_upto_region 2 with (first
    | (go_at_call 83; refine HO.out.mono ?_; rintro e w1 ⟨rfl, k1⟩; have hp := (HL.out.below k1).cell; obtain ⟨c0, c1, c2⟩ := (HL.out.below k1).at k _ HX.out; have K1 := Lib.hid k1; clear k1))
  go_wp2_with fail
  go_ret
  exact ⟨g, n, c, rfl, HL.out.below (thru K1.out (ba1 _ _)), But.of_below (thru K1.out (ba1 _ _)), by omega, .inl rfl⟩

set_option maxRecDepth 100000 in
set_option maxHeartbeats 1000000 in
theorem cut_new (pb g n c B k : Nat) (xs : List Sh) (y : Int) (x : Sh) (w : World) (hl : Lst w B pb g n c xs) (hn : n < 1000000) (hB : B ≤ w.heap.size) (ht : Thr xs y (k + 1)) (hx : xs[k]? = some x) (e : ¬ x.1 = y) :
    Calls Tryz.prog 72 #[.pointer (some ⟨pb, 0, none⟩), .int .i64 y] w (Cutted w B pb g n (xs.take (k + 1) ++ (y, x.2) :: xs.drop (k + 1)) (k + 1)) := by
  have HO := Lib.hid (of_next pb g n c B k xs y w hl (by omega) ht)
  have HL := Lib.hid hl
  have HB := Lib.hid hB
  have hkn : k < n := by have := ht.1; have := hl.len; omega
  have hki : (k : Int) < (n : Int) := by omega
  have hk0 : ¬ (k : Int) < 0 := by omega
  have hw1 : IntKind.i64.wrap ((k : Int) + 1) = (k : Int) + 1 := IntWalk.i64_in _ (by omega)
  have HX := Lib.hid hx
  have HN := Lib.hid (⟨hn, hkn⟩ : n < 1000000 ∧ k < n)
  obtain ⟨x1, x2, x3⟩ := x
  dsimp only at e
  clear hl ht hx hB
  go_enter Tryz.func72, Tryz.ntmps72
  go_upto_region 2 with (first
    | (go_at_call 83; refine HO.out.mono ?_; rintro e w1 ⟨rfl, k1⟩; have hp := (HL.out.below k1).cell; obtain ⟨c0, c1, c2⟩ := (HL.out.below k1).at k _ HX.out; have K1 := Lib.hid k1; clear k1))
  go_upto_region 6 with fail
  generalize hW : World.alloc w1 _ = W
  obtain ⟨s, hs⟩ : ∃ s, w1.heap.size = s := ⟨_, rfl⟩
  have hkW : Below w1.heap.size w1 W := by rw [← hW]; exact ba1 _ _
  have e0 : W.cell? ⟨s, 0, none⟩ = some (.int .i64 y) := by rw [← hW, ← hs]; simp [go_sem]
  have e1 : W.cell? ⟨s, 1, none⟩ = some (.int .i64 x2) := by rw [← hW, ← hs]; simp [go_sem]
  have e2 : W.cell? ⟨s, 2, none⟩ = some (.int .i64 x3) := by rw [← hW, ← hs]; simp [go_sem]
  rw [hs]
  have KW := Lib.hid (thru K1.out hkW)
  clear hW hkW hs hp c0 c1 c2
  have HT := Lib.hid (⟨e0, e1, e2⟩ : W.cell? ⟨s, 0, none⟩ = some (.int .i64 y) ∧ W.cell? ⟨s, 1, none⟩ = some (.int .i64 x2) ∧ W.cell? ⟨s, 2, none⟩ = some (.int .i64 x3))
  clear e0 e1 e2
  refine wp_region_told_first [.val (.pointer (some ⟨pb, 0, none⟩)), .val (.pointer (some ⟨pb, 0, none⟩)), .val (.pointer (some ⟨pb, 0, none⟩)), .val (.pointer (some ⟨pb, 0, none⟩)), .val (.slice (some ⟨g, 0, none⟩) n c), .val (.int .i64 (k : Int)), .val (.int .i64 ((k : Int) + 1)), .val (.agg #[.int .i64 y, .int .i64 x2, .int .i64 x3]), .row (.cells #[.int .i64 y, .int .i64 x2, .int .i64 x3] 116) 1 1] (by kernel_rfl) (by kernel_rfl) (by kernel_rfl) (v0 := .pointer (some ⟨pb, 0, none⟩)) rfl rfl (by kernel_rfl) (by kernel_rfl) (.inl ⟨rfl, fun w => by go_simp⟩) (fun _ _ _ h => h) ?_ ?_
  · simp only [Told.fill, Told.Leave.value]
    refine ⟨?_, ?_, ?_, ?_, ?_, ?_, ?_, ?_, ?_, trivial⟩
    · intro g w' hw hk
      go_simp
      exact ⟨rfl, rfl⟩
    · intro g w' hw hk
      go_simp
      exact ⟨rfl, rfl⟩
    · intro g w' hw hk
      go_simp
      exact ⟨rfl, rfl⟩
    · intro g w' hw hk
      go_simp
      exact ⟨rfl, rfl⟩
    · intro g w' hw hk
      have hc := (HL.out.below (thru KW.out hw)).cell
      go_simp
      exact ⟨rfl, rfl⟩
    · intro g w' hw hk
      go_simp
      exact ⟨rfl, rfl⟩
    · intro g w' hw hk
      go_simp
      exact ⟨rfl, rfl⟩
    · intro g w' hw hk
      have q0 := (hw.cell (p := ⟨s, 0, none⟩) (block_lt_of_cell HT.out.1)).trans HT.out.1
      have q1 := (hw.cell (p := ⟨s, 1, none⟩) (block_lt_of_cell HT.out.2.1)).trans HT.out.2.1
      have q2 := (hw.cell (p := ⟨s, 2, none⟩) (block_lt_of_cell HT.out.2.2)).trans HT.out.2.2
      go_simp
      exact ⟨rfl, rfl⟩
    · intro g w' hw hk
      go_simp
  · intro gg w4 k4 hbox hap
    obtain ⟨g4, h4⟩ := hbox 8 _ _ rfl rfl
    clear hbox hap
    simp only [Told.fill, Told.Leave.value, List.length_cons, List.length_nil, List.drop_succ_cons, List.drop_zero]
    generalize gg 8 = r at g4 h4 ⊢
    have K4 := Lib.hid (thru KW.out k4)
    have L4 := Lib.hid (HL.out.below K4.out)
    have hne : r ≠ g := by have := HL.out.glt.2; have := KW.out.size; omega
    have HI := Lib.hid (insert_any g n c B (k + 1) r xs (y, (x2, x3)) w4 L4.out.row (by have := HN.out.2; omega) HN.out.1 (by have := K4.out.size; have := HB.out; omega) h4 hne)
    clear h4 g4 k4 hne HT KW
    go_simp
    go_wp2_with (first
      | (go_at_call 84; refine HI.out.mono ?_; rintro e w5 ⟨g', c', rfl, hm, hg, hgg⟩; have hfz := (hg.frozen_far ⟨pb, 0, none⟩ L4.out.lt (by simp; exact Ne.symm L4.out.ne)).trans L4.out.frz; have hcl := hg.cell L4.out.cell (by simp; exact Ne.symm L4.out.ne); have M5 := Lib.hid hm; have G5 := Lib.hid (⟨hg, hgg⟩ : w4.grownBy w5 (some g) ∧ (g' = g ∨ g' = w4.heap.size)); clear hm hg hgg))
    go_ret
    have hw4 : w.heap.size ≤ w4.heap.size := K4.out.size
    have hne2 : g' ≠ pb := by
      rcases G5.out.2 with e | e
      · rw [e]; exact HL.out.ne
      · have := L4.out.lt; omega
    refine ⟨g', n + 1, c', rfl, lst_set HL.out.hb hcl hfz hne2 M5.out, ?_, Nat.le_refl _, ?_⟩
    · refine But.trans (But.trans (But.of_below K4.out) (But.of_grown (S := two g pb) G5.out.1 (.inl rfl)) (fun _ _ h => h)) (But.set (S := two g pb) pb 0 _ (.inr rfl)) (fun _ _ h => h)
    · rcases G5.out.2 with e | e
      · exact .inl e
      · exact .inr (by omega)

theorem cut_any (pb g n c B k i : Nat) (xs ys : List Sh) (y : Int) (w : World) (hl : Lst w B pb g n c xs) (hn : n < 1000000) (hB : B ≤ w.heap.size) (h1 : 1 ≤ k) (ht : Thr xs y k) (hc : cutL xs y k = (ys, i)) :
    Calls Tryz.prog 72 #[.pointer (some ⟨pb, 0, none⟩), .int .i64 y] w (Cutted w B pb g n ys i) := by
  obtain ⟨q, rfl⟩ : ∃ q, k = q + 1 := ⟨k - 1, by omega⟩
  obtain ⟨x, hx⟩ : ∃ x, xs[q]? = some x := ⟨_, List.getElem?_eq_getElem (by have := ht.1; omega)⟩
  unfold cutL at hc
  rw [Nat.add_sub_cancel, hx] at hc
  dsimp only at hc
  by_cases e : x.1 = y
  · rw [if_pos e] at hc
    injection hc with a b
    subst a b
    exact cut_same pb g n c B q xs y x w hl hn ht hx e
  · rw [if_neg e] at hc
    injection hc with a b
    subst a b
    exact cut_new pb g n c B q xs y x w hl hn hB ht hx e

end Go.Proofs.YtdibdfalahjmbaaGreat.Shelf

namespace Go.Proofs.YtdibdfalahjmbaaGreat.Shelf

open Go.RowKit Go.Sort Go.Proofs.YtdibdfalahjmbaaGreat.Rect Go.Proofs.YtdibdfalahjmbaaGreat.More

section

variable {L : World → Nat → Addr → List Fl → Prop}

end

end Go.Proofs.YtdibdfalahjmbaaGreat.Shelf

namespace Go.Proofs.YtdibdfalahjmbaaGreat.Shelf

open Go.RowKit Go.Sort Go.Proofs.YtdibdfalahjmbaaGreat.Rect Go.Proofs.YtdibdfalahjmbaaGreat.More

set_option linter.unusedVariables false

def encF : Enc Fl := ⟨5, cellsFl, fun _ => rfl, fun x u h => by
  simp only [cellsFl, List.mem_cons, List.not_mem_nil, or_false] at h
  rcases h with h | h | h | h | h <;> (subst h; rfl), by omega⟩

theorem infoF : InfoE encF 56 22 40 :=
  ⟨Tryz.underlying22, .agg #[.int .i64 0, .int .i64 0, .int .i64 0, .int .i64 0, .int .i64 0], rfl, by kernel_rfl⟩

theorem step_append_E {α : Type} {E : Enc α} {T TS : TypeId} {bytes : Nat} (hb2 : bytes ≤ 10000) (hT : InfoE E T TS bytes) (w : World) {ops : Array Oper} {o : Oper} {a : Act} {K : Act → World → Prop} {Q : Exit → Act → World → Prop} {F : Prop} (hgd : o.guard = none) (s x : Operand)
    (ho : o.op = .call { callee := .builtin .append, args := #[s, x], argTypes := #[TS, TS] })
    (B : Nat) (A : Option Addr) (n c : Nat) (xs : List α) (hs : a.eval s = .slice A n c) (hown : MineE E T w B A n c xs) (A2 : Option Addr) (m c2 : Nat) (ys : List α) (hx : a.eval x = .slice A2 m c2) (hsrc : SrcE E w A2 m c2 ys)
    (hlen : n + m ≤ 1000000) (hB : B ≤ w.heap.size)
    (h : ∀ A' c' w', AppendedE E T w B A n xs ys m A' c' w' → K (a.put o.dst (.slice A' (n + m) c')) w') :
    if Region.wanted o (yielded ops a.tmps) = true then Oper.wp Tryz.prog o a w K Q else F := by
  have hw : Region.wanted o (yielded ops a.tmps) = true := by simp [Region.wanted, hgd]
  rw [if_pos hw]
  obtain ⟨A', c', w', hr, h2⟩ := run_append_E E hb2 hT o.type w B A n c xs hown A2 m c2 ys hsrc hlen hB
  unfold Oper.wp execOp
  simp only [ho, resolve, invoke, builtin, Sem.run_bind, Sem.run_pure, Result.andThen_ok, List.map_toArray, List.map_cons, List.map_nil, hs, hx, hr]
  exact h A' c' w' h2

theorem floats_cell {w : World} {B : Nat} {ad : Addr} {fs : List Fl} (h : Floats w B (some ad) fs) (j : Nat) (u : Value) (hu : (fs.flatMap encF.cells)[j]? = some u) : w.cell? (ad.add j) = some u := by
  have hlt := (List.getElem?_eq_some_iff.1 hu).1
  rw [encF.flat_len] at hlt
  have h5 : encF.size = 5 := rfl
  rw [h5] at hlt
  obtain ⟨f, hf⟩ : ∃ f, fs[j / 5]? = some f := ⟨_, List.getElem?_eq_getElem (by omega)⟩
  have hr : j % 5 < 5 := Nat.mod_lt _ (by omega)
  have h1 := encF.flat_at fs (j / 5) f hf (j % 5) hr
  rw [h5, Nat.mul_comm, Nat.div_add_mod, hu] at h1
  obtain ⟨ad', e, hb, c0, c1, c2, c3, c4⟩ := h (j / 5) f hf
  injection e with e
  subst e
  have hj : j = j / 5 * 5 + j % 5 := by omega
  generalize j / 5 = q at *
  generalize j % 5 = r at *
  subst hj
  have hadd : ∀ i, 0 < i → ad.add (q * 5 + i) = ⟨(ad.add (q * 5)).block, (ad.add (q * 5)).off + i, none⟩ := fun i hi => by
    rw [← Addr.add_add]
    obtain ⟨i', rfl⟩ : ∃ i', i = i' + 1 := ⟨i - 1, by omega⟩
    simp [Addr.add]
  match r, hr with
  | 0, _ => rw [Nat.add_zero, c0]; exact h1.symm
  | 1, _ => rw [hadd 1 (by omega), c1]; exact h1.symm
  | 2, _ => rw [hadd 2 (by omega), c2]; exact h1.symm
  | 3, _ => rw [hadd 3 (by omega), c3]; exact h1.symm
  | 4, _ => rw [hadd 4 (by omega), c4]; exact h1.symm

theorem floats_mine {w : World} {B : Nat} {A : Option Addr} {n c : Nat} {fs : List Fl} (h : MineE encF 56 w B A n c fs) : Floats w w.heap.size A fs := fun k f hk => by
  have hn : 0 < n := by have := MineE.len h; have := (List.getElem?_eq_some_iff.1 hk).1; omega
  obtain ⟨g, rfl, -, hg, -, -⟩ := MineE.form h hn
  refine ⟨_, rfl, hg, atF_of fun j v hv => ?_⟩
  have hj : j < 5 := (List.getElem?_eq_some_iff.1 hv).1
  rw [Addr.add_add, Addr.add_lit, Nat.zero_add]
  exact (MineE.at h k f hk j hj).trans hv

end Go.Proofs.YtdibdfalahjmbaaGreat.Shelf

namespace Go.Proofs.YtdibdfalahjmbaaGreat.Space

open Go.RowKit Go.Sort Go.Proofs.YtdibdfalahjmbaaGreat.Rect Go.Proofs.YtdibdfalahjmbaaGreat.More Go.Proofs.YtdibdfalahjmbaaGreat.Shelf

set_option linter.unusedVariables false

def topsD (fs : List Fl) (y : Int) : List Int := y :: ((shelvesD fs).filter (fun x => decide (y < x.1))).map (·.1)

def stopN (q : Int → Bool) : List Int → Nat
  | [] => 0
  | [_] => 0
  | x :: y :: xs => if q x then 0 else stopN q (y :: xs) + 1

theorem stopN_lt (q : Int → Bool) : ∀ xs : List Int, xs ≠ [] → stopN q xs < xs.length
  | [], h => absurd rfl h
  | [_], _ => by simp [stopN]
  | x :: y :: xs, _ => by
    have := stopN_lt q (y :: xs) (by simp)
    unfold stopN
    split <;> simp at * <;> omega

theorem stopN_not (q : Int → Bool) : ∀ (xs : List Int) (i : Nat) (z : Int), i < stopN q xs → xs[i]? = some z → q z = false
  | [], i, z, h, _ => by simp [stopN] at h
  | [_], i, z, h, _ => by simp [stopN] at h
  | x :: y :: xs, i, z, h, hz => by
    unfold stopN at h
    by_cases g : q x = true
    · rw [if_pos g] at h; omega
    · rw [if_neg g] at h
      cases i with
      | zero => simp at hz; rw [← hz]; simpa using g
      | succ i => exact stopN_not q (y :: xs) i z (by omega) (by simpa using hz)

theorem stopN_yes (q : Int → Bool) : ∀ (xs : List Int) (z : Int), xs[stopN q xs]? = some z → q z = true ∨ stopN q xs + 1 = xs.length
  | [], z, h => by simp at h
  | [_], z, h => .inr rfl
  | x :: y :: xs, z, h => by
    unfold stopN at h ⊢
    by_cases g : q x = true
    · rw [if_pos g] at h; left; simp at h; rw [← h]; exact g
    · rw [if_neg g] at h ⊢
      rcases stopN_yes q (y :: xs) z (by simpa using h) with e | e
      · exact .inl e
      · right; rw [e]; rfl

def atD (q : Int → Bool) (ts : List Int) : Int := ts.getD (stopN q ts) 0

def askL (q : Int → Bool) (ts : List Int) : List Int := ts.take (stopN q ts + 1)

structure SpaceOk (S : World → (Nat → Prop) → Addr → List Fl → Prop) : Prop where
  keep : ∀ w w' F G p fs, S w F p fs → But G w w' → (∀ k, F k → ¬ G k) → S w' F p fs
  lt : ∀ w F p fs, S w F p fs → ∀ k, F k → k < w.heap.size
  new : ∀ w, Calls Tryz.prog 15 #[] w fun r w' => (∃ p F, r = .returned (.pointer (some p)) ∧ S w' F p [] ∧ ∀ k, F k → w.heap.size ≤ k) ∧ Below w.heap.size w w'
  put : ∀ w F p fs f, S w F p fs → fs.length < 1000 → fs.all nearF = true → nearF f = true → f.s = 1 ∨ f.s = 2 → Calls Tryz.prog 27 #[.pointer (some p), .int .i64 f.s, .agg #[.int .i64 f.l, .int .i64 f.t, .int .i64 f.r, .int .i64 f.b]] w fun r w' => (∃ v, r = .returned v) ∧ (∃ F', S w' F' p (fs ++ [f]) ∧ ∀ k, F' k → F k ∨ w.heap.size ≤ k) ∧ But F w w'
  last : ∀ w F p fs, S w F p fs → fs.all nearF = true → Calls Tryz.prog 92 #[.pointer (some p)] w fun r w' => r = .returned (.tuple #[.int .i64 (lastD fs), .bool (decide (0 < fs.length))]) ∧ Below w.heap.size w w'
  bottom : ∀ w F p fs (c : Int), S w F p fs → fs.all nearF = true → 0 ≤ c ∧ c ≤ 3 → Calls Tryz.prog 100 #[.pointer (some p), .int .i64 c] w fun r w' => r = .returned (.tuple #[.int .i64 (botS fs c).1, .bool (botS fs c).2]) ∧ Below w.heap.size w w'
  clear : ∀ w F p fs (c y : Int), S w F p fs → fs.all nearF = true → 0 ≤ c ∧ c ≤ 3 → Calls Tryz.prog 93 #[.pointer (some p), .int .i64 c, .int .i64 y] w fun r w' => r = .returned (.int .i64 (clearS fs c y)) ∧ Below w.heap.size w w'
  floats : ∀ w F p fs, S w F p fs → fs.all nearF = true → Calls Tryz.prog 11 #[.pointer (some p)] w fun r w' => (∃ A c, r = .returned (.slice A fs.length c) ∧ MineE encF 54 w' w.heap.size A fs.length c fs) ∧ Below w.heap.size w w'
  rows : ∀ (y h : Int) w, -2305843009213693952 ≤ y ∧ y ≤ 2305843009213693952 → h ≤ 2305843009213693952 → Calls Tryz.prog 90 #[.int .i64 y, .int .i64 h] w fun r w' => r = .returned (.agg #[.int .i64 y, .int .i64 (y + highZ h)]) ∧ Below w.heap.size w w'
  bounds : ∀ w F p fs (a z : Int), S w F p fs → fs.all nearF = true → -4503599627370496 ≤ a → z ≤ 4611686018427387904 → Calls Tryz.prog 94 #[.pointer (some p), .agg #[.int .i64 a, .int .i64 z]] w fun r w' => r = .returned (.agg #[.int .i64 (bandL fs a z), .int .i64 (bandR fs a z)]) ∧ Below w.heap.size w w'
  free : ∀ w F p fs (x y a z : Int), S w F p fs → fs.all nearF = true → -4503599627370496 ≤ a → z ≤ 4611686018427387904 → Calls Tryz.prog 89 #[.pointer (some p), .agg #[.int .i64 x, .int .i64 y], .agg #[.int .i64 a, .int .i64 z]] w fun r w' => r = .returned (.agg #[.int .i64 (max x (bandL fs a z)), .int .i64 (min y (bandR fs a z))]) ∧ Below w.heap.size w w'
  first : ∀ w F p fs (y : Int) (f : Nat) (cb : Array Value) (q : Int → Bool) (R : World → List Int → Prop), S w F p fs → fs.all nearF = true → inS y = true → (∀ args w, (callFunc f args).run Tryz.prog w = .ok (.enter f args) w) → R w [] → (∀ w1 w2 pre, R w1 pre → Below w1.heap.size w1 w2 → R w2 pre) → (∀ w1 pre z, S w1 F p fs → R w1 pre → inS z = true → pre.length ≤ 3000 → Calls Tryz.prog f (#[.int .i64 z] ++ cb) w1 fun e w' => e = .returned (.bool (q z)) ∧ S w' F p fs ∧ R w' (pre ++ [z])) → Calls Tryz.prog 74 #[.pointer (some p), .int .i64 y, .func (.func f) #[] cb] w fun r w' => r = .returned (.int .i64 (atD q (topsD fs y))) ∧ S w' F p fs ∧ R w' (askL q (topsD fs y))
  firstV : ∀ w F p fs (y : Int) (f : Nat) (a : Value) (q : Int → Bool) (R : World → List Int → Prop), S w F p fs → fs.all nearF = true → inS y = true → (∀ args w, (callFunc f args).run Tryz.prog w = .ok (.enter f args) w) → R w [] → (∀ w1 w2 pre, R w1 pre → Below w1.heap.size w1 w2 → R w2 pre) → (∀ w1 pre z, S w1 F p fs → R w1 pre → inS z = true → pre.length ≤ 3000 → Calls Tryz.prog f #[a, .int .i64 z] w1 fun e w' => e = .returned (.bool (q z)) ∧ S w' F p fs ∧ R w' (pre ++ [z])) → Calls Tryz.prog 74 #[.pointer (some p), .int .i64 y, .func (.func f) #[a] #[]] w fun r w' => r = .returned (.int .i64 (atD q (topsD fs y))) ∧ S w' F p fs ∧ R w' (askL q (topsD fs y))
  firstG : ∀ w F p fs (y : Int) (f : Nat) (ca cb : Array Value) (q : Int → Bool) (R : World → List Int → Prop), S w F p fs → fs.all nearF = true → inS y = true → (∀ args w, (callFunc f args).run Tryz.prog w = .ok (.enter f args) w) → R w [] → (∀ w1 w2 pre, R w1 pre → Below w1.heap.size w1 w2 → R w2 pre) → (∀ w1 pre z, S w1 F p fs → R w1 pre → inS z = true → pre.length ≤ 3000 → (∀ u ∈ pre, u < z) ∧ y ≤ z → Calls Tryz.prog f (ca ++ #[.int .i64 z] ++ cb) w1 fun e w' => e = .returned (.bool (q z)) ∧ S w' F p fs ∧ R w' (pre ++ [z])) → Calls Tryz.prog 74 #[.pointer (some p), .int .i64 y, .func (.func f) ca cb] w fun r w' => r = .returned (.int .i64 (atD q (topsD fs y))) ∧ S w' F p fs ∧ R w' (askL q (topsD fs y))

def sideF (f : Fl) : Bool := f.s == 1 || f.s == 2

theorem sideF_iff {f : Fl} : sideF f = true ↔ f.s = 1 ∨ f.s = 2 := by unfold sideF; simp

theorem sides_take {fs : List Fl} {k : Nat} {f : Fl} (h : fs[k]? = some f) (ha : (fs.take k).all sideF = true) (hf : sideF f = true) : (fs.take (k + 1)).all sideF = true := by
  rw [List.take_add_one, h, List.all_append, ha]
  simp [hf]

theorem sides_not {fs : List Fl} {k : Nat} {f : Fl} (h : fs[k]? = some f) (hf : sideF f = false) : fs.all sideF = false := by
  rw [List.all_eq_false]
  exact ⟨f, List.mem_of_getElem? h, by rw [hf]; simp⟩

section

variable {S : World → (Nat → Prop) → Addr → List Fl → Prop}

set_option maxRecDepth 100000 in
set_option maxHeartbeats 1000000 in
theorem pbegin_any (hO : SpaceOk S) (A : Option Addr) (n c : Nat) (fs : List Fl) (w : World) (hn : n = fs.length) (hlen : n ≤ 1000) (hx : Floats w w.heap.size A fs) (hs : fs.all nearF = true) (hsd : fs.all sideF = true) :
    Calls Tryz.prog 14 #[.slice A n c] w fun r w' => (∃ p F, r = .returned (.pointer (some p)) ∧ S w' F p fs ∧ ∀ k, F k → w.heap.size ≤ k) ∧ Below w.heap.size w w' := by
  have HX := Lib.hid hx
  have HN := Lib.hid hn
  have HS := Lib.hid hs
  have HSD := Lib.hid hsd
  have HNew := Lib.hid (hO.new w)
  clear hx hn hs hsd
  go_enter Tryz.func14, Tryz.ntmps14
  go_wp2_with (first
    | (go_at_call 15; refine HNew.out.mono ?_; rintro e w1 ⟨⟨p, F0, rfl, hL, hF⟩, k1⟩; have HL := Lib.hid (⟨hL, hF, k1⟩ : S w1 F0 p [] ∧ (∀ k, F0 k → w.heap.size ≤ k) ∧ Below w.heap.size w w1); clear hL hF k1))
  go_loopw [11] (fun i wr => ∃ k : Nat, k ≤ n ∧ i = .int .i64 (k : Int) ∧ Hid (∃ F, S wr F p (fs.take k) ∧ (∀ k, F k → w.heap.size ≤ k) ∧ Below w.heap.size w wr)) (fun i _ => n - (intOf i).toNat)
  case atStart => exact ⟨0, Nat.zero_le _, rfl, Lib.hid ⟨F0, by simpa using HL.out.1, HL.out.2⟩⟩
  case round =>
    clear HL
    obtain ⟨k, hk, rfl, H0⟩ := hrel
    obtain ⟨F, hF1, hF2, hF3⟩ := H0.out
    have H := Lib.hid (⟨hF1, hF2, hF3⟩ : S wr F p (fs.take k) ∧ (∀ k, F k → w.heap.size ≤ k) ∧ Below w.heap.size w wr)
    clear H0 hF1 hF2 hF3
    by_cases hlt : k < n
    · have hki : (k : Int) < (n : Int) := by omega
      have hk0 : ¬ (k : Int) < 0 := by omega
      obtain ⟨f, hf⟩ : ∃ f, fs[k]? = some f := ⟨_, List.getElem?_eq_getElem (by rw [← HN.out]; exact hlt)⟩
      obtain ⟨ad, rfl, hab, d0, d1, d2, d3, d4⟩ := (HX.out.thru H.out.2.2) k f hf
      have HK := Lib.hid hf
      have HFN := Lib.hid (List.all_eq_true.1 HS.out f (List.mem_of_getElem? hf))
      have HFS := Lib.hid (sideF_iff.1 (List.all_eq_true.1 HSD.out f (List.mem_of_getElem? hf)))
      have HTA := Lib.hid (show (fs.take k).all nearF = true from List.all_eq_true.2 fun g hg => List.all_eq_true.1 HS.out g (List.mem_of_mem_take hg))
      clear hf
      go_upto_region 7 with fail
      generalize hW : World.alloc wr _ = W
      obtain ⟨b5, hb⟩ : ∃ b5, wr.heap.size = b5 := ⟨_, rfl⟩
      have hbW : Below wr.heap.size wr W := by rw [← hW]; exact ba1 _ _
      have e0 : W.cell? ⟨b5, 0, none⟩ = some (.int .i64 f.s) := by rw [← hW, ← hb]; simp [go_sem]
      have e1 : W.cell? ⟨b5, 1, none⟩ = some (.int .i64 f.l) := by rw [← hW, ← hb]; simp [go_sem]
      have e2 : W.cell? ⟨b5, 2, none⟩ = some (.int .i64 f.t) := by rw [← hW, ← hb]; simp [go_sem]
      have e3 : W.cell? ⟨b5, 3, none⟩ = some (.int .i64 f.r) := by rw [← hW, ← hb]; simp [go_sem]
      have e4 : W.cell? ⟨b5, 4, none⟩ = some (.int .i64 f.b) := by rw [← hW, ← hb]; simp [go_sem]
      have hb5 : b5 < W.heap.size := block_lt_of_cell e0
      have LW := Lib.hid (hO.keep _ _ _ (fun _ => False) _ _ H.out.1 (But.of_below hbW) (fun _ _ h => h))
      have KW := Lib.hid (thru H.out.2.2 hbW)
      rw [hb]
      clear hW hb d0 d1 d2 d3 d4 hbW
      refine Hold.wp_region_hold [.val (.pointer (some p)), .val (.pointer (some ⟨b5, 0, none⟩)), .val (.int .i64 f.s), .val (.pointer (some ⟨b5, 1, none⟩)), .val (.agg #[.int .i64 f.l, .int .i64 f.t, .int .i64 f.r, .int .i64 f.b]), .val (.agg #[.int .i64 f.l, .int .i64 f.t, .int .i64 f.r, .int .i64 f.b])] (by kernel_rfl) (by kernel_rfl) (by kernel_rfl) ?_ ?_
      · simp only [Hold.fill, Hold.Leave.value]
        refine ⟨?_, ?_, ?_, ?_, ?_, ?_, trivial⟩
        · intro gg w' hw hk
          go_simp
          exact ⟨rfl, rfl⟩
        · intro gg w' hw hk
          go_simp
          exact ⟨rfl, rfl⟩
        · intro gg w' hw hk
          have q0 := (hw.cell (p := ⟨b5, 0, none⟩) hb5).trans e0
          go_simp
          exact ⟨rfl, rfl⟩
        · intro gg w' hw hk
          go_simp
          exact ⟨rfl, rfl⟩
        · intro gg w' hw hk
          have q1 := (hw.cell (p := ⟨b5, 1, none⟩) hb5).trans e1
          have q2 := (hw.cell (p := ⟨b5, 2, none⟩) hb5).trans e2
          have q3 := (hw.cell (p := ⟨b5, 3, none⟩) hb5).trans e3
          have q4 := (hw.cell (p := ⟨b5, 4, none⟩) hb5).trans e4
          go_simp
          exact ⟨rfl, rfl⟩
        · intro gg w' hw hk
          go_simp
          exact Hold.stays_call (of_any _ _ _ _ w')
      intro gg w2 k2 hgg
      clear hgg
      simp only [Hold.fill, Hold.Leave.value, List.length_cons, List.length_nil, List.drop_succ_cons, List.drop_zero]
      have LZ := Lib.hid (hO.keep _ _ _ (fun _ => False) _ _ LW.out (But.of_below k2) (fun _ _ h => h))
      have KZ := Lib.hid (thru KW.out k2)
      have HADD := Lib.hid (hO.put w2 F p (fs.take k) f LZ.out (by rw [List.length_take]; omega) HTA.out HFN.out HFS.out)
      clear e0 e1 e2 e3 e4 k2
      go_wp2_with (first
        | (go_at_call 27; refine HADD.out.mono ?_; rintro e w3 ⟨⟨v, rfl⟩, ⟨F3, hL3, hF3⟩, k3⟩; have HL3 := Lib.hid (⟨F3, hL3, (fun k q => (hF3 k q).elim (H.out.2.1 k) fun q => by have := KZ.out.size; omega), KZ.out.trans (k3.below KZ.out.size H.out.2.1)⟩ : ∃ F', S w3 F' p (fs.take k ++ [f]) ∧ (∀ k, F' k → w.heap.size ≤ k) ∧ Below w.heap.size w w3); clear hL3 hF3 k3))
      go_roundw
      case rel => exact ⟨k + 1, by omega, by go_num, Lib.hid (by rw [List.take_add_one, HK.out]; exact HL3.out)⟩
      case measure => simp [intOf]; omega
    · obtain rfl : k = n := by omega
      have HE := Lib.hid (show S wr F p fs by have := H.out.1; rwa [List.take_of_length_le (by rw [← HN.out]; omega)] at this)
      go_wp2_with fail
      go_ret
      exact ⟨⟨p, F, rfl, HE.out, H.out.2.1⟩, H.out.2.2⟩

end

end Go.Proofs.YtdibdfalahjmbaaGreat.Space

namespace Go.Proofs.YtdibdfalahjmbaaGreat.Shelf

set_option linter.unusedVariables false

theorem band_const {fs : List Fl} {l r : Int} : ∀ (d : Nat) (lo hi : Int), (hi - lo).toNat = d + 1 → (∀ y, lo ≤ y → y < hi → bndF fs y = (l, r)) → bandL fs lo hi = l ∧ bandR fs lo hi = r
  | 0, lo, hi, hd, h => by
    obtain rfl : hi = lo + 1 := by omega
    have := h lo (Int.le_refl _) (by omega)
    unfold bndF at this
    injection this with h1 h2
    exact ⟨h1, h2⟩
  | d + 1, lo, hi, hd, h => by
    obtain ⟨h1, h2⟩ := band_const d (lo + 1) hi (by omega) (fun y hy1 hy2 => h y (by omega) hy2)
    have h0 := h lo (Int.le_refl _) (by omega)
    unfold bndF at h0
    injection h0 with h3 h4
    rw [bandL_split fs (show lo ≤ lo + 1 by omega) (show lo + 1 ≤ hi by omega), bandR_split fs (show lo ≤ lo + 1 by omega) (show lo + 1 ≤ hi by omega), h1, h2, h3, h4]
    omega

theorem dw_same {β : Type} {F : Int → β} {xs : List (Int × β)} {a y : Int} {i : Nat} {x : Int × β} (h : DW F a xs) (hx : xs[i]? = some x) (hy : x.1 ≤ y) (hn : ∀ z, xs[i + 1]? = some z → y < z.1) : F y = x.2 := by
  have e := at_split hx
  rw [e] at h
  have h1 := ((dw_split _ a x _).1 h).2
  have hd : ∀ z r, xs.drop (i + 1) = z :: r → y < z.1 := fun z r e2 => hn z (by
    have := List.getElem?_drop (xs := xs) (i := i + 1) (j := 0)
    rw [e2] at this
    simpa using this.symm)
  obtain ⟨t, b⟩ := x
  cases hr : xs.drop (i + 1) with
  | nil => rw [hr] at h1; exact h1.2 y hy
  | cons z r =>
    obtain ⟨z1, z2⟩ := z
    have h3 := hd _ _ hr
    rw [hr] at h1
    exact h1.2.2.1 y hy h3

def eB (xs : List (Int × (Int × Int))) (a z : Int) (i : Nat) : Int := match xs[i]? with
  | none => z
  | some x => max a (min z x.1)

section

variable {fs : List Fl} {xs : List (Int × (Int × Int))} {a z : Int} {o1 o2 : Nat}

theorem thr_above {y : Int} {k i : Nat} {x : Int × (Int × Int)} (h : Thr xs y k) (hx : xs[i]? = some x) (hi : k ≤ i) : y < x.1 := by
  have := h.2 i x hx
  rw [show decide (k ≤ i) = true by simp [hi]] at this
  exact of_decide_eq_true this

theorem thr_under {y : Int} {k i : Nat} {x : Int × (Int × Int)} (h : Thr xs y k) (hx : xs[i]? = some x) (hi : i < k) : x.1 ≤ y := by
  have := h.2 i x hx
  rw [show decide (k ≤ i) = false by simp; omega] at this
  have := of_decide_eq_false this
  omega

theorem thr_mono (hd : DW (bndF fs) (-far) xs) (h1 : Thr xs a (o1 + 1)) (h2 : Thr xs (z - 1) (o2 + 1)) (haz : a < z) : o1 ≤ o2 := by
  rcases Nat.lt_or_ge o2 o1 with e | e
  · obtain ⟨x, hx⟩ : ∃ x, xs[o1]? = some x := ⟨_, List.getElem?_eq_getElem (by have := h1.1; omega)⟩
    have := thr_under h1 hx (by omega)
    have := thr_above h2 hx (by omega)
    omega
  · exact e

theorem eB_start (hd : DW (bndF fs) (-far) xs) (h1 : Thr xs a (o1 + 1)) (haz : a < z) : eB xs a z o1 = a := by
  obtain ⟨x, hx⟩ : ∃ x, xs[o1]? = some x := ⟨_, List.getElem?_eq_getElem (by have := h1.1; omega)⟩
  have := thr_under h1 hx (by omega)
  unfold eB
  rw [hx]
  dsimp only
  omega

theorem eB_end (h2 : Thr xs (z - 1) (o2 + 1)) (haz : a < z) : eB xs a z (o2 + 1) = z := by
  unfold eB
  cases hx : xs[o2 + 1]? with
  | none => rfl
  | some x =>
    have := thr_above h2 hx (Nat.le_refl _)
    dsimp only
    omega

theorem eB_step (hd : DW (bndF fs) (-far) xs) (h1 : Thr xs a (o1 + 1)) (h2 : Thr xs (z - 1) (o2 + 1)) (haz : a < z) {i : Nat} (hi1 : o1 ≤ i) (hi2 : i ≤ o2) {x : Int × (Int × Int)} (hx : xs[i]? = some x) :
    bandL fs a (eB xs a z (i + 1)) = max (bandL fs a (eB xs a z i)) x.2.1 ∧ bandR fs a (eB xs a z (i + 1)) = min (bandR fs a (eB xs a z i)) x.2.2 := by
  have hxz := thr_under h2 hx (by omega)
  have e0 : eB xs a z i = max a x.1 := by
    unfold eB; rw [hx]; dsimp only; omega
  have e1 : max a x.1 < eB xs a z (i + 1) ∧ ∀ y, y < eB xs a z (i + 1) → ∀ x', xs[i + 1]? = some x' → y < x'.1 := by
    unfold eB
    cases hx' : xs[i + 1]? with
    | none => exact ⟨by dsimp only; omega, fun y _ x' e => by cases e⟩
    | some x' =>
      have ha := thr_above h1 hx' (by omega)
      have hr : x.1 < x'.1 := by
        have e := at_split hx
        have hd' := hd
        rw [e] at hd'
        have h3 := ((dw_split _ _ x _).1 hd').2
        have h4 : xs.drop (i + 1) = x' :: xs.drop (i + 2) := by
          obtain ⟨q1, q2⟩ := List.getElem?_eq_some_iff.1 hx'
          rw [List.drop_eq_getElem_cons q1, q2]
        rw [h4] at h3
        obtain ⟨t, b⟩ := x
        obtain ⟨t', b'⟩ := x'
        exact h3.2.1
      refine ⟨by dsimp only; omega, fun y hy x'' e => ?_⟩
      injection e with e
      subst e
      dsimp only at hy
      omega
  have hc := band_const (fs := fs) (l := x.2.1) (r := x.2.2) ((eB xs a z (i + 1) - eB xs a z i).toNat - 1) (eB xs a z i) (eB xs a z (i + 1)) (by rw [e0]; omega) (fun y hy1 hy2 => by
    have := dw_same hd hx (y := y) (by rw [e0] at hy1; omega) (fun z' hz' => e1.2 y hy2 z' hz')
    rw [this])
  rw [bandL_split fs (show a ≤ eB xs a z i by rw [e0]; omega) (show eB xs a z i ≤ eB xs a z (i + 1) by rw [e0]; omega), bandR_split fs (show a ≤ eB xs a z i by rw [e0]; omega) (show eB xs a z i ≤ eB xs a z (i + 1) by rw [e0]; omega), hc.1, hc.2]
  exact ⟨rfl, rfl⟩

end

end Go.Proofs.YtdibdfalahjmbaaGreat.Shelf

namespace Go.Proofs.YtdibdfalahjmbaaGreat.Space

open Go.Proofs.YtdibdfalahjmbaaGreat.Shelf

theorem bnd_between {fs : List Fl} (hn : Near fs) {z0 x : Int} (h0 : -far ≤ z0) (hno : ∀ s ∈ shelvesD fs, z0 < s.1 → x < s.1) (r : Int) (h1 : z0 ≤ r) (h2 : r ≤ x) : bndF fs r = bndF fs z0 := by
  have hd := (draws_dw _ _ (shelvesD_draws hn)).1
  obtain ⟨k, hk⟩ := thr_of hd z0
  have hp := thr_pos hd h0 hk
  obtain ⟨o, rfl⟩ : ∃ o, k = o + 1 := ⟨k - 1, by omega⟩
  obtain ⟨s, hs⟩ : ∃ s, (shelvesD fs)[o]? = some s := ⟨_, List.getElem?_eq_getElem (by have := hk.1; omega)⟩
  have hle := thr_under hk hs (Nat.lt_succ_self o)
  have key : ∀ q, z0 ≤ q → q ≤ x → bndF fs q = s.2 := fun q q1 q2 => dw_same hd hs (by omega) (fun z hz => by
    have h3 := thr_above hk hz (Nat.le_refl _)
    have h4 := hno z (List.mem_of_getElem? hz) h3
    omega)
  rw [key r h1 h2, key z0 (Int.le_refl _) (by omega)]

theorem band_covers {fs : List Fl} {z0 x h : Int} (hc : ∀ r, z0 ≤ r → r ≤ x → bndF fs r = bndF fs z0) (hzx : z0 ≤ x) (hh : 1 ≤ h) : bandL fs z0 (z0 + h) ≤ bandL fs x (x + h) ∧ bandR fs x (x + h) ≤ bandR fs z0 (z0 + h) := by
  obtain ⟨l, r, hlr⟩ : ∃ l r, bndF fs z0 = (l, r) := ⟨_, _, rfl⟩
  have hx := hc x hzx (Int.le_refl _)
  rw [hlr] at hx
  have hxl : bandL fs x (x + 1) = l := congrArg Prod.fst hx
  have hxr : bandR fs x (x + 1) = r := congrArg Prod.snd hx
  by_cases hcase : z0 + h ≤ x
  · obtain ⟨e1, e2⟩ := band_const (fs := fs) (l := l) (r := r) (h - 1).toNat z0 (z0 + h) (by omega) (fun q q1 q2 => by rw [hc q q1 (by omega), hlr])
    rw [e1, e2, bandL_split fs (a := x) (m := x + 1) (z := x + h) (by omega) (by omega), bandR_split fs (a := x) (m := x + 1) (z := x + h) (by omega) (by omega), hxl, hxr]
    omega
  · have s1 := bandL_split fs (a := z0) (m := x) (z := z0 + h) hzx (by omega)
    have s2 := bandR_split fs (a := z0) (m := x) (z := z0 + h) hzx (by omega)
    have s3 := bandL_split fs (a := x) (m := z0 + h) (z := x + h) (by omega) (by omega)
    have s4 := bandR_split fs (a := x) (m := z0 + h) (z := x + h) (by omega) (by omega)
    have s5 := bandL_split fs (a := x) (m := x + 1) (z := z0 + h) (by omega) (by omega)
    have s6 := bandR_split fs (a := x) (m := x + 1) (z := z0 + h) (by omega) (by omega)
    by_cases he : z0 = x
    · subst he; omega
    · obtain ⟨e1, e2⟩ := band_const (fs := fs) (l := l) (r := r) (x - z0 - 1).toNat z0 x (by omega) (fun q q1 q2 => by rw [hc q q1 (by omega), hlr])
      rw [e1] at s1
      rw [e2] at s2
      rw [hxl] at s5
      rw [hxr] at s6
      omega

theorem shelves_rise {fs : List Fl} (hn : Near fs) : ((shelvesD fs).map (·.1)).Pairwise (· < ·) := by
  rw [List.pairwise_iff_getElem]
  intro i j hi hj hij
  rw [List.length_map] at hi hj
  rw [List.getElem_map, List.getElem_map]
  have h1 := (shelvesD_pair hn (List.getElem?_eq_getElem hi) (List.getElem?_eq_getElem (show i + 1 < (shelvesD fs).length by omega))).1
  have h2 := draws_rise (shelvesD_draws hn) (j - (i + 1)) (i + 1) _ _ (List.getElem?_eq_getElem (show i + 1 < (shelvesD fs).length by omega)) (by rw [show i + 1 + (j - (i + 1)) = j by omega]; exact List.getElem?_eq_getElem hj)
  omega

theorem tops_filter (fs : List Fl) (y : Int) : ((shelvesD fs).filter (fun x => decide (y < x.1))).map (·.1) = ((shelvesD fs).map (·.1)).filter (fun e => decide (y < e)) := by
  rw [List.filter_map]
  rfl

theorem tops_rise {fs : List Fl} (hn : Near fs) (y : Int) : (topsD fs y).Pairwise (· < ·) := by
  unfold topsD
  rw [tops_filter, List.pairwise_cons]
  refine ⟨fun e he => by simpa using (List.mem_filter.1 he).2, (shelves_rise hn).filter _⟩

theorem tops_has {fs : List Fl} {y : Int} {s : Int × (Int × Int)} (hs : s ∈ shelvesD fs) (h : y < s.1) : s.1 ∈ topsD fs y := by
  unfold topsD
  exact List.mem_cons_of_mem _ (List.mem_map.2 ⟨s, List.mem_filter.2 ⟨hs, by simpa using h⟩, rfl⟩)

theorem between (ts : List Int) (x : Int) : ∀ (N : Nat) (a b : Int), ts[0]? = some a → ts[N]? = some b → a ≤ x → x < b → ∃ i z0 z1, i < N ∧ ts[i]? = some z0 ∧ ts[i + 1]? = some z1 ∧ z0 ≤ x ∧ x < z1
  | 0, a, b, ha, hb, h1, h2 => by rw [ha] at hb; injection hb with e; omega
  | N + 1, a, b, ha, hb, h1, h2 => by
    obtain ⟨c, hc⟩ : ∃ c, ts[N]? = some c := by
      have := (List.getElem?_eq_some_iff.1 hb).1
      exact ⟨_, List.getElem?_eq_getElem (by omega)⟩
    by_cases h : c ≤ x
    · exact ⟨N, c, b, Nat.lt_succ_self _, hc, hb, h, h2⟩
    · obtain ⟨i, z0, z1, q1, q2⟩ := between ts x N a c ha hc h1 (by omega)
      exact ⟨i, z0, z1, by omega, q2⟩

theorem rise_at {ts : List Int} (h : ts.Pairwise (· < ·)) {i j : Nat} {a b : Int} (ha : ts[i]? = some a) (hb : ts[j]? = some b) (hij : i < j) : a < b := by
  obtain ⟨h1, e1⟩ := List.getElem?_eq_some_iff.1 ha
  obtain ⟨h2, e2⟩ := List.getElem?_eq_some_iff.1 hb
  rw [← e1, ← e2]
  exact (List.pairwise_iff_getElem.1 h) i j h1 h2 hij

theorem first_none {fs : List Fl} (hn : Near fs) {y : Int} (hy : -far ≤ y) (q : Int → Bool)
    (hq : ∀ z0 x, z0 ≤ x → (∀ r, z0 ≤ r → r ≤ x → bndF fs r = bndF fs z0) → q x = true → q z0 = true) (x : Int) (h1 : y ≤ x) (h2 : x < atD q (topsD fs y)) : q x = false := by
  have hr := tops_rise hn y
  have hlt := stopN_lt q (topsD fs y) (by unfold topsD; simp)
  have hat : (topsD fs y)[stopN q (topsD fs y)]? = some (atD q (topsD fs y)) := by
    unfold atD
    rw [List.getD_eq_getElem?_getD, List.getElem?_eq_getElem hlt]
    rfl
  obtain ⟨i, z0, z1, g1, g2, g3, g4, g5⟩ := between (topsD fs y) x _ y _ rfl hat h1 h2
  have hz := stopN_not q _ i z0 g1 g2
  have hyz : y ≤ z0 := by
    rcases Nat.eq_zero_or_pos i with e | e
    · subst e; rw [show (topsD fs y)[0]? = some y from rfl] at g2; injection g2 with e; omega
    · exact Int.le_of_lt (rise_at hr (show (topsD fs y)[0]? = some y from rfl) g2 e)
  cases hx : q x with
  | false => rfl
  | true =>
    have := hq z0 x g4 (bnd_between hn (by omega) (fun s hs hlt => by
      obtain ⟨j, hj⟩ := List.getElem?_of_mem (tops_has hs (show y < s.1 by omega))
      rcases Nat.lt_trichotomy j (i + 1) with e | e | e
      · rcases Nat.lt_or_ge j i with e2 | e2
        · have := rise_at hr hj g2 e2; omega
        · obtain rfl : j = i := by omega
          rw [g2] at hj; injection hj with e3; omega
      · subst e; rw [g3] at hj; injection hj with e3; omega
      · have := rise_at hr g3 hj e; omega)) hx
    rw [hz] at this
    cases this

end Go.Proofs.YtdibdfalahjmbaaGreat.Space
