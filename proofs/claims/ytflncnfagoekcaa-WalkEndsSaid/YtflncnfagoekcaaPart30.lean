/- The law of walks that end early, and of paths. -/
import Derived.Test.YtflncnfagoekcaaPart17
import Derived.Test.YtflncnfagoekcaaPart27
import Derived.Test.YtflncnfagoekcaaPart13
import Derived.Test.YtflncnfagoekcaaPart28
import Derived.Test.YtflncnfagoekcaaPart14
namespace Go.Proofs.Ytflncnfagoekcaa.Walk
open Go.RowKit Go.Shelf Go.Sort Go.Proofs.Ytflncnfagoekcaa.Record Go.Proofs.Ytflncnfagoekcaa.Script Go.Proofs.Ytflncnfagoekcaa.Tree Go.Proofs.Ytflncnfagoekcaa.More

attribute [local go_sem] Oper.semAt_some

theorem field_b (y : Bx) (w : World) : (Instr.field 48 y.v 0).run Try.prog w = .ok (.int .i64 y.d) w := by
  kernel_rfl

theorem shape_low {d : Nat → Int} {n : Nat} (hs : Shape d n) : ∀ m i, i < m → i < n → d i ≤ (i : Int) := by
  intro m
  induction m with
  | zero => intro i h; omega
  | succ m ih =>
    intro i h hi
    rcases Nat.eq_zero_or_pos i with h0 | h0
    · subst h0; have := hs.zero; simp [this]
    · obtain ⟨p, -, hp, hd, -⟩ := hs.parent i h0 hi
      have := ih p (by omega) (by omega)
      omega
theorem boxT_dep {bs : List Bx} {i : Nat} (hi : i < bs.length) : (boxT bs (i : Int)).d = dOf bs i := by rw [boxT_nat hi]; rfl
theorem path_facts {bs : List Bx} (hs : Shape (dOf bs) bs.length) (i : Nat) (hi : i < bs.length) :
    ((pathT bs (i : Int)).length : Int) = (boxT bs (i : Int)).d ∧
    (∀ k, k < (pathT bs (i : Int)).length → (boxT bs ((pathT bs (i : Int)).getD k 0)).d = (k : Int) ∧ (0 < k → parT bs ((pathT bs (i : Int)).getD k 0) = (pathT bs (i : Int)).getD (k - 1) 0)) ∧
    (0 < (pathT bs (i : Int)).length → parT bs (i : Int) = (pathT bs (i : Int)).getD ((pathT bs (i : Int)).length - 1) 0) := by
  have he : pathT bs (i : Int) = (pathD (dOf bs) i).map Int.ofNat := by unfold pathT; rw [if_pos (hasT_nat hi), Int.toNat_natCast]
  have hg : ∀ (k x : Nat), (pathD (dOf bs) i)[k]? = some x → (pathT bs (i : Int)).getD k 0 = (x : Int) := fun k x h => by
    rw [he]; simp [List.getD, h]
  have hl : (pathT bs (i : Int)).length = (pathD (dOf bs) i).length := by rw [he, List.length_map]
  refine ⟨?_, fun k hk => ?_, fun h0 => ?_⟩
  · rw [hl, boxT_nat hi]
    exact pathD_len hs (i + 1) i (by omega) hi
  · rw [hl] at hk
    obtain ⟨x, hx⟩ : ∃ x, (pathD (dOf bs) i)[k]? = some x := ⟨_, List.getElem?_eq_getElem hk⟩
    obtain ⟨x1, x2, x3⟩ := pathD_at hs (i + 1) i (by omega) hi k x hx
    rw [hg k x hx, boxT_nat x1, parT_nat x1]
    refine ⟨x2, fun h => ?_⟩
    obtain ⟨y, y1, y2⟩ := x3 h
    rw [hg _ y y1, y2]
  · rw [hl] at h0 ⊢
    obtain ⟨y, y1, y2⟩ := pathD_last hs i hi h0
    rw [hg _ y y1, parT_nat hi, y2]

/-- All that lay there lies there still, but one block. -/
structure ButOne (b : Nat) (w W : World) : Prop where
  low : Below b w W
  rest : ∀ k, k < w.heap.size → k ≠ b → W.heap[k]? = w.heap[k]?

theorem ButOne.refl (b : Nat) (w : World) : ButOne b w w := ⟨Below.refl _ _, fun _ _ _ => rfl⟩
theorem ButOne.trans {b : Nat} {w W Z : World} (h : ButOne b w W) (k : ButOne b W Z) : ButOne b w Z := ⟨h.low.trans k.low, fun i h1 h2 => (k.rest i (Nat.lt_of_lt_of_le h1 h.low.size) h2).trans (h.rest i h1 h2)⟩
theorem ButOne.of_below {b : Nat} {w W : World} (h : Below w.heap.size w W) (hb : b ≤ w.heap.size) : ButOne b w W := ⟨h.mono hb, fun i h1 _ => h.block i h1⟩
theorem ownFrom_butOne {β : Type} {b B : Nat} {w : World} (h1 : b ≤ w.heap.size) (h2 : w.heap.size ≤ B) : OwnFrom B (fun (_ : β) W => ButOne b w W) :=
  fun _ W W' row hs hg hr => ⟨hs.low.grown hg (Nat.le_trans h1 hs.low.size) (fun k e => Nat.le_trans (Nat.le_trans h1 h2) (hr k e).1), fun k hk hne => (hg.block k (Nat.lt_of_lt_of_le hk hs.low.size) (fun e => by have := (hr k e.symm).1; omega)).trans (hs.rest k hk hne)⟩

section
variable {T : World → Addr → List Bx → Prop}

set_option maxRecDepth 100000 in
set_option maxHeartbeats 16000000 in
theorem ends_yes (hT : TreeOk T) (hW : WalkOk T) (A : Option Addr) (n c : Nat) (u z : Int) (hu : 0 ≤ u ∧ u ≤ 255) (bs : List Bx) (w : World) (hs : Shape (dOf bs) bs.length) (hn : n = bs.length) (hlen : n ≤ 100) (hb : Begun T A n c bs w) :
    CallsIn Fence.wide 6 Try.prog 6 #[.slice A n c, .int .u8 u, .int .i64 z] w fun e w' => e = .returned (.bool true) ∧ Below w.heap.size w w' := by
  have hro : Fence.wide.round = none := rfl
  have HB := Lib.hid hb
  have HS := Lib.hid hs
  have HN := Lib.hid hn
  have hle : (evAll bs).length ≤ 200 := by
    have := wlk_len (dOf bs) (oOf bs) bs.length true (bs.length + 1) 0 bs.length (by omega) (nested_all _ _ _)
    unfold evAll
    omega
  obtain ⟨evs, hevs⟩ : ∃ evs, evAll bs = evs := ⟨_, rfl⟩
  obtain ⟨L, hL⟩ : ∃ L, evs.length = L := ⟨_, rfl⟩
  rw [hevs, hL] at hle
  have HEV := Lib.hid hevs
  have HL := Lib.hid hL
  clear hb hs hn hevs hL
  refine callsIn_of_wp_marks Try.func6 rfl trivial ?_ hro
  simp only [Try.ntmps6, List.size_toArray, List.length_nil, List.length_cons, Nat.reduceAdd, Nat.reduceSub, Array.replicate_succ, Array.replicate_zero, List.push_toArray, List.append_toArray, List.nil_append, List.cons_append]
  gi_upto_region 1 with fail
  gi_upto_region 2 with (first
    | (refine ⟨trivial, ?_⟩; gi_at_call 9; refine (callsIn_wide.2 (HB.out _ (Below.refl _ _))).mono ?_; rintro e w1 ⟨⟨p, rfl, ht⟩, k1⟩; have HT1 := Lib.hid ht; have K1 := Lib.hid k1; have hs1 := k1.size; clear k1 ht))
  gi_upto_region 4 with (first
    | (refine ⟨trivial, ?_⟩; gi_at_call 10; refine (callsIn_wide.2 (callsIn_wide.1 (wspeaks hT hW _))).mono ?_; rintro e w2 ⟨rfl, k2⟩; have L2 := Lib.hid k2; have hs2 := k2.size; clear k2))
  gi_upto_region 5 with fail
  obtain ⟨S9, hS9⟩ : ∃ S9, w2.heap.size + 1 = S9 := ⟨_, rfl⟩
  rw [hS9]
  generalize hW3 : w2.alloc (.cells #[.slice none 0 0] 45) = W3
  have hk3 : Below w2.heap.size w2 W3 := by rw [← hW3]; exact ba1 _ _
  have hb3 : Boxed W3 w2.heap.size 45 (.slice none 0 0) := by rw [← hW3]; exact Boxed.new _ _ _
  have hz3 : W3.heap.size = S9 := by rw [← hW3, ← hS9]; simp
  generalize hW4 : W3.alloc (.cells #[.slice none 0 0] 45) = W4
  have hk4 : Below W3.heap.size W3 W4 := by rw [← hW4]; exact ba1 _ _
  have hb4 : Boxed W4 w2.heap.size 45 (.slice none 0 0) := by rw [← hW4]; exact hb3.alloc _
  have hb9 : Boxed W4 S9 45 (.slice none 0 0) := by rw [← hW4, ← hz3]; exact Boxed.new _ _ _
  have hz4 : S9 < W4.heap.size := by rw [← hW4, ← hz3]; simp
  have L4 := Lib.hid (thru L2.out (thru hk3 hk4))
  have hsS : w2.heap.size < S9 := by omega
  clear hW3 hW4 hz3 hk3 hk4 hb3 hS9
  have HA := Lib.hid (hW.all w1 p bs W4 HT1.out L4.out)
  rw [HEV.out] at HA
  gi_wp2_with (first
    | (refine ⟨trivial, ?_⟩; gi_at_call 12; refine (callsIn_wide.2 HA.out).mono ?_; rintro e w6 ⟨⟨f, lb, rfl, heg, hseq⟩, k6⟩))
  rw [HL.out] at hseq
  have hs6 := k6.size
  have BA := Lib.hid (hb4.kept (grown_of_below k6) (by simp))
  have BS := Lib.hid (hb9.kept (grown_of_below k6) (by simp))
  have L6 := Lib.hid (thru L4.out k6)
  have hq6 := hseq (some w2.heap.size) w6 (Below.refl _ _) (fun x e => by injection e with e; omega) (fun k h => by rw [owns_is BA.out.cell] at h; cases h) 5 (by omega)
  clear hseq hb4 hb9 HA k6 L4
  refine wpIn_rangeFunc_ownH hro (by omega) (gf := f) (lb := lb) rfl trivial heg hq6
    (fun h k => h.trans k) (fun W l o o' h1 h2 h3 h4 => StayB.put (N := w6.heap.size) (by omega) (Nat.le_refl _) (fun x e => by injection e with e; omega) W l o o' h1 h2 h3 h4) (Below.refl _ _) (fun _ => rfl)
    (fun pre V => (∃ v, Boxed V w2.heap.size 45 v ∧ V.ownsRow w6.heap.size 32 2 v pre.length (pre.flatMap encEv.cells) ∧ True) ∧ ButOne w2.heap.size w6 V)
    (fun _ _ _ => False)
    (OwnFrom.and (Own.from (holdsRow_own w6.heap.size w2.heap.size 45 32 2 (fun pre : List Ev => pre.length) (fun pre : List Ev => pre.flatMap encEv.cells) (fun _ _ => True)) _) (ownFrom_butOne (by omega) (Nat.le_refl _)))
    (fun _ _ _ _ _ hs _ _ => hs)
    ⟨⟨_, BA.out, World.ownsRow_nil _ _ _ _, trivial⟩, ButOne.refl _ _⟩
    (fun x => VarW (fun b5 => { tmps := (Value.slice A n c :: Value.int IntKind.u8 u :: Value.int IntKind.i64 z :: undef :: undef :: undef :: Value.bool false :: Value.pointer (some p) :: Value.pointer (some ⟨w2.heap.size, 0, none⟩) :: Value.pointer (some ⟨S9, 0, none⟩) :: .pointer (some ⟨b5, 0, none⟩) :: undef :: undef :: undef :: undef :: undef :: undef :: Value.slice A n c :: Value.pointer (some p) :: Value.bool true :: Value.bool false :: Value.bool false :: Value.pointer (some p) :: Value.bool false :: Value.bool false :: undef :: Value.pointer (some p) :: Value.func (Fn.func f) #[] lb :: x.v :: undef :: undef :: undef :: undef :: undef :: undef :: undef :: undef :: undef :: undef :: undef :: undef :: undef :: undef :: undef :: undef :: undef :: undef :: undef :: undef :: undef :: undef :: undef :: undef :: undef :: undef :: undef :: undef :: undef :: undef :: undef :: undef :: undef :: undef :: undef :: undef :: undef :: undef :: undef :: undef :: undef :: undef :: undef :: undef :: undef :: undef :: undef :: undef :: undef :: undef :: undef :: undef :: undef :: undef :: undef :: undef :: undef :: undef :: undef :: undef :: undef :: undef :: undef :: undef :: undef :: undef :: undef :: undef :: undef :: undef :: undef :: undef :: undef :: undef :: undef :: undef :: undef :: undef :: undef :: undef :: undef :: undef :: undef :: undef :: undef :: undef :: undef :: undef :: undef :: undef :: undef :: undef :: undef :: undef :: undef :: undef :: undef :: undef :: undef :: undef :: undef :: undef :: undef :: undef :: undef :: []).toArray, defers := [] }) x) (fun x a' => varW_own _ x a' _) ?assign ?body ?done ?stop
  case assign =>
    intro l pre x V K hI hK
    obtain ⟨⟨v, i1, i2, -⟩, i4⟩ := hI
    have HK := Lib.hid hK
    clear hK
    simp only [encW]
    gi_wp2_with fail
    have hk := ba1 V (.cells #[.int .i64 x.a, .bool x.l] 32)
    have hg := grown_of_below hk
    have hwl := i4.low.size
    exact HK.out _ _ (below_keeps hk) (StayB.of_below hk (by omega) (by omega) (Nat.le_refl _) (fun y e => by injection e with e; omega)) ⟨⟨v, i1.kept hg (by simp), World.ownsRow.alloc i2 _, trivial⟩, i4.trans (ButOne.of_below hk (by omega))⟩ ⟨V.heap.size, rfl, heap_alloc_new V _⟩
  case body =>
    rintro l pre x a' V hl - ⟨⟨v, i1, i2, -⟩, i4⟩ ⟨b5, rfl, h5⟩ hlt
    obtain ⟨A6, c6, rfl⟩ := shapeE i2
    have hx0 : V.cell? ⟨b5, 0, none⟩ = some (.int .i64 x.a) := by rw [cell_of_row V b5 0 _ _ _ h5]; rfl
    have hx1 : V.cell? ⟨b5, 1, none⟩ = some (.bool x.l) := by rw [cell_of_row V b5 1 _ _ _ h5]; rfl
    obtain ⟨l6, hl6⟩ : ∃ l6, pre.length = l6 := ⟨_, rfl⟩
    rw [hl6] at i1 i2 hlt
    have hm : Evs V w6.heap.size A6 l6 c6 pre := i2
    have hl61 : l6 + 1 ≤ 1000000 := by omega
    have HLl := Lib.hid hl6
    have HBX := Lib.hid i1
    have HM := Lib.hid hm
    have HV := Lib.hid i4
    have hvl := i4.low.size
    have bc := i1.cell
    obtain ⟨xa, xl⟩ := x
    clear i1 i2 i4 hm hl6 h5 hlt
    dsimp only at hx0 hx1 ⊢
    gi_wp2_with (first
      | (gi_at_builtin; refine wpListIn_append_ev _ rfl (.tmp 29) (.tmp 31) rfl w6.heap.size A6 l6 c6 pre rfl (HM.out.alloc _) (some ⟨V.heap.size, 0, none⟩) 1 1 [⟨xa, xl⟩] rfl (oneE_src encEv V ⟨xa, xl⟩ 32) (by omega) (by simp; omega) ?_; intro A1 c1 W1 h1; obtain ⟨y1, y2, y3, y4, y5, y6, y7⟩ := more_ev (s1 := w1.heap.size) (a := W4.heap.size) (b := w6.heap.size) (d := w6.heap.size) HBX.out HM.out (by omega) (.inl (by omega)) (by omega) (by omega) (Nat.le_refl _) (by omega) h1; have Y1 := Lib.hid y1; have Y3 := Lib.hid y3; have Y4 := Lib.hid y4; have Y5 := Lib.hid y5; have Y6 := Lib.hid y6; have Y7 := Lib.hid y7; have hc1 := y2.cell; have hf1 := y2.frozen; clear h1 y1 y2 y3 y4 y5 y6 y7))
    refine ⟨Y5.out.from _, Y1.out, ⟨_, Y3.out, ?_⟩, ⟨HV.out.low.trans ⟨Y6.out.os, Y6.out.tape, Y6.out.output, Y6.out.size, fun k hk => Y7.out k (by omega) (by omega) (by omega)⟩, fun k hk hne => (Y7.out k (by omega) hne hk).trans (HV.out.rest k hk hne)⟩⟩
    rw [List.length_append, HLl.out]
    first | exact ⟨Y4.out, trivial⟩ | exact Y4.out
  case stop =>
    rintro D c pre V _ _ h _
    exact h.elim
  case done =>
    rintro D ys V1 hD rfl ⟨⟨v, i1, i2, -⟩, i4⟩ hK
    obtain ⟨A6, c6, rfl⟩ := shapeE i2
    rw [HL.out] at i1 i2
    have hm : Evs V1 w6.heap.size A6 L c6 ys := i2
    obtain ⟨R, hR⟩ : ∃ R, L + 1 = R := ⟨_, rfl⟩
    obtain ⟨q, hq⟩ : ∃ q : Nat, u.tmod (R : Int) = (q : Int) := ⟨(u.tmod (R : Int)).toNat, by rw [Int.toNat_of_nonneg (Int.tmod_nonneg _ hu.1)]⟩
    have hqR : q < R := by have := Int.tmod_lt_of_pos u (show (0 : Int) < (R : Int) by omega); omega
    have hqL : q ≤ L := by omega
    have hw1 : IntKind.i64.wrap ((L : Int) + 1) = (R : Int) := by rw [IntWalk.i64_in _ (by omega)]; omega
    have hR0 : ((R : Int) == 0) = false := by rw [beq_eq_false_iff_ne]; omega
    have hR1 : ¬ (R : Int) = 0 := by omega
    have hcu : IntKind.i64.wrap u = u := IntWalk.i64_in _ (by omega)
    have hv1 := i4.low.size
    have hDV := (Array.getElem?_eq_some_iff.1 hK).1
    have V6 := Lib.hid (L6.out.trans (i4.low.mono (by omega)))
    have bc := i1.cell
    have bs9 : Boxed V1 S9 45 (.slice none 0 0) := (i4.rest S9 (by omega) (by omega)).trans BS.out
    have hib := ba1 V1 (.cells #[.int .i64 (q : Int)] 3)
    clear i2 i4 hR hqR
    gi_upto_region 9 with fail
    generalize hW7 : World.alloc V1 _ = W7
    have hb7 := Boxed.new V1 3 (.int .i64 (q : Int))
    have ha7 := i1.alloc (.cells #[.int .i64 (q : Int)] 3)
    have hs7 := bs9.alloc (.cells #[.int .i64 (q : Int)] 3)
    have hm7 := hm.alloc (.cells #[.int .i64 (q : Int)] 3)
    have hz7 : (V1.alloc (.cells #[.int .i64 (q : Int)] 3)).heap.size = V1.heap.size + 1 := by simp
    rw [hW7] at hib hb7 ha7 hs7 hm7 hz7
    have hz71 : V1.heap.size < W7.heap.size := by omega
    clear hz7
    have V7 := Lib.hid (V6.out.trans (hib.mono V6.out.size))
    have hK7 := (hib.block D hDV).trans hK
    clear hW7 hm i1 bs9 hK bc
    have HA := Lib.hid (hW.all w1 p bs W7 HT1.out V7.out)
    rw [HEV.out] at HA
    gi_wp2_with (first
      | (refine ⟨trivial, ?_⟩; gi_at_call 12; refine (callsIn_wide.2 HA.out).mono ?_; rintro e w8 ⟨⟨f9, lb9, rfl, heg9, hseq9⟩, k8⟩))
    rw [HL.out] at hseq9
    have hs8 := k8.size
    have hg8 := grown_of_below k8
    have BN := Lib.hid (hb7.kept hg8 (by simp))
    have BA8 := Lib.hid (ha7.kept hg8 (by simp))
    have BS8 := Lib.hid (hs7.kept hg8 (by simp))
    have M8 := Lib.hid (show Evs w8 w6.heap.size A6 L c6 ys from hm7.kept hg8 (fun _ _ e => by cases e))
    have hgA := Lib.hid (fun g (e : A6 = some ⟨g, 0, none⟩) => ((hm7.lt g (by rw [e]; rfl)).1 : w6.heap.size ≤ g))
    have V8 := Lib.hid (thru V7.out k8)
    have KD8 := Lib.hid ((k8.block D (by omega)).trans hK7)
    have hq9 := hseq9 (some S9) w8 (Below.refl _ _) (fun x e => by injection e with e; omega) (fun k h => by rw [owns_is BS8.out.cell] at h; cases h) 5 (by omega)
    clear hseq9 hb7 ha7 hs7 hm7 HA V7 k8 hg8 hK7 hib
    generalize hQ9 : Exit.then _ _ = Q9
    have KEY : ∀ (D2 : Nat) (W : World) (A8 : Option Addr) (c8 : Nat), w8.heap.size ≤ D2 → W.heap[D2]? = some (.deferred (some [])) → Boxed W S9 45 (.slice A8 q c8) → Evs W w8.heap.size A8 q c8 (ys.take q) → ButOne S9 w8 W →
        Q9 .normal { tmps := (Value.slice A n c :: Value.int IntKind.u8 u :: Value.int IntKind.i64 z :: undef :: undef :: undef :: Value.bool false :: Value.pointer (some p) :: Value.pointer (some ⟨w2.heap.size, 0, none⟩) :: Value.pointer (some ⟨S9, 0, none⟩) :: undef :: Value.pointer (some ⟨V1.heap.size, 0, none⟩) :: undef :: undef :: undef :: undef :: undef :: Value.slice A n c :: Value.pointer (some p) :: Value.bool true :: Value.bool false :: Value.bool false :: Value.pointer (some p) :: Value.bool false :: Value.bool false :: undef :: Value.pointer (some p) :: Value.func (Fn.func f) #[] lb :: undef :: undef :: undef :: undef :: undef :: Value.int IntKind.u8 u :: Value.int IntKind.i64 u :: Value.slice A6 L c6 :: Value.int IntKind.i64 (L : Int) :: Value.int IntKind.i64 (R : Int) :: Value.int IntKind.i64 (q : Int) :: Value.pointer (some p) :: Value.func (Fn.func f9) #[] lb9 :: undef :: undef :: undef :: undef :: undef :: undef :: undef :: undef :: undef :: undef :: undef :: undef :: undef :: undef :: undef :: undef :: undef :: undef :: undef :: undef :: undef :: undef :: undef :: undef :: undef :: undef :: undef :: undef :: undef :: undef :: undef :: undef :: undef :: undef :: undef :: undef :: undef :: undef :: undef :: undef :: undef :: undef :: undef :: undef :: undef :: undef :: undef :: undef :: undef :: undef :: undef :: undef :: undef :: undef :: undef :: undef :: undef :: undef :: undef :: undef :: undef :: undef :: undef :: undef :: undef :: undef :: undef :: undef :: undef :: undef :: undef :: undef :: undef :: undef :: undef :: undef :: undef :: undef :: undef :: undef :: undef :: undef :: undef :: undef :: undef :: undef :: undef :: undef :: undef :: undef :: undef :: undef :: undef :: []).toArray, defers := [{ target := .collected D2, args := #[] }, { target := .collected D, args := #[] }] } W := by
      intro D2 W A8 c8 hD2 hK2 i1 i2 i4
      rw [← hQ9]
      have hww := i4.low.size
      have hD2W := (Array.getElem?_eq_some_iff.1 hK2).1
      have KD := (i4.rest D (by omega) (by omega)).trans KD8.out
      have bA : Boxed W w2.heap.size 45 (.slice A6 L c6) := (i4.rest _ (by omega) (by omega)).trans BA8.out
      have bN : Boxed W V1.heap.size 3 (.int .i64 (q : Int)) := (i4.rest _ (by omega) (by omega)).trans BN.out
      have nc := bN.cell
      have sc := i1.cell
      have HBS := Lib.hid i1
      have HBA := Lib.hid bA
      have M9 := Lib.hid i2
      have VW := Lib.hid (V8.out.trans (i4.low.mono (by omega)))
      have HBut := Lib.hid i4
      have HKD := Lib.hid KD
      have HK2 := Lib.hid hK2
      have HDD := Lib.hid (show D < D2 ∧ w.heap.size ≤ D ∧ D2 < W.heap.size ∧ w.heap.size ≤ W.heap.size from ⟨by omega, by omega, hD2W, by omega⟩)
      have HBW := Lib.hid (show Below w.heap.size w W from K1.out.trans (VW.out.mono hs1))
      clear i1 i2 bA bN KD hK2 hD2W
      gi_wp2_with fail
      refine wpIn_loop (fun a X => ∃ (k : Nat) (u13 u57 u58 u59 u60 u61 u62 u63 u64 u65 u66 u67 u68 : Value), k ≤ q ∧ a = { tmps := (Value.slice A n c :: Value.int IntKind.u8 u :: Value.int IntKind.i64 z :: undef :: undef :: undef :: Value.bool false :: Value.pointer (some p) :: Value.pointer (some ⟨w2.heap.size, 0, none⟩) :: Value.pointer (some ⟨S9, 0, none⟩) :: undef :: Value.pointer (some ⟨V1.heap.size, 0, none⟩) :: undef :: u13 :: undef :: undef :: undef :: Value.slice A n c :: Value.pointer (some p) :: Value.bool true :: Value.bool false :: Value.bool false :: Value.pointer (some p) :: Value.bool false :: Value.bool false :: undef :: Value.pointer (some p) :: Value.func (Fn.func f) #[] lb :: undef :: undef :: undef :: undef :: undef :: Value.int IntKind.u8 u :: Value.int IntKind.i64 u :: Value.slice A6 L c6 :: Value.int IntKind.i64 (L : Int) :: Value.int IntKind.i64 (R : Int) :: Value.int IntKind.i64 (q : Int) :: Value.pointer (some p) :: Value.func (Fn.func f9) #[] lb9 :: undef :: undef :: undef :: undef :: undef :: undef :: undef :: undef :: undef :: Value.slice A8 q c8 :: Value.int IntKind.i64 (q : Int) :: Value.int IntKind.i64 (q : Int) :: Value.bool false :: Value.slice A8 q c8 :: Value.int IntKind.i64 (q : Int) :: Value.int IntKind.i64 (k : Int) :: u57 :: u58 :: u59 :: u60 :: u61 :: u62 :: u63 :: u64 :: u65 :: u66 :: u67 :: u68 :: undef :: undef :: undef :: undef :: undef :: undef :: undef :: undef :: undef :: undef :: undef :: undef :: undef :: undef :: undef :: undef :: undef :: undef :: undef :: undef :: undef :: undef :: undef :: undef :: undef :: undef :: undef :: undef :: undef :: undef :: undef :: undef :: undef :: undef :: undef :: undef :: undef :: undef :: undef :: undef :: undef :: undef :: undef :: undef :: undef :: undef :: undef :: undef :: undef :: undef :: undef :: undef :: undef :: undef :: undef :: undef :: undef :: undef :: undef :: undef :: undef :: undef :: undef :: undef :: undef :: []).toArray, defers := [{ target := .collected D2, args := #[] }, { target := .collected D, args := #[] }] } ∧ Hid (Below W.heap.size W X))
        (fun a _ => q - (intOf (a.tmps.getD 56 undef)).toNat) ⟨0, undef, undef, undef, undef, undef, undef, undef, undef, undef, undef, undef, undef, undef, by omega, rfl, Lib.hid (Below.refl _ _)⟩ ?_
      rintro a X ⟨k, u13, u57, u58, u59, u60, u61, u62, u63, u64, u65, u66, u67, u68, hk, rfl, hst⟩
      rcases Nat.lt_or_ge k q with h | h
      · generalize hQQ : Exit.then _ _ = QQ
        have hki : (k : Int) < (q : Int) := by omega
        have hkL : (k : Int) < (L : Int) := by omega
        have hk0 : ¬ (k : Int) < 0 := by omega
        obtain ⟨y, hy⟩ : ∃ y, ys[k]? = some y := ⟨_, List.getElem?_eq_getElem (by rw [HL.out]; omega)⟩
        have hy8 : (ys.take q)[k]? = some y := by rw [List.getElem?_take_of_lt h]; exact hy
        obtain ⟨g8, rfl, hg8a, hg8b, -, -⟩ := M9.out.form (by omega)
        obtain ⟨g6, rfl, hg6a, hg6b, -, -⟩ := M8.out.form (by omega)
        have e0 : X.cell? ⟨g8, k * 2, none⟩ = some (.int .i64 y.a) := (hst.out.cell (p := ⟨g8, k * 2, none⟩) hg8b).trans (M9.out.at k y hy8 0 (by decide))
        have e1 : X.cell? ⟨g8, k * 2 + 1, none⟩ = some (.bool y.l) := (hst.out.cell (p := ⟨g8, k * 2 + 1, none⟩) hg8b).trans (M9.out.at k y hy8 1 (by decide))
        have hblk : X.heap[g6]? = w8.heap[g6]? := (hst.out.block g6 (by omega)).trans (HBut.out.rest g6 hg6b (by omega))
        have f0 : X.cell? ⟨g6, k * 2, none⟩ = some (.int .i64 y.a) := (World.cell?_of_block (w := w8) (a := ⟨g6, k * 2, none⟩) hblk).trans (M8.out.at k y hy 0 (by decide))
        have f1 : X.cell? ⟨g6, k * 2 + 1, none⟩ = some (.bool y.l) := (World.cell?_of_block (w := w8) (a := ⟨g6, k * 2 + 1, none⟩) hblk).trans (M8.out.at k y hy 1 (by decide))
        have sc : X.cell? ⟨S9, 0, none⟩ = some (.slice (some ⟨g8, 0, none⟩) q c8) := (hst.out.cell (p := ⟨S9, 0, none⟩) (by show S9 < _; omega)).trans HBS.out.cell
        have ac : X.cell? ⟨w2.heap.size, 0, none⟩ = some (.slice (some ⟨g6, 0, none⟩) L c6) := (hst.out.cell (p := ⟨w2.heap.size, 0, none⟩) (by show w2.heap.size < _; omega)).trans HBA.out.cell
        have E := eqEvW y y
        rw [show sameEv y y = true from (sameEv_iff _ _).2 rfl] at E
        have hwk : IntKind.i64.wrap ((k : Int) + 1) = (k : Int) + 1 := IntWalk.i64_in _ (by omega)
        clear hy hy8 hblk
        gi_upto_region 18 with fail
        refine wpIn_region_holdW [.val (.slice (some ⟨g8, 0, none⟩) q c8), .val (.int .i64 (k : Int)), .val (.pointer (some ⟨g8, k * 2, none⟩)), .val y.v, .val (.slice (some ⟨g6, 0, none⟩) L c6), .val (.int .i64 (k : Int)), .val (.pointer (some ⟨g6, k * 2, none⟩)), .val y.v] (by kernel_rfl) (by kernel_rfl) (by kernel_rfl) ?_ ?_
        · simp only [Hold.fill, Hold.Leave.value]
          refine ⟨?_, ?_, ?_, ?_, ?_, ?_, ?_, ?_, trivial⟩
          · intro gg w' hw hk
            have q0 := (hw.cell (p := ⟨S9, 0, none⟩) (block_lt_of_cell sc)).trans sc
            go_simp
            exact ⟨rfl, rfl⟩
          · intro gg w' hw hk
            go_simp
            exact ⟨rfl, rfl⟩
          · intro gg w' hw hk
            go_simp
            exact ⟨rfl, rfl⟩
          · intro gg w' hw hk
            have q0 := (hw.cell (p := ⟨g8, k * 2, none⟩) (block_lt_of_cell e0)).trans e0
            have q1 := (hw.cell (p := ⟨g8, k * 2 + 1, none⟩) (block_lt_of_cell e1)).trans e1
            go_simp
            exact ⟨rfl, rfl⟩
          · intro gg w' hw hk
            have q0 := (hw.cell (p := ⟨w2.heap.size, 0, none⟩) (block_lt_of_cell ac)).trans ac
            go_simp
            exact ⟨rfl, rfl⟩
          · intro gg w' hw hk
            go_simp
            exact ⟨rfl, rfl⟩
          · intro gg w' hw hk
            go_simp
            exact ⟨rfl, rfl⟩
          · intro gg w' hw hk
            have q0 := (hw.cell (p := ⟨g6, k * 2, none⟩) (block_lt_of_cell f0)).trans f0
            have q1 := (hw.cell (p := ⟨g6, k * 2 + 1, none⟩) (block_lt_of_cell f1)).trans f1
            go_simp
            exact ⟨rfl, rfl⟩
        · intro gg W2 qq hgg
          clear hgg
          simp only [Hold.fill, Hold.Leave.value, List.length_cons, List.length_nil, Nat.reduceAdd, Nat.reduceSub]
          refine wpAnyIn_ready (rs := [8]) (by kernel_rfl) (by simp) ?_
          refine AllReadyIn.cons rfl (fun K hK => ?_) AllReadyIn.nil
          have E1 := E W2
          go_simp
          refine hK _ _ ?_
          clear hK K
          refine wpAnyIn_done (by kernel_rfl) ?_ _
          clear sc ac e0 e1 f0 f1
          gi_wp2_with fail
          rw [← hQQ]
          refine ⟨⟨k + 1, _, _, _, _, _, _, _, _, _, _, _, _, _, by omega, by push_cast; rfl, Lib.hid (hst.out.trans (qq.mono hst.out.size))⟩, ?_⟩
          first | (simp [intOf]; omega) | simp [intOf]
      · have hkq : q = k := by omega
        subst hkq
        have hkk : ¬ (q : Int) < (q : Int) := by omega
        have VX1 := Lib.hid (VW.out.trans (hst.out.mono VW.out.size))
        have HLen := Lib.hid (fun Y (j : Below w1.heap.size w1 Y) => hT.len Y p bs (hT.keep _ _ _ _ HT1.out j))
        rw [← HN.out] at HLen
        by_cases hz : 0 ≤ z ∧ z < (n : Int)
        · obtain ⟨i, rfl⟩ : ∃ i : Nat, z = (i : Int) := ⟨z.toNat, by rw [Int.toNat_of_nonneg hz.1]⟩
          have hin : i < bs.length := by have := HN.out; omega
          obtain ⟨f1, f2, f3⟩ := path_facts HS.out i hin
          obtain ⟨ps, hps⟩ : ∃ ps, pathT bs (i : Int) = ps := ⟨_, rfl⟩
          obtain ⟨PL, hPL⟩ : ∃ PL, ps.length = PL := ⟨_, rfl⟩
          obtain ⟨y, hy⟩ : ∃ y, boxT bs (i : Int) = y := ⟨_, rfl⟩
          rw [hps, hPL, hy] at f1
          rw [hps, hPL] at f2 f3
          have hPn : PL ≤ 1000 := by
            have h7 := shape_low HS.out (i + 1) i (by omega) hin
            rw [← boxT_dep hin, hy] at h7
            have := HN.out
            omega
          have HPath := Lib.hid ((hW.path X p bs (i : Int) (hT.keep _ _ _ _ HT1.out VX1.out)).mono (R' := fun r w' => ∃ A14 c14, r = .returned (.slice A14 PL c14) ∧ Nums w' w'.heap.size A14 ps ∧ Below X.heap.size X w') (by
            rintro r w' ⟨u, rfl, ⟨A8, c8, rfl, n8, -⟩, k8⟩
            rw [hps] at n8 ⊢
            rw [hPL]
            exact ⟨A8, c8, rfl, n8, k8⟩))
          have HBx := Lib.hid (fun Y (j : Below w1.heap.size w1 Y) => hT.box Y p bs (i : Int) (hT.keep _ _ _ _ HT1.out j))
          rw [hy] at HBx
          have HF2 := Lib.hid f2
          have HF3 := Lib.hid f3
          have HPLL := Lib.hid hPL
          have hi0 : ¬ (i : Int) < 0 := by omega
          have hin' : ¬ (n : Int) ≤ (i : Int) := by omega
          have hne : ((PL : Int) != y.d) = false := by simp [f1]
          have hf := field_b y
          have F1 := Lib.hid f1
          clear f1 f2 f3 hps hPL hy hz hin
          gi_wp2_with (first
            | (refine ⟨trivial, ?_⟩; gi_at_call 23; refine (callsIn_wide.2 HPath.out).mono ?_; rintro e w10 ⟨A14, c14, rfl, n10, k10⟩; have N10 := Lib.hid n10; have K10 := Lib.hid k10; have V10 := Lib.hid (thru VX1.out k10); clear n10 k10)
            | (refine ⟨trivial, ?_⟩; gi_at_call 18; refine (callsIn_wide.2 (HLen.out _ V10.out)).mono ?_; rintro e w11 ⟨rfl, k11⟩; have K11 := Lib.hid k11; have V11 := Lib.hid (thru V10.out k11); clear k11)
            | (refine ⟨trivial, ?_⟩; gi_at_call 24; refine (callsIn_wide.2 (HBx.out _ V11.out)).mono ?_; rintro e w12 ⟨rfl, k12⟩; have K12 := Lib.hid k12; have V12 := Lib.hid (thru V11.out k12); clear k12))
          have N12 := Lib.hid ((N10.out.thru K11.out).thru K12.out)
          have HW12 := Lib.hid (hst.out.trans ((thru (thru K10.out K11.out) K12.out).mono hst.out.size))
          refine wpIn_loop (fun a Y => ∃ (k : Nat) (u15 u16 u93 u94 u95 u96 u97 u98 u99 u100 u101 u102 u103 u104 u105 u106 u107 u108 u109 u110 u111 u112 u113 u114 u115 u116 u117 u118 : Value), k ≤ PL ∧ a = { tmps := (Value.slice A n c :: Value.int IntKind.u8 u :: Value.int IntKind.i64 (i : Int) :: undef :: undef :: undef :: Value.bool false :: Value.pointer (some p) :: Value.pointer (some ⟨w2.heap.size, 0, none⟩) :: Value.pointer (some ⟨S9, 0, none⟩) :: undef :: Value.pointer (some ⟨V1.heap.size, 0, none⟩) :: undef :: u13 :: Value.slice A14 PL c14 :: u15 :: u16 :: Value.slice A n c :: Value.pointer (some p) :: Value.bool true :: Value.bool false :: Value.bool false :: Value.pointer (some p) :: Value.bool false :: Value.bool false :: undef :: Value.pointer (some p) :: Value.func (Fn.func f) #[] lb :: undef :: undef :: undef :: undef :: undef :: Value.int IntKind.u8 u :: Value.int IntKind.i64 u :: Value.slice A6 L c6 :: Value.int IntKind.i64 (L : Int) :: Value.int IntKind.i64 (R : Int) :: Value.int IntKind.i64 (q : Int) :: Value.pointer (some p) :: Value.func (Fn.func f9) #[] lb9 :: undef :: undef :: undef :: undef :: undef :: undef :: undef :: undef :: undef :: Value.slice A8 q c8 :: Value.int IntKind.i64 (q : Int) :: Value.int IntKind.i64 (q : Int) :: Value.bool false :: Value.slice A8 q c8 :: Value.int IntKind.i64 (q : Int) :: Value.int IntKind.i64 (q : Int) :: Value.bool false :: u58 :: u59 :: u60 :: u61 :: u62 :: u63 :: u64 :: u65 :: u66 :: u67 :: u68 :: Value.pointer (some p) :: Value.int IntKind.i64 (i : Int) :: Value.slice A14 PL c14 :: Value.int IntKind.i64 (i : Int) :: Value.bool (decide ((i : Int) < 0)) :: Value.bool (decide ((i : Int) < 0)) :: Value.int IntKind.i64 (i : Int) :: Value.pointer (some p) :: Value.int IntKind.i64 (n : Int) :: Value.bool false :: Value.bool (decide ((i : Int) < 0)) :: undef :: undef :: undef :: Value.slice A14 PL c14 :: Value.int IntKind.i64 (PL : Int) :: Value.pointer (some p) :: Value.int IntKind.i64 (i : Int) :: y.v :: Value.int IntKind.i64 y.d :: Value.bool false :: Value.slice A14 PL c14 :: Value.int IntKind.i64 (PL : Int) :: Value.int IntKind.i64 (k : Int) :: u93 :: u94 :: u95 :: u96 :: u97 :: u98 :: u99 :: u100 :: u101 :: u102 :: u103 :: u104 :: u105 :: u106 :: u107 :: u108 :: u109 :: u110 :: u111 :: u112 :: u113 :: u114 :: u115 :: u116 :: u117 :: u118 :: undef :: undef :: undef :: undef :: undef :: undef :: undef :: undef :: undef :: undef :: undef :: undef :: undef :: undef :: undef :: []).toArray, defers := [{ target := .collected D2, args := #[] }, { target := .collected D, args := #[] }] } ∧ Hid (Below w12.heap.size w12 Y))
            (fun a _ => PL - (intOf (a.tmps.getD 92 undef)).toNat) ⟨0, undef, undef, undef, undef, undef, undef, undef, undef, undef, undef, undef, undef, undef, undef, undef, undef, undef, undef, undef, undef, undef, undef, undef, undef, undef, undef, undef, undef, by omega, rfl, Lib.hid (Below.refl _ _)⟩ ?_
          rintro a Y ⟨k, u15, u16, u93, u94, u95, u96, u97, u98, u99, u100, u101, u102, u103, u104, u105, u106, u107, u108, u109, u110, u111, u112, u113, u114, u115, u116, u117, u118, hk2, rfl, hst2⟩
          have VX := Lib.hid (V12.out.trans (hst2.out.mono V12.out.size))
          rcases Nat.lt_or_ge k PL with h2 | h2
          · generalize hQQ : Exit.then _ _ = QQ
            have hki : (k : Int) < (PL : Int) := by omega
            have hk0 : ¬ (k : Int) < 0 := by omega
            obtain ⟨g1, g2⟩ := HF2.out k h2
            obtain ⟨ad, rfl, hadl, hcx⟩ := N12.out k (by rw [HPLL.out]; exact h2)
            have cx := (hst2.out.cell (p := ad.add k) (by rw [block_of_add]; exact hadl)).trans hcx
            obtain ⟨x, hx⟩ : ∃ x, ps.getD k 0 = x := ⟨_, rfl⟩
            rw [hx] at g1 g2 cx
            obtain ⟨y2, hy2⟩ : ∃ y2, boxT bs x = y2 := ⟨_, rfl⟩
            rw [hy2] at g1
            have HBx2 := Lib.hid (fun Z (j : Below w1.heap.size w1 Z) => hT.box Z p bs x (hT.keep _ _ _ _ HT1.out j))
            rw [hy2] at HBx2
            have HPx := Lib.hid (fun Z (j : Below w1.heap.size w1 Z) => hT.parent Z p bs x (hT.keep _ _ _ _ HT1.out j))
            have hyk : (y2.d != (k : Int)) = false := by simp [g1]
            have hwk : IntKind.i64.wrap ((k : Int) + 1) = (k : Int) + 1 := IntWalk.i64_in _ (by omega)
            clear hx hy2 hcx hadl g1
            rcases Nat.eq_zero_or_pos k with hkz | hkz
            · have hkp : ¬ (0 : Int) < (k : Int) := by omega
              clear g2 HPx hkz
              gi_upto_region 29 with fail
              clear cx
              refine wpIn_region_holdW [.val (.pointer (some p)), .val (.int .i64 x), .val y2.v, .val (.int .i64 y2.d), .val (.int .i64 (k : Int)), .val (.bool false), .val (.bool false), .val (.int .i64 (k : Int)), .val (.bool false), .val (.bool false), .skip, .skip, .skip, .skip, .skip, .skip, .skip, .skip, .skip, .val (.bool false)] (by kernel_rfl) (by kernel_rfl) (by kernel_rfl) ?_ ?_
              · simp only [Hold.fill, Hold.Leave.value]
                refine ⟨?_, ?_, ?_, ?_, ?_, ?_, ?_, ?_, ?_, ?_, ?_, ?_, ?_, ?_, ?_, ?_, ?_, ?_, ?_, ?_, trivial⟩
                · intro gg w' hw hk
                  go_simp
                  exact ⟨rfl, rfl⟩
                · intro gg w' hw hk
                  go_simp
                  exact ⟨rfl, rfl⟩
                · intro gg w' hw hk
                  go_simp
                  exact Hold.stays_call (HBx2.out _ (VX.out.trans (hw.mono VX.out.size)))
                · intro gg w' hw hk
                  have hf := field_b y2 w'
                  go_simp
                  exact ⟨rfl, rfl⟩
                · intro gg w' hw hk
                  go_simp
                  exact ⟨rfl, rfl⟩
                · intro gg w' hw hk
                  go_simp
                  exact ⟨rfl, rfl⟩
                · intro gg w' hw hk
                  go_simp
                  exact ⟨rfl, rfl⟩
                · intro gg w' hw hk
                  go_simp
                  exact ⟨rfl, rfl⟩
                · intro gg w' hw hk
                  go_simp
                  first | exact ⟨rfl, rfl⟩ | (rw [show decide (0 < k) = false from decide_eq_false (by omega)]; exact ⟨rfl, rfl⟩)
                · intro gg w' hw hk
                  go_simp
                  exact ⟨rfl, rfl⟩
                · trivial
                · trivial
                · trivial
                · trivial
                · trivial
                · trivial
                · trivial
                · trivial
                · trivial
                · intro gg w' hw hk
                  go_simp
                  exact ⟨rfl, rfl⟩
              · intro gg W2 qq hgg
                clear hgg
                simp only [Hold.fill, Hold.Leave.value, List.length_cons, List.length_nil, Nat.reduceAdd, Nat.reduceSub]
                refine wpAnyIn_ready (rs := [20]) (by kernel_rfl) (by simp) ?_
                refine AllReadyIn.cons rfl (fun K hK => ?_) AllReadyIn.nil
                go_simp
                refine hK _ _ ?_
                clear hK K
                refine wpAnyIn_done (by kernel_rfl) ?_ _
                gi_wp2_with fail
                rw [← hQQ]
                refine ⟨⟨k + 1, _, _, _, _, _, _, _, _, _, _, _, _, _, _, _, _, _, _, _, _, _, _, _, _, _, _, _, _, by omega, by push_cast; rfl, Lib.hid (hst2.out.trans (qq.mono hst2.out.size))⟩, ?_⟩
                first | (simp [intOf]; omega) | simp [intOf]
            · have hkp : (0 : Int) < (k : Int) := by omega
              obtain ⟨m, hm⟩ : ∃ m, k - 1 = m := ⟨_, rfl⟩
              have hmk : IntKind.i64.wrap ((k : Int) - 1) = (m : Int) := by rw [IntWalk.i64_in _ (by omega)]; omega
              have hmi : (m : Int) < (PL : Int) := by omega
              have hm0 : ¬ (m : Int) < 0 := by omega
              have g3 := g2 hkz
              rw [hm] at g3
              obtain ⟨ad2, e2, hadl2, hcm⟩ := N12.out m (by rw [HPLL.out]; omega)
              injection e2 with e2
              subst e2
              have cm := (hst2.out.cell (p := ad.add m) (by rw [block_of_add]; exact hadl2)).trans hcm
              obtain ⟨xp, hxp⟩ : ∃ xp, ps.getD m 0 = xp := ⟨_, rfl⟩
              rw [hxp] at g3 cm
              rw [g3] at HPx
              clear g2 g3 hxp hcm hadl2 hm
              gi_upto_region 29 with fail
              clear cx
              refine wpIn_region_holdW [.val (.pointer (some p)), .val (.int .i64 x), .val y2.v, .val (.int .i64 y2.d), .val (.int .i64 (k : Int)), .val (.bool false), .val (.bool false), .val (.int .i64 (k : Int)), .val (.bool true), .val (.bool true), .val (.pointer (some p)), .val (.int .i64 x), .val (.int .i64 xp), .val (.slice (some ad) PL c14), .val (.int .i64 (k : Int)), .val (.int .i64 (m : Int)), .val (.pointer (some (ad.add m))), .val (.int .i64 xp), .val (.bool false), .val (.bool false)] (by kernel_rfl) (by kernel_rfl) (by kernel_rfl) ?_ ?_
              · simp only [Hold.fill, Hold.Leave.value]
                refine ⟨?_, ?_, ?_, ?_, ?_, ?_, ?_, ?_, ?_, ?_, ?_, ?_, ?_, ?_, ?_, ?_, ?_, ?_, ?_, ?_, trivial⟩
                · intro gg w' hw hk
                  go_simp
                  exact ⟨rfl, rfl⟩
                · intro gg w' hw hk
                  go_simp
                  exact ⟨rfl, rfl⟩
                · intro gg w' hw hk
                  go_simp
                  exact Hold.stays_call (HBx2.out _ (VX.out.trans (hw.mono VX.out.size)))
                · intro gg w' hw hk
                  have hf := field_b y2 w'
                  go_simp
                  exact ⟨rfl, rfl⟩
                · intro gg w' hw hk
                  go_simp
                  exact ⟨rfl, rfl⟩
                · intro gg w' hw hk
                  go_simp
                  exact ⟨rfl, rfl⟩
                · intro gg w' hw hk
                  go_simp
                  exact ⟨rfl, rfl⟩
                · intro gg w' hw hk
                  go_simp
                  exact ⟨rfl, rfl⟩
                · intro gg w' hw hk
                  go_simp
                  exact ⟨rfl, rfl⟩
                · intro gg w' hw hk
                  go_simp
                  exact ⟨rfl, rfl⟩
                · intro gg w' hw hk
                  go_simp
                  exact ⟨rfl, rfl⟩
                · intro gg w' hw hk
                  go_simp
                  exact ⟨rfl, rfl⟩
                · intro gg w' hw hk
                  go_simp
                  exact Hold.stays_call (HPx.out _ (VX.out.trans (hw.mono VX.out.size)))
                · intro gg w' hw hk
                  go_simp
                  exact ⟨rfl, rfl⟩
                · intro gg w' hw hk
                  go_simp
                  exact ⟨rfl, rfl⟩
                · intro gg w' hw hk
                  go_simp
                  exact ⟨rfl, rfl⟩
                · intro gg w' hw hk
                  go_simp
                  exact ⟨rfl, rfl⟩
                · intro gg w' hw hk
                  have q0 := (hw.cell (p := (ad.add m)) (block_lt_of_cell cm)).trans cm
                  go_simp
                  exact ⟨rfl, rfl⟩
                · intro gg w' hw hk
                  go_simp
                  exact ⟨rfl, rfl⟩
                · intro gg w' hw hk
                  go_simp
                  exact ⟨rfl, rfl⟩
              · intro gg W2 qq hgg
                clear hgg
                simp only [Hold.fill, Hold.Leave.value, List.length_cons, List.length_nil, Nat.reduceAdd, Nat.reduceSub]
                refine wpAnyIn_ready (rs := [20]) (by kernel_rfl) (by simp) ?_
                refine AllReadyIn.cons rfl (fun K hK => ?_) AllReadyIn.nil
                go_simp
                refine hK _ _ ?_
                clear hK K
                refine wpAnyIn_done (by kernel_rfl) ?_ _
                gi_wp2_with fail
                rw [← hQQ]
                refine ⟨⟨k + 1, _, _, _, _, _, _, _, _, _, _, _, _, _, _, _, _, _, _, _, _, _, _, _, _, _, _, _, _, by omega, by push_cast; rfl, Lib.hid (hst2.out.trans (qq.mono hst2.out.size))⟩, ?_⟩
                first | (simp [intOf]; omega) | simp [intOf]
          · have hkq2 : PL = k := by omega
            subst hkq2
            have hkk2 : ¬ (PL : Int) < (PL : Int) := by omega
            have HWX := Lib.hid (HW12.out.trans (hst2.out.mono HW12.out.size))
            have HPi := Lib.hid (fun Z (j : Below w1.heap.size w1 Z) => hT.parent Z p bs (i : Int) (hT.keep _ _ _ _ HT1.out j))
            rcases Nat.eq_zero_or_pos PL with hp0 | hp0
            · have hpe : ((PL : Int) == 0) = true := by simp; omega
              clear hp0
              gi_upto_region 32 with fail
              refine wpIn_region_holdW [.val (.slice A14 PL c14), .val (.int .i64 (PL : Int)), .val (.bool true), .val (.bool true), .skip, .skip, .skip, .skip, .skip, .skip, .skip, .skip, .skip, .skip, .val (.bool true)] (by kernel_rfl) (by kernel_rfl) (by kernel_rfl) ?_ ?_
              · simp only [Hold.fill, Hold.Leave.value]
                refine ⟨?_, ?_, ?_, ?_, ?_, ?_, ?_, ?_, ?_, ?_, ?_, ?_, ?_, ?_, ?_, trivial⟩
                · intro gg w' hw hk
                  go_simp
                  exact ⟨rfl, rfl⟩
                · intro gg w' hw hk
                  go_simp
                  exact ⟨rfl, rfl⟩
                · intro gg w' hw hk
                  go_simp
                  exact ⟨rfl, rfl⟩
                · intro gg w' hw hk
                  go_simp
                  exact ⟨rfl, rfl⟩
                · trivial
                · trivial
                · trivial
                · trivial
                · trivial
                · trivial
                · trivial
                · trivial
                · trivial
                · trivial
                · intro gg w' hw hk
                  go_simp
                  exact ⟨rfl, rfl⟩
              · intro gg W2 qq hgg
                clear hgg
                simp only [Hold.fill, Hold.Leave.value, List.length_cons, List.length_nil, Nat.reduceAdd, Nat.reduceSub]
                refine wpAnyIn_ready (rs := [15]) (by kernel_rfl) (by simp) ?_
                refine AllReadyIn.cons rfl (fun K hK => ?_) AllReadyIn.nil
                go_simp
                refine hK _ _ ?_
                clear hK K
                refine wpAnyIn_done (by kernel_rfl) ?_ _
                gi_wp2_with fail
                refine leaves_marks [D2, D] _ (by have := HDD.out; simp; omega) (fun E hE => ?_) (fun W' hS => ?_)
                · have hE' : E = D2 ∨ E = D := by simpa using hE
                  rcases hE' with e | e
                  · rw [e]; exact (((HWX.out.trans (qq.mono HWX.out.size))).block _ HDD.out.2.2.1).trans HK2.out
                  · rw [e]; exact (((HWX.out.trans (qq.mono HWX.out.size))).block _ (by have := HDD.out; omega)).trans HKD.out
                · exact ⟨.bool true, by simp [results, Try.results6, go_sem], rfl, (HBW.out.trans (((HWX.out.trans (qq.mono HWX.out.size))).mono HDD.out.2.2.2)).trans (hS.below (fun E hE => by have := HDD.out; simp at hE; omega))⟩
            · have hpe : ((PL : Int) == 0) = false := by rw [beq_eq_false_iff_ne]; omega
              obtain ⟨m, hm⟩ : ∃ m, PL - 1 = m := ⟨_, rfl⟩
              have hmk : IntKind.i64.wrap ((PL : Int) - 1) = (m : Int) := by rw [IntWalk.i64_in _ (by omega)]; omega
              have hmi : (m : Int) < (PL : Int) := by omega
              have hm0 : ¬ (m : Int) < 0 := by omega
              have g3 := HF3.out hp0
              rw [hm] at g3
              obtain ⟨ad, rfl, hadl2, hcm⟩ := N12.out m (by rw [HPLL.out]; omega)
              have cm := (hst2.out.cell (p := ad.add m) (by rw [block_of_add]; exact hadl2)).trans hcm
              obtain ⟨xp, hxp⟩ : ∃ xp, ps.getD m 0 = xp := ⟨_, rfl⟩
              rw [hxp] at g3 cm
              rw [g3] at HPi
              clear g3 hxp hcm hadl2 hm
              gi_upto_region 32 with fail
              refine wpIn_region_holdW [.val (.slice (some ad) PL c14), .val (.int .i64 (PL : Int)), .val (.bool false), .val (.bool false), .val (.pointer (some p)), .val (.int .i64 (i : Int)), .val (.int .i64 xp), .val (.slice (some ad) PL c14), .val (.slice (some ad) PL c14), .val (.int .i64 (PL : Int)), .val (.int .i64 (m : Int)), .val (.pointer (some (ad.add m))), .val (.int .i64 xp), .val (.bool true), .val (.bool true)] (by kernel_rfl) (by kernel_rfl) (by kernel_rfl) ?_ ?_
              · simp only [Hold.fill, Hold.Leave.value]
                refine ⟨?_, ?_, ?_, ?_, ?_, ?_, ?_, ?_, ?_, ?_, ?_, ?_, ?_, ?_, ?_, trivial⟩
                · intro gg w' hw hk
                  go_simp
                  exact ⟨rfl, rfl⟩
                · intro gg w' hw hk
                  go_simp
                  exact ⟨rfl, rfl⟩
                · intro gg w' hw hk
                  go_simp
                  exact ⟨rfl, rfl⟩
                · intro gg w' hw hk
                  go_simp
                  exact ⟨rfl, rfl⟩
                · intro gg w' hw hk
                  go_simp
                  exact ⟨rfl, rfl⟩
                · intro gg w' hw hk
                  go_simp
                  exact ⟨rfl, rfl⟩
                · intro gg w' hw hk
                  go_simp
                  exact Hold.stays_call (HPi.out _ (VX.out.trans (hw.mono VX.out.size)))
                · intro gg w' hw hk
                  go_simp
                  exact ⟨rfl, rfl⟩
                · intro gg w' hw hk
                  go_simp
                  exact ⟨rfl, rfl⟩
                · intro gg w' hw hk
                  go_simp
                  exact ⟨rfl, rfl⟩
                · intro gg w' hw hk
                  go_simp
                  exact ⟨rfl, rfl⟩
                · intro gg w' hw hk
                  go_simp
                  exact ⟨rfl, rfl⟩
                · intro gg w' hw hk
                  have q0 := (hw.cell (p := (ad.add m)) (block_lt_of_cell cm)).trans cm
                  go_simp
                  exact ⟨rfl, rfl⟩
                · intro gg w' hw hk
                  go_simp
                  exact ⟨rfl, rfl⟩
                · intro gg w' hw hk
                  go_simp
                  exact ⟨rfl, rfl⟩
              · intro gg W2 qq hgg
                clear hgg
                simp only [Hold.fill, Hold.Leave.value, List.length_cons, List.length_nil, Nat.reduceAdd, Nat.reduceSub]
                refine wpAnyIn_ready (rs := [15]) (by kernel_rfl) (by simp) ?_
                refine AllReadyIn.cons rfl (fun K hK => ?_) AllReadyIn.nil
                go_simp
                refine hK _ _ ?_
                clear hK K
                refine wpAnyIn_done (by kernel_rfl) ?_ _
                gi_wp2_with fail
                refine leaves_marks [D2, D] _ (by have := HDD.out; simp; omega) (fun E hE => ?_) (fun W' hS => ?_)
                · have hE' : E = D2 ∨ E = D := by simpa using hE
                  rcases hE' with e | e
                  · rw [e]; exact (((HWX.out.trans (qq.mono HWX.out.size))).block _ HDD.out.2.2.1).trans HK2.out
                  · rw [e]; exact (((HWX.out.trans (qq.mono HWX.out.size))).block _ (by have := HDD.out; omega)).trans HKD.out
                · exact ⟨.bool true, by simp [results, Try.results6, go_sem], rfl, (HBW.out.trans (((HWX.out.trans (qq.mono HWX.out.size))).mono HDD.out.2.2.2)).trans (hS.below (fun E hE => by have := HDD.out; simp at hE; omega))⟩
        · have hpe : pathT bs z = [] := by
            unfold pathT
            rw [if_neg (fun h => hz ⟨h.1, by have := h.2; have := HN.out; omega⟩)]
          have HPath := Lib.hid ((hW.path X p bs z (hT.keep _ _ _ _ HT1.out VX1.out)).mono (R' := fun r w' => ∃ A14 c14, r = .returned (.slice A14 0 c14) ∧ Below X.heap.size X w') (by
            rintro r w' ⟨u, rfl, ⟨A8, c8, rfl, n8, -⟩, k8⟩
            rw [hpe]
            exact ⟨A8, c8, rfl, k8⟩))
          clear hpe
          by_cases hz0 : z < 0
          · gi_wp2_with (first
              | (refine ⟨trivial, ?_⟩; gi_at_call 23; refine (callsIn_wide.2 HPath.out).mono ?_; rintro e w10 ⟨A14, c14, rfl, k10⟩; have K10 := Lib.hid k10; clear k10)
              | refine ⟨trivial, ?_⟩)
            refine leaves_marks [D2, D] _ (by have := HDD.out; simp; omega) (fun E hE => ?_) (fun W' hS => ?_)
            · have hE' : E = D2 ∨ E = D := by simpa using hE
              rcases hE' with e | e
              · rw [e]; exact ((hst.out.trans (K10.out.mono hst.out.size)).block _ HDD.out.2.2.1).trans HK2.out
              · rw [e]; exact ((hst.out.trans (K10.out.mono hst.out.size)).block _ (by have := HDD.out; omega)).trans HKD.out
            · exact ⟨.bool true, by simp [results, Try.results6, go_sem], rfl, (HBW.out.trans ((hst.out.trans (K10.out.mono hst.out.size)).mono HDD.out.2.2.2)).trans (hS.below (fun E hE => by have := HDD.out; simp at hE; omega))⟩
          · have hzn : (n : Int) ≤ z := by omega
            gi_wp2_with (first
              | (refine ⟨trivial, ?_⟩; gi_at_call 23; refine (callsIn_wide.2 HPath.out).mono ?_; rintro e w10 ⟨A14, c14, rfl, k10⟩; have K10 := Lib.hid k10; have V10 := Lib.hid (thru VX1.out k10); clear k10)
              | (refine ⟨trivial, ?_⟩; gi_at_call 18; refine (callsIn_wide.2 (HLen.out _ V10.out)).mono ?_; rintro e w11 ⟨rfl, k11⟩; have K11 := Lib.hid k11; clear k11))
            refine leaves_marks [D2, D] _ (by have := HDD.out; simp; omega) (fun E hE => ?_) (fun W' hS => ?_)
            · have hE' : E = D2 ∨ E = D := by simpa using hE
              rcases hE' with e | e
              · rw [e]; exact ((hst.out.trans ((thru K10.out K11.out).mono hst.out.size)).block _ HDD.out.2.2.1).trans HK2.out
              · rw [e]; exact ((hst.out.trans ((thru K10.out K11.out).mono hst.out.size)).block _ (by have := HDD.out; omega)).trans HKD.out
            · exact ⟨.bool true, by simp [results, Try.results6, go_sem], rfl, (HBW.out.trans ((hst.out.trans ((thru K10.out K11.out).mono hst.out.size)).mono HDD.out.2.2.2)).trans (hS.below (fun E hE => by have := HDD.out; simp at hE; omega))⟩
    refine wpIn_rangeFunc_ownH hro (by omega) (gf := f9) (lb := lb9) rfl trivial heg9 hq9
      (fun h k => h.trans k) (fun W l o o' h1 h2 h3 h4 => StayB.put (N := w8.heap.size) (by omega) (Nat.le_refl _) (fun x e => by injection e with e; omega) W l o o' h1 h2 h3 h4) (Below.refl _ _) (fun _ => rfl)
      (fun pre V => (∃ v, Boxed V S9 45 v ∧ V.ownsRow w8.heap.size 32 2 v pre.length (pre.flatMap encEv.cells) ∧ pre.length ≤ q) ∧ ButOne S9 w8 V)
      (fun cd pre V => cd = .exit 2 ∧ (∃ v, Boxed V S9 45 v ∧ V.ownsRow w8.heap.size 32 2 v q ((pre.take q).flatMap encEv.cells) ∧ q ≤ pre.length) ∧ ButOne S9 w8 V)
      (OwnFrom.and (Own.from (holdsRow_own w8.heap.size S9 45 32 2 (fun pre : List Ev => pre.length) (fun pre : List Ev => pre.flatMap encEv.cells) (fun pre _ => pre.length ≤ q)) _) (ownFrom_butOne (by omega) (Nat.le_refl _)))
      (fun cd => OwnFrom.and (pure_own _) (OwnFrom.and (Own.from (holdsRow_own w8.heap.size S9 45 32 2 (fun _ : List Ev => q) (fun pre : List Ev => (pre.take q).flatMap encEv.cells) (fun pre _ => q ≤ pre.length)) _) (ownFrom_butOne (by omega) (Nat.le_refl _))))
      ⟨⟨_, BS8.out, World.ownsRow_nil _ _ _ _, Nat.zero_le _⟩, ButOne.refl _ _⟩
      (fun x => VarW (fun b5 => { tmps := (Value.slice A n c :: Value.int IntKind.u8 u :: Value.int IntKind.i64 z :: undef :: undef :: undef :: Value.bool false :: Value.pointer (some p) :: Value.pointer (some ⟨w2.heap.size, 0, none⟩) :: Value.pointer (some ⟨S9, 0, none⟩) :: undef :: Value.pointer (some ⟨V1.heap.size, 0, none⟩) :: .pointer (some ⟨b5, 0, none⟩) :: undef :: undef :: undef :: undef :: Value.slice A n c :: Value.pointer (some p) :: Value.bool true :: Value.bool false :: Value.bool false :: Value.pointer (some p) :: Value.bool false :: Value.bool false :: undef :: Value.pointer (some p) :: Value.func (Fn.func f) #[] lb :: undef :: undef :: undef :: undef :: undef :: Value.int IntKind.u8 u :: Value.int IntKind.i64 u :: Value.slice A6 L c6 :: Value.int IntKind.i64 (L : Int) :: Value.int IntKind.i64 (R : Int) :: Value.int IntKind.i64 (q : Int) :: Value.pointer (some p) :: Value.func (Fn.func f9) #[] lb9 :: x.v :: undef :: undef :: undef :: undef :: undef :: undef :: undef :: undef :: undef :: undef :: undef :: undef :: undef :: undef :: undef :: undef :: undef :: undef :: undef :: undef :: undef :: undef :: undef :: undef :: undef :: undef :: undef :: undef :: undef :: undef :: undef :: undef :: undef :: undef :: undef :: undef :: undef :: undef :: undef :: undef :: undef :: undef :: undef :: undef :: undef :: undef :: undef :: undef :: undef :: undef :: undef :: undef :: undef :: undef :: undef :: undef :: undef :: undef :: undef :: undef :: undef :: undef :: undef :: undef :: undef :: undef :: undef :: undef :: undef :: undef :: undef :: undef :: undef :: undef :: undef :: undef :: undef :: undef :: undef :: undef :: undef :: undef :: undef :: undef :: undef :: undef :: undef :: undef :: undef :: undef :: undef :: undef :: []).toArray, defers := [] }) x) (fun x a' => varW_own _ x a' _) ?assign2 ?body2 ?done2 ?stop2
    case assign2 =>
      intro l pre x V K hI hK
      obtain ⟨⟨v, i1, i2, i3⟩, i4⟩ := hI
      have HK := Lib.hid hK
      clear hK
      simp only [encW]
      gi_wp2_with fail
      have hk := ba1 V (.cells #[.int .i64 x.a, .bool x.l] 32)
      have hg := grown_of_below hk
      have hwl := i4.low.size
      exact HK.out _ _ (below_keeps hk) (StayB.of_below hk (by omega) (by omega) (Nat.le_refl _) (fun y e => by injection e with e; omega)) ⟨⟨v, i1.kept hg (by simp), World.ownsRow.alloc i2 _, i3⟩, i4.trans (ButOne.of_below hk (by omega))⟩ ⟨V.heap.size, rfl, heap_alloc_new V _⟩
    case body2 =>
      rintro l pre x a' V hl - ⟨⟨v, i1, i2, i3⟩, i4⟩ ⟨b5, rfl, h5⟩ hlt
      obtain ⟨A8, c8, rfl⟩ := shapeE i2
      have hx0 : V.cell? ⟨b5, 0, none⟩ = some (.int .i64 x.a) := by rw [cell_of_row V b5 0 _ _ _ h5]; rfl
      have hx1 : V.cell? ⟨b5, 1, none⟩ = some (.bool x.l) := by rw [cell_of_row V b5 1 _ _ _ h5]; rfl
      obtain ⟨l8, hl8⟩ : ∃ l8, pre.length = l8 := ⟨_, rfl⟩
      rw [hl8] at i1 i2 i3 hlt
      have hm : Evs V w8.heap.size A8 l8 c8 pre := i2
      have hl81 : l8 + 1 ≤ 1000000 := by omega
      have HLl := Lib.hid hl8
      have HBX := Lib.hid i1
      have HM := Lib.hid hm
      have HV := Lib.hid i4
      have hvl := i4.low.size
      have bc := i1.cell
      have nc : V.cell? ⟨V1.heap.size, 0, none⟩ = some (.int .i64 (q : Int)) := (World.cell?_of_block (w := w8) (a := ⟨V1.heap.size, 0, none⟩) (i4.rest V1.heap.size (by omega) (by omega))).trans BN.out.cell
      obtain ⟨xa, xl⟩ := x
      clear i1 i2 i4 hm h5 hlt
      dsimp only at hx0 hx1 ⊢
      rcases Nat.lt_or_ge l8 q with hlq | hlq
      · have hlq1 : ((l8 : Int) == (q : Int)) = false := by rw [beq_eq_false_iff_ne]; omega
        gi_wp2_with (first
          | (gi_at_builtin; refine wpListIn_append_ev _ rfl (.tmp 46) (.tmp 48) rfl w8.heap.size A8 l8 c8 pre rfl (HM.out.alloc _) (some ⟨V.heap.size, 0, none⟩) 1 1 [⟨xa, xl⟩] rfl (oneE_src encEv V ⟨xa, xl⟩ 32) (by omega) (by simp; omega) ?_; intro A1 c1 W1 h1; obtain ⟨y1, y2, y3, y4, y5, y6, y7⟩ := more_ev (s1 := w1.heap.size) (a := W7.heap.size) (b := w8.heap.size) (d := w8.heap.size) HBX.out HM.out (by omega) (.inl (by omega)) (by omega) (by omega) (Nat.le_refl _) (by omega) h1; have Y1 := Lib.hid y1; have Y3 := Lib.hid y3; have Y4 := Lib.hid y4; have Y5 := Lib.hid y5; have Y6 := Lib.hid y6; have Y7 := Lib.hid y7; have hc1 := y2.cell; have hf1 := y2.frozen; clear h1 y1 y2 y3 y4 y5 y6 y7))
        refine ⟨Y5.out.from _, Y1.out, ⟨_, Y3.out, ?_⟩, ⟨HV.out.low.trans ⟨Y6.out.os, Y6.out.tape, Y6.out.output, Y6.out.size, fun k hk => Y7.out k (by omega) (by omega) (by omega)⟩, fun k hk hne => (Y7.out k (by omega) hne hk).trans (HV.out.rest k hk hne)⟩⟩
        rw [List.length_append, HLl.out]
        exact ⟨Y4.out, by simp; omega⟩
      · have hlq1 : ((l8 : Int) == (q : Int)) = true := by simp; omega
        obtain rfl : l8 = q := by omega
        gi_wp2_with fail
        refine ⟨KeepsFrom.refl _ _, rfl, ⟨_, HBX.out, ?_⟩, HV.out⟩
        rw [List.take_append_of_le_length (by omega), List.take_of_length_le (by omega)]
        exact ⟨HM.out, by simp; omega⟩
    case done2 =>
      rintro D2 xs V hD2 rfl ⟨⟨v, i1, i2, i3⟩, i4⟩ hK2
      obtain ⟨A8, c8, rfl⟩ := shapeE i2
      rw [HL.out] at i1 i2 i3
      obtain rfl : q = L := by omega
      exact (KEY D2 V A8 c8 hD2 hK2 i1 (by rw [List.take_of_length_le (by have := HL.out; omega)]; exact i2) i4)
    case stop2 =>
      rintro D2 cd pre V hD2 hpre ⟨rfl, ⟨v, i1, i2, i3⟩, i4⟩ hK2
      obtain ⟨A8, c8, rfl⟩ := shapeE i2
      obtain ⟨t, ht⟩ := hpre
      have htk : ys.take q = pre.take q := by rw [← ht, List.take_append_of_le_length i3]
      have := KEY D2 V A8 c8 hD2 hK2 i1 (by rw [htk]; exact i2) i4
      exact wpIn_exit this

theorem ends_any (hT : TreeOk T) (hW : WalkOk T) (A : Option Addr) (n c : Nat) (bs : List Bx) (u z : Int) (hu : 0 ≤ u ∧ u ≤ 255) (w : World) (hn : n = bs.length) (hm : n ≤ 9223372036854775807) (hx : Boxes w w.heap.size A bs) (hb : ∀ b ∈ bs, OkB b) :
    Calls Try.prog 6 #[.slice A n c, .int .u8 u, .int .i64 z] w fun e w' => e = .returned (.bool true) ∧ Below w.heap.size w w' := by
  refine (callsIn_wide (n := 6)).1 ?_
  rcases begun_or hT A n c bs w hn hm hx hb with ⟨h, hs, hf, hb⟩ | h
  · exact ends_yes hT hW A n c u z hu bs w hs hn h hb
  · exact ends_no hT hW A n c u z w h
end

end Go.Proofs.Ytflncnfagoekcaa.Walk
