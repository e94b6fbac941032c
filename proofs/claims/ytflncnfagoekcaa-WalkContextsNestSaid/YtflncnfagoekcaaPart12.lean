/- The law's example. -/
import Derived.Test.YtflncnfagoekcaaPart10
import Derived.Test.YtflncnfagoekcaaPart11
import Derived.Laws.CopyOwn
import Derived.Sort.CutIn
namespace Go.Proofs.Ytflncnfagoekcaa.Walk
open Go.RowKit Go.Shelf Go.Sort Go.Proofs.Ytflncnfagoekcaa.Record Go.Proofs.Ytflncnfagoekcaa.Script Go.Proofs.Ytflncnfagoekcaa.Tree Go.Proofs.Ytflncnfagoekcaa.More

attribute [local go_sem] Oper.semAt_some

/-- A loop variable of events in a block of its own. -/
def VarW (f : Nat → Act) (x : Ev) (a' : Act) (W : World) : Prop :=
  ∃ b5, a' = f b5 ∧ W.heap[b5]? = some (.cells (encEv.cells x).toArray 32)

theorem varW_own (f : Nat → Act) (x : Ev) (a' : Act) (N : Nat) : OwnFrom N (fun (_ : Unit) W => VarW f x a' W) := by
  rintro _ W W' row ⟨b5, e, hb⟩ hg hr
  refine ⟨b5, e, (hg.block b5 (Array.getElem?_eq_some_iff.1 hb).1 (fun e => ?_)).trans hb⟩
  obtain ⟨o, ho, hc⟩ := (hr b5 e.symm).2
  rw [hb] at ho; cases ho; cases hc

theorem sizeEvW : (Try.prog.info? 32).map (·.size) = some 2 := by kernel_rfl

theorem below_keeps {N : Nat} {W W' : World} (k : Below W.heap.size W W') : KeepsFrom N W W' := ⟨k.size, fun i _ _ hi _ => (k.block i (Array.getElem?_eq_some_iff.1 hi).1).trans hi⟩

theorem pure_own {β : Type} {N : Nat} (P : β → Prop) : OwnFrom N (fun s (_ : World) => P s) := fun _ _ _ _ h _ _ => h

theorem take_step {evs pre : List Ev} {x : Ev} (hp : pre = evs.take pre.length) (hx : evs[pre.length]? = some x) : pre ++ [x] = evs.take (pre ++ [x]).length := by
  rw [List.length_append, List.length_cons, List.length_nil, Nat.zero_add, List.take_add_one, ← hp, hx]
  rfl

theorem take_prefix {evs pre : List Ev} (h : pre <+: evs) : pre = evs.take pre.length := by
  obtain ⟨t, rfl⟩ := h
  simp

section
variable {T : World → Addr → List Bx → Prop}

set_option maxRecDepth 100000 in
set_option maxHeartbeats 4000000 in
theorem wspeaks (hT : TreeOk T) (hW : WalkOk T) (w : World) : CallsIn Fence.wide 6 Try.prog 10 #[] w fun e w' => e = .returned (.bool true) ∧ Below w.heap.size w w' := by
  have hro : Fence.wide.round = none := rfl
  refine callsIn_of_wp_marks Try.func10 rfl trivial ?_ hro
  simp only [Try.ntmps10, List.size_toArray, List.length_nil, Nat.reduceSub, Array.replicate_succ, Array.replicate_zero, List.push_toArray, List.append_toArray, List.nil_append, List.cons_append]
  have hnil := funcNil
  gi_upto_region 1 with fail
  generalize hWa : World.alloc w _ = Wa
  have hka : Below w.heap.size w Wa := by rw [← hWa]; exact ba1 _ _
  have hbr : Boxed Wa w.heap.size 4 (.bool false) := by rw [← hWa]; exact Boxed.new _ _ _
  clear hWa
  have HB := Lib.hid (hT.yes (some ⟨Wa.heap.size, 0, none⟩) 2 2 exB _ rfl (by omega) (by omega) (litB_boxes Wa exB 48 (by decide)) exB_ok exB_fine)
  have hkb := ba1 Wa (.cells (exB.flatMap cellsOfB).toArray 48)
  have KA := Lib.hid (thru hka hkb)
  have BR := Lib.hid (hbr.alloc (.cells (exB.flatMap cellsOfB).toArray 48))
  clear hka hkb hbr
  gi_upto_region 2 with (first
    | (refine ⟨trivial, ?_⟩; gi_at_call 27; refine (callsIn_wide.2 HB.out).mono ?_; rintro e w1 ⟨⟨p, rfl, ht⟩, k1⟩; have HT1 := Lib.hid ht; have K1 := Lib.hid (thru KA.out k1); have BR1 := Lib.hid (BR.out.kept (grown_of_below k1) (by simp)); clear ht k1))
  clear KA BR HB
  gi_upto_region 4 with (first
    | (refine ⟨trivial, ?_⟩; gi_at_call 12; refine (callsIn_wide.2 (hW.all _ _ _ _ HT1.out (Below.refl _ _))).mono ?_; rintro e w2 ⟨⟨f2, lb2, rfl, -, -⟩, k2⟩; have K2 := Lib.hid k2; have BR2 := Lib.hid (BR1.out.kept (grown_of_below k2) (by simp)); clear k2)
    | (refine ⟨trivial, ?_⟩; gi_at_call 14; refine (callsIn_wide.2 (hW.ctx _ _ _ _ 0 HT1.out K2.out)).mono ?_; rintro e w3 ⟨⟨f3, lb3, rfl, -, -⟩, k3⟩; have K3 := Lib.hid (thru K2.out k3); have BR3 := Lib.hid (BR2.out.kept (grown_of_below k3) (by simp)); clear k3))
  clear BR1 BR2 K2
  gi_upto_region 5 with fail
  generalize hWc : World.alloc w3 _ = Wc
  have hkc := ba1 w3 (.cells #[.int .i64 0] 3)
  have hbc := Boxed.new w3 3 (.int .i64 0)
  have hbb := BR3.out.alloc (.cells #[.int .i64 0] 3)
  have hsc : (w3.alloc (.cells #[.int .i64 0] 3)).heap.size = w3.heap.size + 1 := by simp
  rw [hWc] at hkc hbc hbb hsc
  have KC := Lib.hid (thru K3.out hkc)
  have hs3 := K3.out.size
  have hs1 := K1.out.size
  have hs2 := BR3.out.lt
  clear hWc hkc
  gi_wp2_with (first
    | (refine ⟨trivial, ?_⟩; gi_at_call 12; refine (callsIn_wide.2 (hW.all _ _ _ _ HT1.out KC.out)).mono ?_; rintro e w5 ⟨⟨f, lb, rfl, heg, hseq⟩, k5⟩))
  have b5n := hbc.kept (grown_of_below k5) (by simp)
  have b5r := hbb.kept (grown_of_below k5) (by simp)
  have K5 : Below w.heap.size w w5 := thru K1.out (thru KC.out k5)
  have hs5 := k5.size
  have hq := Gives.plain hseq 5 (by omega)
  rw [exB_all] at hq
  clear hseq
  refine wpIn_rangeFunc_ownH hro (by omega) (gf := f) (lb := lb) rfl trivial heg hq
    (fun h k => h.trans k) (fun W l o o' h1 h2 h3 h4 => Stay.put (N := w5.heap.size) (by omega) (Nat.le_refl _) W l o o' h1 h2 h3 h4) (Below.refl _ _) (fun _ => rfl)
    (fun pre W => (Boxed W w3.heap.size 3 (.int .i64 (pre.length : Int)) ∧ Boxed W w.heap.size 4 (.bool false)) ∧ pre = exE.take pre.length ∧ Below w.heap.size w5 W)
    (fun _ pre _ => pre = exE.take pre.length → False)
    (OwnFrom.and (OwnFrom.and (Own.from (boxed_own _ _ _) _) (Own.from (boxed_own _ _ _) _)) (OwnFrom.and (pure_own _) (ownFrom_below (by omega) (by omega))))
    (fun _ => pure_own _)
    ⟨⟨b5n, b5r⟩, rfl, Below.refl _ _⟩
    (fun x => VarW (fun b5 => { tmps := #[Value.pointer (some ⟨w.heap.size, 0, none⟩), Value.pointer (some p), Value.int IntKind.i64 (-1), Value.int IntKind.i64 0, Value.pointer (some ⟨w3.heap.size, 0, none⟩), .pointer (some ⟨b5, 0, none⟩), Value.tuple #[Value.pointer (some p), Value.int IntKind.i64 (-1), Value.int IntKind.i64 0], Value.agg #[Value.int IntKind.i64 0, Value.int IntKind.i64 3, Value.int IntKind.i64 0, Value.int IntKind.i64 0, Value.int IntKind.i64 0, Value.int IntKind.i64 0, Value.int IntKind.i64 0, Value.int IntKind.i64 0, Value.int IntKind.i64 0, Value.int IntKind.i64 0, Value.int IntKind.i64 0, Value.int IntKind.i64 0, Value.int IntKind.i64 0, Value.int IntKind.i64 0], Value.agg #[Value.int IntKind.i64 1, Value.int IntKind.i64 1, Value.int IntKind.i64 0, Value.int IntKind.i64 0, Value.int IntKind.i64 0, Value.int IntKind.i64 0, Value.int IntKind.i64 0, Value.int IntKind.i64 0, Value.int IntKind.i64 0, Value.int IntKind.i64 0, Value.int IntKind.i64 0, Value.int IntKind.i64 0, Value.int IntKind.i64 0, Value.int IntKind.i64 0], Value.slice (some ⟨Wa.heap.size, 0, none⟩) 2 2, Value.tuple #[Value.pointer (some p), Value.int IntKind.i64 (-1), Value.int IntKind.i64 0], Value.pointer (some p), Value.int IntKind.i64 (-1), Value.int IntKind.i64 0, Value.int IntKind.i64 0, Value.bool false, Value.bool false, Value.pointer (some p), Value.bool false, Value.bool false, Value.bool false, Value.pointer (some p), Value.func (Fn.func f2) #[] lb2, Value.bool false, Value.bool false, Value.bool false, Value.pointer (some p), Value.func (Fn.func f3) #[] lb3, Value.bool false, Value.bool false, Value.pointer (some p), Value.func (Fn.func f) #[] lb, x.v, undef, undef, undef, undef, undef, undef, undef, undef, undef, undef, undef, undef, undef, undef], defers := [] }) x) (fun x a' => varW_own _ x a' _) ?assign ?body ?done ?stop
  case assign =>
    intro l pre x W K hI hK
    obtain ⟨⟨i1, i2⟩, i3, i4⟩ := hI
    have HK := Lib.hid hK
    clear hK
    simp only [encW]
    gi_wp2_with fail
    have hk := ba1 W (.cells #[.int .i64 x.a, .bool x.l] 32)
    have hg := grown_of_below hk
    have hwl := i4.size
    exact HK.out _ _ (below_keeps hk) (Stay.grown hg ⟨by omega, by omega⟩ (fun r e => by cases e)) ⟨⟨i1.kept hg (by simp), i2.kept hg (by simp)⟩, i3, i4.trans (hk.mono (by omega))⟩ ⟨W.heap.size, rfl, heap_alloc_new W _⟩
  case body =>
    rintro l pre x a' W hl - ⟨⟨i1, i2⟩, i3, i4⟩ ⟨b5, rfl, h5⟩ hlt
    have HBR := Lib.hid i2
    have HP := Lib.hid i3
    have HW5 := Lib.hid i4
    have hx0 : W.cell? ⟨b5, 0, none⟩ = some (.int .i64 x.a) := by rw [cell_of_row W b5 0 _ _ _ h5]; rfl
    have hx1 : W.cell? ⟨b5, 1, none⟩ = some (.bool x.l) := by rw [cell_of_row W b5 1 _ _ _ h5]; rfl
    have hnc := i1.cell
    obtain ⟨m, hm⟩ : ∃ m, pre.length = m := ⟨_, rfl⟩
    have HM := Lib.hid hm
    have hwl := i4.size
    rw [hm] at hnc hlt i1
    have HBN := Lib.hid i1
    have hm4 : m < 4 := hlt
    clear i1 i2 i3 i4 h5 hlt hm
    dsimp only
    obtain rfl | rfl | rfl | rfl : m = 0 ∨ m = 1 ∨ m = 2 ∨ m = 3 := by omega
    · have hexm : exE[0]? = some (⟨0, false⟩ : Ev) := rfl
      obtain ⟨sm, hsm⟩ : ∃ sm, sameEv x (⟨0, false⟩ : Ev) = sm := ⟨_, rfl⟩
      have E := eqEvW x (⟨0, false⟩ : Ev)
      rw [hsm] at E
      have HSM := Lib.hid hsm
      clear hsm
      cases sm
      · gi_upto_region 7 with fail
        refine wpIn_region_told [.val (x.v), .val ((⟨0, false⟩ : Ev).v), .val ((⟨1, false⟩ : Ev).v), .val ((⟨1, true⟩ : Ev).v), .val ((⟨0, true⟩ : Ev).v), .val (.agg #[.int .i64 0, .bool false, .int .i64 1, .bool false, .int .i64 1, .bool true, .int .i64 0, .bool true]), .val (.int .i64 0), .val (.int .i64 0), .val ((⟨0, false⟩ : Ev).v)] (by kernel_rfl) (by kernel_rfl) (by kernel_rfl) ?_ ?_
        · simp only [Told.fill, Told.Leave.value]
          refine ⟨?_, ?_, ?_, ?_, ?_, ?_, ?_, ?_, ?_, trivial⟩
          · intro gg w' hw hk
            have q0 := (hw.cell (p := ⟨b5, 0, none⟩) (block_lt_of_cell hx0)).trans hx0
            have q1 := (hw.cell (p := ⟨b5, 1, none⟩) (block_lt_of_cell hx1)).trans hx1
            go_simp
            exact ⟨rfl, rfl⟩
          · intro gg w' hw hk
            go_simp
            exact ⟨rfl, rfl⟩
          · intro gg w' hw hk
            go_simp
            exact ⟨rfl, rfl⟩
          · intro gg w' hw hk
            go_simp
            exact ⟨rfl, rfl⟩
          · intro gg w' hw hk
            go_simp
            exact ⟨rfl, rfl⟩
          · intro gg w' hw hk
            go_simp
            exact ⟨rfl, rfl⟩
          · intro gg w' hw hk
            have q0 := (hw.cell (p := ⟨w3.heap.size, 0, none⟩) (block_lt_of_cell hnc)).trans hnc
            go_simp
            exact ⟨rfl, rfl⟩
          · intro gg w' hw hk
            go_simp
            exact ⟨rfl, rfl⟩
          · intro gg w' hw hk
            go_simp
            exact ⟨rfl, rfl⟩
        · intro gg W2 qq hbox hap
          clear hbox hap
          simp only [Told.fill, Told.Leave.value, List.length_cons, List.length_nil, Nat.reduceAdd, Nat.reduceSub]
          refine wpAnyIn_ready (rs := [9]) (by kernel_rfl) (by simp) ?_
          refine AllReadyIn.cons rfl (fun K hK => ?_) AllReadyIn.nil
          go_simp
          refine hK _ _ ?_
          clear hK K
          refine wpAnyIn_done (by kernel_rfl) ?_ _
          have r2 := HBR.out.kept (grown_of_below qq) (by simp)
          have rc := r2.cell
          have rf := r2.frozen
          gi_wp2_with fail
          refine ⟨(below_keeps qq).trans ((KeepsOthers.setCell _ _ _).from _), fun h => ?_⟩
          rw [List.length_append, HM.out] at h
          have h9 : (pre ++ [x])[0]? = some (⟨0, false⟩ : Ev) := by rw [h]; rfl
          rw [List.getElem?_append_right (by rw [HM.out]; omega), HM.out] at h9
          have h8 : x = (⟨0, false⟩ : Ev) := by simpa using h9
          have h7 := (sameEv_iff x (⟨0, false⟩ : Ev)).2 h8
          rw [HSM.out] at h7
          cases h7
      · gi_upto_region 7 with fail
        refine wpIn_region_told [.val (x.v), .val ((⟨0, false⟩ : Ev).v), .val ((⟨1, false⟩ : Ev).v), .val ((⟨1, true⟩ : Ev).v), .val ((⟨0, true⟩ : Ev).v), .val (.agg #[.int .i64 0, .bool false, .int .i64 1, .bool false, .int .i64 1, .bool true, .int .i64 0, .bool true]), .val (.int .i64 0), .val (.int .i64 0), .val ((⟨0, false⟩ : Ev).v)] (by kernel_rfl) (by kernel_rfl) (by kernel_rfl) ?_ ?_
        · simp only [Told.fill, Told.Leave.value]
          refine ⟨?_, ?_, ?_, ?_, ?_, ?_, ?_, ?_, ?_, trivial⟩
          · intro gg w' hw hk
            have q0 := (hw.cell (p := ⟨b5, 0, none⟩) (block_lt_of_cell hx0)).trans hx0
            have q1 := (hw.cell (p := ⟨b5, 1, none⟩) (block_lt_of_cell hx1)).trans hx1
            go_simp
            exact ⟨rfl, rfl⟩
          · intro gg w' hw hk
            go_simp
            exact ⟨rfl, rfl⟩
          · intro gg w' hw hk
            go_simp
            exact ⟨rfl, rfl⟩
          · intro gg w' hw hk
            go_simp
            exact ⟨rfl, rfl⟩
          · intro gg w' hw hk
            go_simp
            exact ⟨rfl, rfl⟩
          · intro gg w' hw hk
            go_simp
            exact ⟨rfl, rfl⟩
          · intro gg w' hw hk
            have q0 := (hw.cell (p := ⟨w3.heap.size, 0, none⟩) (block_lt_of_cell hnc)).trans hnc
            go_simp
            exact ⟨rfl, rfl⟩
          · intro gg w' hw hk
            go_simp
            exact ⟨rfl, rfl⟩
          · intro gg w' hw hk
            go_simp
            exact ⟨rfl, rfl⟩
        · intro gg W2 qq hbox hap
          clear hbox hap
          simp only [Told.fill, Told.Leave.value, List.length_cons, List.length_nil, Nat.reduceAdd, Nat.reduceSub]
          refine wpAnyIn_ready (rs := [9]) (by kernel_rfl) (by simp) ?_
          refine AllReadyIn.cons rfl (fun K hK => ?_) AllReadyIn.nil
          go_simp
          refine hK _ _ ?_
          clear hK K
          refine wpAnyIn_done (by kernel_rfl) ?_ _
          have n2 := HBN.out.kept (grown_of_below qq) (by simp)
          have r2 := HBR.out.kept (grown_of_below qq) (by simp)
          have nc := n2.cell
          have nf := n2.frozen
          gi_wp2_with fail
          have hxx : x = (⟨0, false⟩ : Ev) := (sameEv_iff _ _).1 HSM.out
          have hlen : (pre ++ [x]).length = 1 := by rw [List.length_append, HM.out]; rfl
          have g1 := grown_of_below qq
          refine ⟨(below_keeps qq).trans ((KeepsOthers.setCell _ _ _).from _), (Stay.grown g1 ⟨by omega, by omega⟩ (fun r e => by cases e)).trans (Stay.grown (grownBy_setCell' W2 w3.heap.size _) ⟨by have := qq.size; omega, by have := qq.size; omega⟩ (fun r e => by injection e with e; subst e; exact ⟨by omega, by omega⟩)), ⟨?_, r2.other (by omega) _⟩, ?_, (HW5.out.trans (qq.mono (by omega))).setCell (p := ⟨w3.heap.size, 0, none⟩) (Nat.le_of_lt hs2) _⟩
          · rw [hlen]; exact n2.set (.int .i64 1)
          · rw [hxx]
            exact take_step HP.out (by rw [HM.out]; rfl)
    · have hexm : exE[1]? = some (⟨1, false⟩ : Ev) := rfl
      obtain ⟨sm, hsm⟩ : ∃ sm, sameEv x (⟨1, false⟩ : Ev) = sm := ⟨_, rfl⟩
      have E := eqEvW x (⟨1, false⟩ : Ev)
      rw [hsm] at E
      have HSM := Lib.hid hsm
      clear hsm
      cases sm
      · gi_upto_region 7 with fail
        refine wpIn_region_told [.val (x.v), .val ((⟨0, false⟩ : Ev).v), .val ((⟨1, false⟩ : Ev).v), .val ((⟨1, true⟩ : Ev).v), .val ((⟨0, true⟩ : Ev).v), .val (.agg #[.int .i64 0, .bool false, .int .i64 1, .bool false, .int .i64 1, .bool true, .int .i64 0, .bool true]), .val (.int .i64 1), .val (.int .i64 1), .val ((⟨1, false⟩ : Ev).v)] (by kernel_rfl) (by kernel_rfl) (by kernel_rfl) ?_ ?_
        · simp only [Told.fill, Told.Leave.value]
          refine ⟨?_, ?_, ?_, ?_, ?_, ?_, ?_, ?_, ?_, trivial⟩
          · intro gg w' hw hk
            have q0 := (hw.cell (p := ⟨b5, 0, none⟩) (block_lt_of_cell hx0)).trans hx0
            have q1 := (hw.cell (p := ⟨b5, 1, none⟩) (block_lt_of_cell hx1)).trans hx1
            go_simp
            exact ⟨rfl, rfl⟩
          · intro gg w' hw hk
            go_simp
            exact ⟨rfl, rfl⟩
          · intro gg w' hw hk
            go_simp
            exact ⟨rfl, rfl⟩
          · intro gg w' hw hk
            go_simp
            exact ⟨rfl, rfl⟩
          · intro gg w' hw hk
            go_simp
            exact ⟨rfl, rfl⟩
          · intro gg w' hw hk
            go_simp
            exact ⟨rfl, rfl⟩
          · intro gg w' hw hk
            have q0 := (hw.cell (p := ⟨w3.heap.size, 0, none⟩) (block_lt_of_cell hnc)).trans hnc
            go_simp
            exact ⟨rfl, rfl⟩
          · intro gg w' hw hk
            go_simp
            exact ⟨rfl, rfl⟩
          · intro gg w' hw hk
            go_simp
            exact ⟨rfl, rfl⟩
        · intro gg W2 qq hbox hap
          clear hbox hap
          simp only [Told.fill, Told.Leave.value, List.length_cons, List.length_nil, Nat.reduceAdd, Nat.reduceSub]
          refine wpAnyIn_ready (rs := [9]) (by kernel_rfl) (by simp) ?_
          refine AllReadyIn.cons rfl (fun K hK => ?_) AllReadyIn.nil
          go_simp
          refine hK _ _ ?_
          clear hK K
          refine wpAnyIn_done (by kernel_rfl) ?_ _
          have r2 := HBR.out.kept (grown_of_below qq) (by simp)
          have rc := r2.cell
          have rf := r2.frozen
          gi_wp2_with fail
          refine ⟨(below_keeps qq).trans ((KeepsOthers.setCell _ _ _).from _), fun h => ?_⟩
          rw [List.length_append, HM.out] at h
          have h9 : (pre ++ [x])[1]? = some (⟨1, false⟩ : Ev) := by rw [h]; rfl
          rw [List.getElem?_append_right (by rw [HM.out]; omega), HM.out] at h9
          have h8 : x = (⟨1, false⟩ : Ev) := by simpa using h9
          have h7 := (sameEv_iff x (⟨1, false⟩ : Ev)).2 h8
          rw [HSM.out] at h7
          cases h7
      · gi_upto_region 7 with fail
        refine wpIn_region_told [.val (x.v), .val ((⟨0, false⟩ : Ev).v), .val ((⟨1, false⟩ : Ev).v), .val ((⟨1, true⟩ : Ev).v), .val ((⟨0, true⟩ : Ev).v), .val (.agg #[.int .i64 0, .bool false, .int .i64 1, .bool false, .int .i64 1, .bool true, .int .i64 0, .bool true]), .val (.int .i64 1), .val (.int .i64 1), .val ((⟨1, false⟩ : Ev).v)] (by kernel_rfl) (by kernel_rfl) (by kernel_rfl) ?_ ?_
        · simp only [Told.fill, Told.Leave.value]
          refine ⟨?_, ?_, ?_, ?_, ?_, ?_, ?_, ?_, ?_, trivial⟩
          · intro gg w' hw hk
            have q0 := (hw.cell (p := ⟨b5, 0, none⟩) (block_lt_of_cell hx0)).trans hx0
            have q1 := (hw.cell (p := ⟨b5, 1, none⟩) (block_lt_of_cell hx1)).trans hx1
            go_simp
            exact ⟨rfl, rfl⟩
          · intro gg w' hw hk
            go_simp
            exact ⟨rfl, rfl⟩
          · intro gg w' hw hk
            go_simp
            exact ⟨rfl, rfl⟩
          · intro gg w' hw hk
            go_simp
            exact ⟨rfl, rfl⟩
          · intro gg w' hw hk
            go_simp
            exact ⟨rfl, rfl⟩
          · intro gg w' hw hk
            go_simp
            exact ⟨rfl, rfl⟩
          · intro gg w' hw hk
            have q0 := (hw.cell (p := ⟨w3.heap.size, 0, none⟩) (block_lt_of_cell hnc)).trans hnc
            go_simp
            exact ⟨rfl, rfl⟩
          · intro gg w' hw hk
            go_simp
            exact ⟨rfl, rfl⟩
          · intro gg w' hw hk
            go_simp
            exact ⟨rfl, rfl⟩
        · intro gg W2 qq hbox hap
          clear hbox hap
          simp only [Told.fill, Told.Leave.value, List.length_cons, List.length_nil, Nat.reduceAdd, Nat.reduceSub]
          refine wpAnyIn_ready (rs := [9]) (by kernel_rfl) (by simp) ?_
          refine AllReadyIn.cons rfl (fun K hK => ?_) AllReadyIn.nil
          go_simp
          refine hK _ _ ?_
          clear hK K
          refine wpAnyIn_done (by kernel_rfl) ?_ _
          have n2 := HBN.out.kept (grown_of_below qq) (by simp)
          have r2 := HBR.out.kept (grown_of_below qq) (by simp)
          have nc := n2.cell
          have nf := n2.frozen
          gi_wp2_with fail
          have hxx : x = (⟨1, false⟩ : Ev) := (sameEv_iff _ _).1 HSM.out
          have hlen : (pre ++ [x]).length = 2 := by rw [List.length_append, HM.out]; rfl
          have g1 := grown_of_below qq
          refine ⟨(below_keeps qq).trans ((KeepsOthers.setCell _ _ _).from _), (Stay.grown g1 ⟨by omega, by omega⟩ (fun r e => by cases e)).trans (Stay.grown (grownBy_setCell' W2 w3.heap.size _) ⟨by have := qq.size; omega, by have := qq.size; omega⟩ (fun r e => by injection e with e; subst e; exact ⟨by omega, by omega⟩)), ⟨?_, r2.other (by omega) _⟩, ?_, (HW5.out.trans (qq.mono (by omega))).setCell (p := ⟨w3.heap.size, 0, none⟩) (Nat.le_of_lt hs2) _⟩
          · rw [hlen]; exact n2.set (.int .i64 2)
          · rw [hxx]
            exact take_step HP.out (by rw [HM.out]; rfl)
    · have hexm : exE[2]? = some (⟨1, true⟩ : Ev) := rfl
      obtain ⟨sm, hsm⟩ : ∃ sm, sameEv x (⟨1, true⟩ : Ev) = sm := ⟨_, rfl⟩
      have E := eqEvW x (⟨1, true⟩ : Ev)
      rw [hsm] at E
      have HSM := Lib.hid hsm
      clear hsm
      cases sm
      · gi_upto_region 7 with fail
        refine wpIn_region_told [.val (x.v), .val ((⟨0, false⟩ : Ev).v), .val ((⟨1, false⟩ : Ev).v), .val ((⟨1, true⟩ : Ev).v), .val ((⟨0, true⟩ : Ev).v), .val (.agg #[.int .i64 0, .bool false, .int .i64 1, .bool false, .int .i64 1, .bool true, .int .i64 0, .bool true]), .val (.int .i64 2), .val (.int .i64 2), .val ((⟨1, true⟩ : Ev).v)] (by kernel_rfl) (by kernel_rfl) (by kernel_rfl) ?_ ?_
        · simp only [Told.fill, Told.Leave.value]
          refine ⟨?_, ?_, ?_, ?_, ?_, ?_, ?_, ?_, ?_, trivial⟩
          · intro gg w' hw hk
            have q0 := (hw.cell (p := ⟨b5, 0, none⟩) (block_lt_of_cell hx0)).trans hx0
            have q1 := (hw.cell (p := ⟨b5, 1, none⟩) (block_lt_of_cell hx1)).trans hx1
            go_simp
            exact ⟨rfl, rfl⟩
          · intro gg w' hw hk
            go_simp
            exact ⟨rfl, rfl⟩
          · intro gg w' hw hk
            go_simp
            exact ⟨rfl, rfl⟩
          · intro gg w' hw hk
            go_simp
            exact ⟨rfl, rfl⟩
          · intro gg w' hw hk
            go_simp
            exact ⟨rfl, rfl⟩
          · intro gg w' hw hk
            go_simp
            exact ⟨rfl, rfl⟩
          · intro gg w' hw hk
            have q0 := (hw.cell (p := ⟨w3.heap.size, 0, none⟩) (block_lt_of_cell hnc)).trans hnc
            go_simp
            exact ⟨rfl, rfl⟩
          · intro gg w' hw hk
            go_simp
            exact ⟨rfl, rfl⟩
          · intro gg w' hw hk
            go_simp
            exact ⟨rfl, rfl⟩
        · intro gg W2 qq hbox hap
          clear hbox hap
          simp only [Told.fill, Told.Leave.value, List.length_cons, List.length_nil, Nat.reduceAdd, Nat.reduceSub]
          refine wpAnyIn_ready (rs := [9]) (by kernel_rfl) (by simp) ?_
          refine AllReadyIn.cons rfl (fun K hK => ?_) AllReadyIn.nil
          go_simp
          refine hK _ _ ?_
          clear hK K
          refine wpAnyIn_done (by kernel_rfl) ?_ _
          have r2 := HBR.out.kept (grown_of_below qq) (by simp)
          have rc := r2.cell
          have rf := r2.frozen
          gi_wp2_with fail
          refine ⟨(below_keeps qq).trans ((KeepsOthers.setCell _ _ _).from _), fun h => ?_⟩
          rw [List.length_append, HM.out] at h
          have h9 : (pre ++ [x])[2]? = some (⟨1, true⟩ : Ev) := by rw [h]; rfl
          rw [List.getElem?_append_right (by rw [HM.out]; omega), HM.out] at h9
          have h8 : x = (⟨1, true⟩ : Ev) := by simpa using h9
          have h7 := (sameEv_iff x (⟨1, true⟩ : Ev)).2 h8
          rw [HSM.out] at h7
          cases h7
      · gi_upto_region 7 with fail
        refine wpIn_region_told [.val (x.v), .val ((⟨0, false⟩ : Ev).v), .val ((⟨1, false⟩ : Ev).v), .val ((⟨1, true⟩ : Ev).v), .val ((⟨0, true⟩ : Ev).v), .val (.agg #[.int .i64 0, .bool false, .int .i64 1, .bool false, .int .i64 1, .bool true, .int .i64 0, .bool true]), .val (.int .i64 2), .val (.int .i64 2), .val ((⟨1, true⟩ : Ev).v)] (by kernel_rfl) (by kernel_rfl) (by kernel_rfl) ?_ ?_
        · simp only [Told.fill, Told.Leave.value]
          refine ⟨?_, ?_, ?_, ?_, ?_, ?_, ?_, ?_, ?_, trivial⟩
          · intro gg w' hw hk
            have q0 := (hw.cell (p := ⟨b5, 0, none⟩) (block_lt_of_cell hx0)).trans hx0
            have q1 := (hw.cell (p := ⟨b5, 1, none⟩) (block_lt_of_cell hx1)).trans hx1
            go_simp
            exact ⟨rfl, rfl⟩
          · intro gg w' hw hk
            go_simp
            exact ⟨rfl, rfl⟩
          · intro gg w' hw hk
            go_simp
            exact ⟨rfl, rfl⟩
          · intro gg w' hw hk
            go_simp
            exact ⟨rfl, rfl⟩
          · intro gg w' hw hk
            go_simp
            exact ⟨rfl, rfl⟩
          · intro gg w' hw hk
            go_simp
            exact ⟨rfl, rfl⟩
          · intro gg w' hw hk
            have q0 := (hw.cell (p := ⟨w3.heap.size, 0, none⟩) (block_lt_of_cell hnc)).trans hnc
            go_simp
            exact ⟨rfl, rfl⟩
          · intro gg w' hw hk
            go_simp
            exact ⟨rfl, rfl⟩
          · intro gg w' hw hk
            go_simp
            exact ⟨rfl, rfl⟩
        · intro gg W2 qq hbox hap
          clear hbox hap
          simp only [Told.fill, Told.Leave.value, List.length_cons, List.length_nil, Nat.reduceAdd, Nat.reduceSub]
          refine wpAnyIn_ready (rs := [9]) (by kernel_rfl) (by simp) ?_
          refine AllReadyIn.cons rfl (fun K hK => ?_) AllReadyIn.nil
          go_simp
          refine hK _ _ ?_
          clear hK K
          refine wpAnyIn_done (by kernel_rfl) ?_ _
          have n2 := HBN.out.kept (grown_of_below qq) (by simp)
          have r2 := HBR.out.kept (grown_of_below qq) (by simp)
          have nc := n2.cell
          have nf := n2.frozen
          gi_wp2_with fail
          have hxx : x = (⟨1, true⟩ : Ev) := (sameEv_iff _ _).1 HSM.out
          have hlen : (pre ++ [x]).length = 3 := by rw [List.length_append, HM.out]; rfl
          have g1 := grown_of_below qq
          refine ⟨(below_keeps qq).trans ((KeepsOthers.setCell _ _ _).from _), (Stay.grown g1 ⟨by omega, by omega⟩ (fun r e => by cases e)).trans (Stay.grown (grownBy_setCell' W2 w3.heap.size _) ⟨by have := qq.size; omega, by have := qq.size; omega⟩ (fun r e => by injection e with e; subst e; exact ⟨by omega, by omega⟩)), ⟨?_, r2.other (by omega) _⟩, ?_, (HW5.out.trans (qq.mono (by omega))).setCell (p := ⟨w3.heap.size, 0, none⟩) (Nat.le_of_lt hs2) _⟩
          · rw [hlen]; exact n2.set (.int .i64 3)
          · rw [hxx]
            exact take_step HP.out (by rw [HM.out]; rfl)
    · have hexm : exE[3]? = some (⟨0, true⟩ : Ev) := rfl
      obtain ⟨sm, hsm⟩ : ∃ sm, sameEv x (⟨0, true⟩ : Ev) = sm := ⟨_, rfl⟩
      have E := eqEvW x (⟨0, true⟩ : Ev)
      rw [hsm] at E
      have HSM := Lib.hid hsm
      clear hsm
      cases sm
      · gi_upto_region 7 with fail
        refine wpIn_region_told [.val (x.v), .val ((⟨0, false⟩ : Ev).v), .val ((⟨1, false⟩ : Ev).v), .val ((⟨1, true⟩ : Ev).v), .val ((⟨0, true⟩ : Ev).v), .val (.agg #[.int .i64 0, .bool false, .int .i64 1, .bool false, .int .i64 1, .bool true, .int .i64 0, .bool true]), .val (.int .i64 3), .val (.int .i64 3), .val ((⟨0, true⟩ : Ev).v)] (by kernel_rfl) (by kernel_rfl) (by kernel_rfl) ?_ ?_
        · simp only [Told.fill, Told.Leave.value]
          refine ⟨?_, ?_, ?_, ?_, ?_, ?_, ?_, ?_, ?_, trivial⟩
          · intro gg w' hw hk
            have q0 := (hw.cell (p := ⟨b5, 0, none⟩) (block_lt_of_cell hx0)).trans hx0
            have q1 := (hw.cell (p := ⟨b5, 1, none⟩) (block_lt_of_cell hx1)).trans hx1
            go_simp
            exact ⟨rfl, rfl⟩
          · intro gg w' hw hk
            go_simp
            exact ⟨rfl, rfl⟩
          · intro gg w' hw hk
            go_simp
            exact ⟨rfl, rfl⟩
          · intro gg w' hw hk
            go_simp
            exact ⟨rfl, rfl⟩
          · intro gg w' hw hk
            go_simp
            exact ⟨rfl, rfl⟩
          · intro gg w' hw hk
            go_simp
            exact ⟨rfl, rfl⟩
          · intro gg w' hw hk
            have q0 := (hw.cell (p := ⟨w3.heap.size, 0, none⟩) (block_lt_of_cell hnc)).trans hnc
            go_simp
            exact ⟨rfl, rfl⟩
          · intro gg w' hw hk
            go_simp
            exact ⟨rfl, rfl⟩
          · intro gg w' hw hk
            go_simp
            exact ⟨rfl, rfl⟩
        · intro gg W2 qq hbox hap
          clear hbox hap
          simp only [Told.fill, Told.Leave.value, List.length_cons, List.length_nil, Nat.reduceAdd, Nat.reduceSub]
          refine wpAnyIn_ready (rs := [9]) (by kernel_rfl) (by simp) ?_
          refine AllReadyIn.cons rfl (fun K hK => ?_) AllReadyIn.nil
          go_simp
          refine hK _ _ ?_
          clear hK K
          refine wpAnyIn_done (by kernel_rfl) ?_ _
          have r2 := HBR.out.kept (grown_of_below qq) (by simp)
          have rc := r2.cell
          have rf := r2.frozen
          gi_wp2_with fail
          refine ⟨(below_keeps qq).trans ((KeepsOthers.setCell _ _ _).from _), fun h => ?_⟩
          rw [List.length_append, HM.out] at h
          have h9 : (pre ++ [x])[3]? = some (⟨0, true⟩ : Ev) := by rw [h]; rfl
          rw [List.getElem?_append_right (by rw [HM.out]; omega), HM.out] at h9
          have h8 : x = (⟨0, true⟩ : Ev) := by simpa using h9
          have h7 := (sameEv_iff x (⟨0, true⟩ : Ev)).2 h8
          rw [HSM.out] at h7
          cases h7
      · gi_upto_region 7 with fail
        refine wpIn_region_told [.val (x.v), .val ((⟨0, false⟩ : Ev).v), .val ((⟨1, false⟩ : Ev).v), .val ((⟨1, true⟩ : Ev).v), .val ((⟨0, true⟩ : Ev).v), .val (.agg #[.int .i64 0, .bool false, .int .i64 1, .bool false, .int .i64 1, .bool true, .int .i64 0, .bool true]), .val (.int .i64 3), .val (.int .i64 3), .val ((⟨0, true⟩ : Ev).v)] (by kernel_rfl) (by kernel_rfl) (by kernel_rfl) ?_ ?_
        · simp only [Told.fill, Told.Leave.value]
          refine ⟨?_, ?_, ?_, ?_, ?_, ?_, ?_, ?_, ?_, trivial⟩
          · intro gg w' hw hk
            have q0 := (hw.cell (p := ⟨b5, 0, none⟩) (block_lt_of_cell hx0)).trans hx0
            have q1 := (hw.cell (p := ⟨b5, 1, none⟩) (block_lt_of_cell hx1)).trans hx1
            go_simp
            exact ⟨rfl, rfl⟩
          · intro gg w' hw hk
            go_simp
            exact ⟨rfl, rfl⟩
          · intro gg w' hw hk
            go_simp
            exact ⟨rfl, rfl⟩
          · intro gg w' hw hk
            go_simp
            exact ⟨rfl, rfl⟩
          · intro gg w' hw hk
            go_simp
            exact ⟨rfl, rfl⟩
          · intro gg w' hw hk
            go_simp
            exact ⟨rfl, rfl⟩
          · intro gg w' hw hk
            have q0 := (hw.cell (p := ⟨w3.heap.size, 0, none⟩) (block_lt_of_cell hnc)).trans hnc
            go_simp
            exact ⟨rfl, rfl⟩
          · intro gg w' hw hk
            go_simp
            exact ⟨rfl, rfl⟩
          · intro gg w' hw hk
            go_simp
            exact ⟨rfl, rfl⟩
        · intro gg W2 qq hbox hap
          clear hbox hap
          simp only [Told.fill, Told.Leave.value, List.length_cons, List.length_nil, Nat.reduceAdd, Nat.reduceSub]
          refine wpAnyIn_ready (rs := [9]) (by kernel_rfl) (by simp) ?_
          refine AllReadyIn.cons rfl (fun K hK => ?_) AllReadyIn.nil
          go_simp
          refine hK _ _ ?_
          clear hK K
          refine wpAnyIn_done (by kernel_rfl) ?_ _
          have n2 := HBN.out.kept (grown_of_below qq) (by simp)
          have r2 := HBR.out.kept (grown_of_below qq) (by simp)
          have nc := n2.cell
          have nf := n2.frozen
          gi_wp2_with fail
          have hxx : x = (⟨0, true⟩ : Ev) := (sameEv_iff _ _).1 HSM.out
          have hlen : (pre ++ [x]).length = 4 := by rw [List.length_append, HM.out]; rfl
          have g1 := grown_of_below qq
          refine ⟨(below_keeps qq).trans ((KeepsOthers.setCell _ _ _).from _), (Stay.grown g1 ⟨by omega, by omega⟩ (fun r e => by cases e)).trans (Stay.grown (grownBy_setCell' W2 w3.heap.size _) ⟨by have := qq.size; omega, by have := qq.size; omega⟩ (fun r e => by injection e with e; subst e; exact ⟨by omega, by omega⟩)), ⟨?_, r2.other (by omega) _⟩, ?_, (HW5.out.trans (qq.mono (by omega))).setCell (p := ⟨w3.heap.size, 0, none⟩) (Nat.le_of_lt hs2) _⟩
          · rw [hlen]; exact n2.set (.int .i64 4)
          · rw [hxx]
            exact take_step HP.out (by rw [HM.out]; rfl)
  case done =>
    rintro D ys W hD rfl ⟨⟨i1, i2⟩, i3, i4⟩ hK
    have nc := i1.cell
    have rc := i2.cell
    have rf := i2.frozen
    have hne : D ≠ w.heap.size := by omega
    have hK2 : (W.setCell ⟨w.heap.size, 0, none⟩ (.bool true)).heap[D]? = some (.deferred (some [])) := by rw [heap_setCell_other _ _ _ _ hne]; exact hK
    have i5 := i2.set (.bool true)
    change W.cell? _ = some (Value.int .i64 4) at nc
    gi_wp2_with fail
    refine ⟨by simp, .inl ⟨_, _, rfl, run_takeDeferred hK2, ?_⟩⟩
    have i6 : Boxed ((W.setCell ⟨w.heap.size, 0, none⟩ (.bool true)).putObj D (.deferred none)) w.heap.size 4 (.bool true) := i5.kept (grownBy_putObj' _ D _) (fun e => hne (by injection e with e; exact e.symm))
    have c6 := i6.cell
    have a4 := Try.isAgg4
    have hk6 : Below w.heap.size w5 ((W.setCell ⟨w.heap.size, 0, none⟩ (.bool true)).putObj D (.deferred none)) := (i4.setCell (p := ⟨w.heap.size, 0, none⟩) (Nat.le_refl _) _).trans (belowK_b (w := w5) (by omega) _ D _ _ hD hK2 rfl rfl)
    exact ⟨.bool true, by simp [results, Try.results10, go_sem, c6], rfl, K5.trans hk6⟩
  case stop =>
    rintro D c pre W _ hs h _
    exact (h (take_prefix hs)).elim
end

end Go.Proofs.Ytflncnfagoekcaa.Walk
