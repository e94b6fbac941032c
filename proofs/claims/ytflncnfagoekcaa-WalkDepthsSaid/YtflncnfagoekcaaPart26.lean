/- The law of the depths. -/
import Derived.Test.YtflncnfagoekcaaPart12
import Derived.Test.YtflncnfagoekcaaPart13
import Derived.Test.YtflncnfagoekcaaPart14
namespace Go.Proofs.Ytflncnfagoekcaa.Walk
open Go.RowKit Go.Shelf Go.Sort Go.Proofs.Ytflncnfagoekcaa.Record Go.Proofs.Ytflncnfagoekcaa.Script Go.Proofs.Ytflncnfagoekcaa.Tree Go.Proofs.Ytflncnfagoekcaa.More

attribute [local go_sem] Oper.semAt_some

theorem field_y (y : Bx) (w : World) : (Instr.field 48 y.v 0).run Try.prog w = .ok (.int .i64 y.d) w := by
  kernel_rfl

/-- A slice of so many. -/
def SliceL (L : Nat) (_ : World) (u : Value) : Prop := ∃ A c, u = .slice A L c

theorem keeps_sliceL (L : Nat) : Hold.Keeps (SliceL L) := fun _ _ _ _ h => h

theorem right_box {bs : List Bx} (hs : Shape (dOf bs) bs.length) {pre : List Ev} {x : Ev} (h : pre ++ [x] <+: evAll bs) : (boxT bs x.a).d = here (depthAt 0 pre) x ∧ ((pathT bs x.a).length : Int) = here (depthAt 0 pre) x := by
  obtain ⟨t, ht⟩ := h
  have hx : (evAll bs)[pre.length]? = some x := by rw [← ht, List.append_assoc, List.getElem?_append_right (Nat.le_refl _), Nat.sub_self]; rfl
  have htk : (evAll bs).take pre.length = pre := by rw [← ht, List.append_assoc, List.take_left]
  obtain ⟨k, k1, k2, k3⟩ := (all_downs bs hs).at _ x hx
  rw [htk] at k3
  rw [k1, ← k3]
  refine ⟨by rw [boxT_nat k2]; rfl, ?_⟩
  unfold pathT
  rw [if_pos (hasT_nat k2), List.length_map, Int.toNat_natCast]
  exact pathD_len hs (k + 1) k (by omega) k2

section
variable {T : World → Addr → List Bx → Prop}

set_option maxRecDepth 100000 in
set_option maxHeartbeats 4000000 in
theorem depths_no (hT : TreeOk T) (hW : WalkOk T) (A : Option Addr) (n c : Nat) (w : World)
    (hb : ∀ w1, Below w.heap.size w w1 → Calls Try.prog 9 #[.slice A n c] w1 fun r w' => r = .returned (.pointer none) ∧ Below w1.heap.size w1 w') :
    CallsIn Fence.wide 6 Try.prog 8 #[.slice A n c] w fun e w' => e = .returned (.bool true) ∧ Below w.heap.size w w' := by
  have hro : Fence.wide.round = none := rfl
  have HB := Lib.hid hb
  clear hb
  refine callsIn_of_wp_marks Try.func8 rfl trivial ?_ hro
  simp only [Try.ntmps8, List.size_toArray, List.length_nil, List.length_cons, Nat.reduceAdd, Nat.reduceSub, Array.replicate_succ, Array.replicate_zero, List.push_toArray, List.append_toArray, List.nil_append, List.cons_append]
  gi_upto_region 1 with fail
  generalize hWa : World.alloc w _ = Wa
  have hka : Below w.heap.size w Wa := by rw [← hWa]; exact ba1 _ _
  have hbr : Boxed Wa w.heap.size 4 (.bool false) := by rw [← hWa]; exact Boxed.new _ _ _
  clear hWa
  have KA := Lib.hid hka
  have BR := Lib.hid hbr
  clear hka hbr
  gi_upto_region 2 with (first
    | (refine ⟨trivial, ?_⟩; gi_at_call 9; refine (callsIn_wide.2 (HB.out _ KA.out)).mono ?_; rintro e w1 ⟨rfl, k1⟩; have K1 := Lib.hid (thru KA.out k1); have BR1 := Lib.hid (BR.out.kept (grown_of_below k1) (by simp)); clear k1))
  generalize hWc : World.alloc w1 _ = Wc
  have hkc := ba1 w1 (.cells #[.pointer none] 23)
  have hbc := Boxed.new w1 23 (.pointer none)
  have hbb := BR1.out.alloc (.cells #[.pointer none] 23)
  rw [hWc] at hkc hbc hbb
  have KC := Lib.hid (thru K1.out hkc)
  have BC := Lib.hid hbc
  have BB := Lib.hid hbb
  clear hWc hkc hbc hbb K1 BR1 KA BR
  gi_upto_region 3 with (first
    | (refine ⟨trivial, ?_⟩; gi_at_call 10; refine (callsIn_wide.2 (callsIn_wide.1 (wspeaks hT hW _))).mono ?_; rintro e w2 ⟨rfl, k2⟩; have K2 := Lib.hid (thru KC.out k2); have BC2 := Lib.hid (BC.out.kept (grown_of_below k2) (by simp)); have BB2 := Lib.hid (BB.out.kept (grown_of_below k2) (by simp)); have hcc := BC2.out.cell; clear k2))
  clear hcc BC BB KC
  gi_wp2_with (first
    | (refine ⟨trivial, ?_⟩; gi_at_call 10; refine (callsIn_wide.2 (callsIn_wide.1 (wspeaks hT hW _))).mono ?_; rintro e w3 ⟨rfl, k3⟩; have K3 := Lib.hid (thru K2.out k3); have BB3 := Lib.hid (BB2.out.kept (grown_of_below k3) (by simp)); have hcc := BB3.out.cell; have hcf := BB3.out.frozen; clear k3))
  have i6 := BB3.out.set (.bool true)
  have c6 := i6.cell
  have a4 := Try.isAgg4
  exact ⟨.bool true, by simp [results, Try.results8, go_sem, c6], rfl, K3.out.setCell (p := ⟨w.heap.size, 0, none⟩) (Nat.le_refl _) _⟩

set_option maxRecDepth 100000 in
set_option maxHeartbeats 4000000 in
theorem depths_yes (hT : TreeOk T) (hW : WalkOk T) (A : Option Addr) (n c : Nat) (bs : List Bx) (w : World) (hs : Shape (dOf bs) bs.length) (hlen : bs.length ≤ 1000)
    (hb : ∀ w1, Below w.heap.size w w1 → Calls Try.prog 9 #[.slice A n c] w1 fun r w' => (∃ p, r = .returned (.pointer (some p)) ∧ T w' p bs) ∧ Below w1.heap.size w1 w') :
    CallsIn Fence.wide 6 Try.prog 8 #[.slice A n c] w fun e w' => e = .returned (.bool true) ∧ Below w.heap.size w w' := by
  have hro : Fence.wide.round = none := rfl
  have HB := Lib.hid hb
  clear hb
  refine callsIn_of_wp_marks Try.func8 rfl trivial ?_ hro
  simp only [Try.ntmps8, List.size_toArray, List.length_nil, List.length_cons, Nat.reduceAdd, Nat.reduceSub, Array.replicate_succ, Array.replicate_zero, List.push_toArray, List.append_toArray, List.nil_append, List.cons_append]
  gi_upto_region 1 with fail
  generalize hWa : World.alloc w _ = Wa
  have hka : Below w.heap.size w Wa := by rw [← hWa]; exact ba1 _ _
  have hbr : Boxed Wa w.heap.size 4 (.bool false) := by rw [← hWa]; exact Boxed.new _ _ _
  clear hWa
  have KA := Lib.hid hka
  have BR := Lib.hid hbr
  clear hka hbr
  gi_upto_region 2 with (first
    | (refine ⟨trivial, ?_⟩; gi_at_call 9; refine (callsIn_wide.2 (HB.out _ KA.out)).mono ?_; rintro e w1 ⟨⟨p, rfl, ht⟩, k1⟩; have HT1 := Lib.hid ht; have K1 := Lib.hid (thru KA.out k1); have BR1 := Lib.hid (BR.out.kept (grown_of_below k1) (by simp)); clear k1 ht))
  generalize hWc : World.alloc w1 _ = Wc
  have hkc := ba1 w1 (.cells #[.pointer (some p)] 23)
  have hbc := Boxed.new w1 23 (.pointer (some p))
  have hbb := BR1.out.alloc (.cells #[.pointer (some p)] 23)
  have hsc : (w1.alloc (.cells #[.pointer (some p)] 23)).heap.size = w1.heap.size + 1 := by simp
  rw [hWc] at hkc hbc hbb hsc
  have L1 := Lib.hid hkc
  have BC := Lib.hid hbc
  have BB := Lib.hid hbb
  have hs1 := BR1.out.lt
  clear hWc hkc hbc hbb BR1 KA BR
  gi_upto_region 4 with (first
    | (refine ⟨trivial, ?_⟩; gi_at_call 10; refine (callsIn_wide.2 (callsIn_wide.1 (wspeaks hT hW _))).mono ?_; rintro e w2 ⟨rfl, k2⟩; have L2 := Lib.hid (thru L1.out k2); have BC2 := Lib.hid (BC.out.kept (grown_of_below k2) (by simp)); have BB2 := Lib.hid (BB.out.kept (grown_of_below k2) (by simp)); have hcc := BC2.out.cell; have hs2 := k2.size; clear k2))
  clear hcc BC BB L1
  gi_upto_region 5 with fail
  generalize hWd : World.alloc w2 _ = Wd
  have hkd := ba1 w2 (.cells #[.int .i64 0] 3)
  have hbd := Boxed.new w2 3 (.int .i64 0)
  have hbc3 := BC2.out.alloc (.cells #[.int .i64 0] 3)
  have hbr3 := BB2.out.alloc (.cells #[.int .i64 0] 3)
  have hsd : (w2.alloc (.cells #[.int .i64 0] 3)).heap.size = w2.heap.size + 1 := by simp
  rw [hWd] at hkd hbd hbc3 hbr3 hsd
  have L3 := Lib.hid (thru L2.out hkd)
  have hcc := hbc3.cell
  clear hWd hkd BC2 BB2 L2
  gi_wp2_with (first
    | (refine ⟨trivial, ?_⟩; gi_at_call 12; refine (callsIn_wide.2 (hW.all _ _ _ _ HT1.out L3.out)).mono ?_; rintro e w5 ⟨⟨f, lb, rfl, heg, hseq⟩, k5⟩))
  have b5n := hbd.kept (grown_of_below k5) (by simp)
  have b5t := hbc3.kept (grown_of_below k5) (by simp)
  have b5r := hbr3.kept (grown_of_below k5) (by simp)
  have hs5 := k5.size
  have K5 := Lib.hid (thru L3.out k5)
  have hq := Gives.plain hseq 5 (by omega)
  have hel : (evAll bs).length ≤ 2 * bs.length := by
    have := wlk_len (dOf bs) (oOf bs) bs.length true (bs.length + 1) 0 bs.length (by omega) (nested_all _ _ _)
    unfold evAll
    omega
  clear hseq k5 hcc
  refine wpIn_rangeFunc_ownH hro (by omega) (gf := f) (lb := lb) rfl trivial heg hq
    (fun h k => h.trans k) (fun W l o o' h1 h2 h3 h4 => Stay.put (N := w5.heap.size) (by omega) (Nat.le_refl _) W l o o' h1 h2 h3 h4) (Below.refl _ _) (fun _ => rfl)
    (fun pre W => (Boxed W w2.heap.size 3 (.int .i64 (depthAt 0 pre)) ∧ Boxed W w1.heap.size 23 (.pointer (some p)) ∧ Boxed W w.heap.size 4 (.bool false)) ∧ Below w1.heap.size w5 W)
    (fun _ pre _ => pre <+: evAll bs → False)
    (OwnFrom.and (OwnFrom.and (Own.from (boxed_own _ _ _) _) (OwnFrom.and (Own.from (boxed_own _ _ _) _) (Own.from (boxed_own _ _ _) _))) (ownFrom_below (by omega) (by omega)))
    (fun _ => pure_own _)
    ⟨⟨b5n, b5t, b5r⟩, Below.refl _ _⟩
    (fun x => VarW (fun b5 => { tmps := #[Value.slice A n c, undef, Value.pointer (some ⟨w.heap.size, 0, none⟩), Value.pointer (some ⟨w1.heap.size, 0, none⟩), Value.pointer (some ⟨w2.heap.size, 0, none⟩), .pointer (some ⟨b5, 0, none⟩), Value.slice A n c, Value.pointer (some p), Value.bool true, Value.bool false, Value.bool false, Value.pointer (some p), Value.bool false, Value.bool false, undef, Value.pointer (some p), Value.func (Fn.func f) #[] lb, x.v, undef, undef, undef, undef, undef, undef, undef, undef, undef, undef, undef, undef, undef, undef, undef, undef, undef, undef, undef, undef, undef, undef, undef, undef, undef, undef, undef], defers := [] }) x) (fun x a' => varW_own _ x a' _) ?assign ?body ?done ?stop
  case assign =>
    intro l pre x W K hI hK
    obtain ⟨⟨i1, i2, i3⟩, i4⟩ := hI
    have HK := Lib.hid hK
    clear hK
    simp only [encW]
    gi_wp2_with fail
    have hk := ba1 W (.cells #[.int .i64 x.a, .bool x.l] 32)
    have hg := grown_of_below hk
    have hwl := i4.size
    exact HK.out _ _ (below_keeps hk) (Stay.grown hg ⟨by omega, by omega⟩ (fun r e => by cases e)) ⟨⟨i1.kept hg (by simp), i2.kept hg (by simp), i3.kept hg (by simp)⟩, i4.trans (hk.mono (by omega))⟩ ⟨W.heap.size, rfl, heap_alloc_new W _⟩
  case body =>
    rintro l pre x a' W hl - ⟨⟨i1, i2, i3⟩, i4⟩ ⟨b5, rfl, h5⟩ hlt
    have hx0 : W.cell? ⟨b5, 0, none⟩ = some (.int .i64 x.a) := by rw [cell_of_row W b5 0 _ _ _ h5]; rfl
    have hx1 : W.cell? ⟨b5, 1, none⟩ = some (.bool x.l) := by rw [cell_of_row W b5 1 _ _ _ h5]; rfl
    have HTB := Lib.hid (fun w' (k : Below w1.heap.size w1 w') => hT.keep _ _ _ _ HT1.out k)
    have K6 := Lib.hid (K5.out.trans i4)
    obtain ⟨xa, xl⟩ := x
    obtain ⟨s, hsd⟩ : ∃ s, depthAt 0 pre = s := ⟨_, rfl⟩
    have hsb := depthAt_abs pre 0
    rw [hsd] at i1 hsb
    have hlt2 : pre.length < (evAll bs).length := hlt
    obtain ⟨y, hy⟩ : ∃ y, boxT bs xa = y := ⟨_, rfl⟩
    obtain ⟨L, hL⟩ : ∃ L, (pathT bs xa).length = L := ⟨_, rfl⟩
    have hwl := i4.size
    have HN := Lib.hid i1
    have HTC := Lib.hid i2
    have HR := Lib.hid i3
    have nc := i1.cell
    have nf := i1.frozen
    have tc := i2.cell
    have h5' := h5
    clear hlt i1 i2 i3 h5
    dsimp only at hx0 hx1 ⊢
    have HI4 := Lib.hid i4
    have hT_path : ∀ w', T w' p bs → Calls Try.prog 23 #[.pointer (some p), .int .i64 xa] w' fun r w'' => ∃ u, r = .returned u ∧ SliceL L w'' u ∧ Below w'.heap.size w' w'' := fun w' h => (hW.path w' p bs xa h).mono (by
      rintro r w'' ⟨u, e, ⟨A1, c1, e2, -⟩, hb⟩
      exact ⟨u, e, ⟨A1, c1, by rw [e2, hL]⟩, hb⟩)
    have hb5 : b5 ≠ w2.heap.size := by
      rintro rfl
      have h9 : W.heap[w2.heap.size]? = _ := HN.out
      rw [h9] at h5'
      simp at h5'
    cases xl
    · gi_upto_region 9 with fail
      obtain ⟨V, hV⟩ : ∃ V, W = V := ⟨_, rfl⟩
      have BNV := Lib.hid HN.out
      have BTV := Lib.hid HTC.out
      have BRV := Lib.hid HR.out
      have K7 := Lib.hid K6.out
      have SV := Lib.hid (Stay.refl w1.heap.size Wd.heap.size w5.heap.size W)
      have KV := Lib.hid (KeepsFrom.refl _ W : KeepsFrom w5.heap.size W W)
      by_cases c1 : y.d = s
      · by_cases c2 : (L : Int) = s
        · have c1b : (y.d != s) = false := by simpa using c1
          have c2b : ((L : Int) != s) = false := by simpa using c2
          refine wpIn_region_hold [.val (.pointer (some p)), .val (.pointer (some ⟨b5, 0, none⟩)), .val (.int .i64 xa), .val y.v, .val (.int .i64 y.d), .val (.int .i64 s), .val (.bool false), .val (.bool false), .val (.pointer (some p)), .val (.pointer (some ⟨b5, 0, none⟩)), .val (.int .i64 xa), .some (SliceL L), .val (.int .i64 (L : Int)), .val (.int .i64 s), .val (.bool false)] (by kernel_rfl) (by kernel_rfl) (by kernel_rfl) ?_ ?_
          · simp only [Hold.fill, Hold.Leave.value]
            refine ⟨?_, ?_, ?_, ?_, ?_, ?_, ?_, ?_, ?_, ?_, ?_, ?_, ?_, ?_, ?_, trivial⟩
            · intro gg w' hw hk
              have q0 := (hw.cell (p := ⟨b5, 0, none⟩) (block_lt_of_cell hx0)).trans hx0
              have q1 := (hw.cell (p := ⟨w1.heap.size, 0, none⟩) (block_lt_of_cell tc)).trans tc
              have q2 := (hw.cell (p := ⟨w2.heap.size, 0, none⟩) (block_lt_of_cell nc)).trans nc
              go_simp
              exact ⟨rfl, rfl⟩
            · intro gg w' hw hk
              have q0 := (hw.cell (p := ⟨b5, 0, none⟩) (block_lt_of_cell hx0)).trans hx0
              have q1 := (hw.cell (p := ⟨w1.heap.size, 0, none⟩) (block_lt_of_cell tc)).trans tc
              have q2 := (hw.cell (p := ⟨w2.heap.size, 0, none⟩) (block_lt_of_cell nc)).trans nc
              go_simp
              exact ⟨rfl, rfl⟩
            · intro gg w' hw hk
              have q0 := (hw.cell (p := ⟨b5, 0, none⟩) (block_lt_of_cell hx0)).trans hx0
              have q1 := (hw.cell (p := ⟨w1.heap.size, 0, none⟩) (block_lt_of_cell tc)).trans tc
              have q2 := (hw.cell (p := ⟨w2.heap.size, 0, none⟩) (block_lt_of_cell nc)).trans nc
              go_simp
              exact ⟨rfl, rfl⟩
            · intro gg w' hw hk
              have q0 := (hw.cell (p := ⟨b5, 0, none⟩) (block_lt_of_cell hx0)).trans hx0
              have q1 := (hw.cell (p := ⟨w1.heap.size, 0, none⟩) (block_lt_of_cell tc)).trans tc
              have q2 := (hw.cell (p := ⟨w2.heap.size, 0, none⟩) (block_lt_of_cell nc)).trans nc
              go_simp
              exact Hold.stays_call ((hy ▸ hT.box _ _ _ xa (HTB.out _ (K7.out.trans (hw.mono K7.out.size)))))
            · intro gg w' hw hk
              have q0 := (hw.cell (p := ⟨b5, 0, none⟩) (block_lt_of_cell hx0)).trans hx0
              have q1 := (hw.cell (p := ⟨w1.heap.size, 0, none⟩) (block_lt_of_cell tc)).trans tc
              have q2 := (hw.cell (p := ⟨w2.heap.size, 0, none⟩) (block_lt_of_cell nc)).trans nc
              have hf := field_y y w'
              go_simp
              exact ⟨rfl, rfl⟩
            · intro gg w' hw hk
              have q0 := (hw.cell (p := ⟨b5, 0, none⟩) (block_lt_of_cell hx0)).trans hx0
              have q1 := (hw.cell (p := ⟨w1.heap.size, 0, none⟩) (block_lt_of_cell tc)).trans tc
              have q2 := (hw.cell (p := ⟨w2.heap.size, 0, none⟩) (block_lt_of_cell nc)).trans nc
              go_simp
              exact ⟨rfl, rfl⟩
            · intro gg w' hw hk
              have q0 := (hw.cell (p := ⟨b5, 0, none⟩) (block_lt_of_cell hx0)).trans hx0
              have q1 := (hw.cell (p := ⟨w1.heap.size, 0, none⟩) (block_lt_of_cell tc)).trans tc
              have q2 := (hw.cell (p := ⟨w2.heap.size, 0, none⟩) (block_lt_of_cell nc)).trans nc
              go_simp
              exact ⟨rfl, rfl⟩
            · intro gg w' hw hk
              have q0 := (hw.cell (p := ⟨b5, 0, none⟩) (block_lt_of_cell hx0)).trans hx0
              have q1 := (hw.cell (p := ⟨w1.heap.size, 0, none⟩) (block_lt_of_cell tc)).trans tc
              have q2 := (hw.cell (p := ⟨w2.heap.size, 0, none⟩) (block_lt_of_cell nc)).trans nc
              go_simp
              exact ⟨rfl, rfl⟩
            · intro gg w' hw hk
              have q0 := (hw.cell (p := ⟨b5, 0, none⟩) (block_lt_of_cell hx0)).trans hx0
              have q1 := (hw.cell (p := ⟨w1.heap.size, 0, none⟩) (block_lt_of_cell tc)).trans tc
              have q2 := (hw.cell (p := ⟨w2.heap.size, 0, none⟩) (block_lt_of_cell nc)).trans nc
              go_simp
              exact ⟨rfl, rfl⟩
            · intro gg w' hw hk
              have q0 := (hw.cell (p := ⟨b5, 0, none⟩) (block_lt_of_cell hx0)).trans hx0
              have q1 := (hw.cell (p := ⟨w1.heap.size, 0, none⟩) (block_lt_of_cell tc)).trans tc
              have q2 := (hw.cell (p := ⟨w2.heap.size, 0, none⟩) (block_lt_of_cell nc)).trans nc
              go_simp
              exact ⟨rfl, rfl⟩
            · intro gg w' hw hk
              have q0 := (hw.cell (p := ⟨b5, 0, none⟩) (block_lt_of_cell hx0)).trans hx0
              have q1 := (hw.cell (p := ⟨w1.heap.size, 0, none⟩) (block_lt_of_cell tc)).trans tc
              have q2 := (hw.cell (p := ⟨w2.heap.size, 0, none⟩) (block_lt_of_cell nc)).trans nc
              go_simp
              exact ⟨rfl, rfl⟩
            · refine ⟨keeps_sliceL _, ?_⟩
              intro gg w' hw hk
              have q0 := (hw.cell (p := ⟨b5, 0, none⟩) (block_lt_of_cell hx0)).trans hx0
              have q1 := (hw.cell (p := ⟨w1.heap.size, 0, none⟩) (block_lt_of_cell tc)).trans tc
              have q2 := (hw.cell (p := ⟨w2.heap.size, 0, none⟩) (block_lt_of_cell nc)).trans nc
              go_simp
              exact Hold.gives_call ((hT_path _ (HTB.out _ (K7.out.trans (hw.mono K7.out.size)))))
            · intro gg w' hw hk
              have h1 := hk ⟨11, .data⟩ (by simp) rfl _ rfl
              exact h1.elim fun A1 h2 => h2.elim fun c1 h3 => by
                change gg 11 = _ at h3
                go_simp
                exact ⟨rfl, rfl⟩
            · intro gg w' hw hk
              have q0 := (hw.cell (p := ⟨b5, 0, none⟩) (block_lt_of_cell hx0)).trans hx0
              have q1 := (hw.cell (p := ⟨w1.heap.size, 0, none⟩) (block_lt_of_cell tc)).trans tc
              have q2 := (hw.cell (p := ⟨w2.heap.size, 0, none⟩) (block_lt_of_cell nc)).trans nc
              go_simp
              exact ⟨rfl, rfl⟩
            · intro gg w' hw hk
              have q0 := (hw.cell (p := ⟨b5, 0, none⟩) (block_lt_of_cell hx0)).trans hx0
              have q1 := (hw.cell (p := ⟨w1.heap.size, 0, none⟩) (block_lt_of_cell tc)).trans tc
              have q2 := (hw.cell (p := ⟨w2.heap.size, 0, none⟩) (block_lt_of_cell nc)).trans nc
              go_simp
              exact ⟨rfl, rfl⟩
          · intro gg W2 qq hgg
            clear hgg
            simp only [Hold.fill, Hold.Leave.value, List.length_cons, List.length_nil, Nat.reduceAdd, Nat.reduceSub]
            refine wpAnyIn_ready (rs := [15]) (by kernel_rfl) (by simp) ?_
            refine AllReadyIn.cons rfl (fun K hK => ?_) AllReadyIn.nil
            go_simp
            refine hK _ _ ?_
            clear hK K
            refine wpAnyIn_done (by kernel_rfl) ?_ _
            have hx2 := (qq.cell (p := ⟨b5, 1, none⟩) (block_lt_of_cell hx1)).trans hx1
            have n2 := BNV.out.kept (grown_of_below qq) (by simp)
            have t2 := BTV.out.kept (grown_of_below qq) (by simp)
            have r2 := BRV.out.kept (grown_of_below qq) (by simp)
            have rc := r2.cell
            have rf := r2.frozen
            have nc2 := n2.cell
            have nf2 := n2.frozen
            clear nc tc hx0 hx1
            gi_wp2_with fail
            have hds : depthAt 0 (pre ++ [(⟨xa, false⟩ : Ev)]) = s + 1 := by rw [depthAt_next, hsd]; rfl
            refine ⟨KV.out.trans ((below_keeps qq).trans ((KeepsOthers.setCell _ _ _).from _)), SV.out.trans ((Stay.grown (grown_of_below qq) ⟨by omega, by omega⟩ (fun r e => by cases e)).trans (Stay.grown (grownBy_setCell' W2 w2.heap.size _) ⟨by have := qq.size; omega, by have := qq.size; omega⟩ (fun r e => by injection e with e; subst e; exact ⟨by omega, by omega⟩))), ⟨?_, t2.other (by omega) _, r2.other (by omega) _⟩, ?_⟩
            · rw [hds]; exact n2.set (.int .i64 (s + 1))
            · exact (HI4.out.trans (qq.mono (by omega))).setCell (p := ⟨w2.heap.size, 0, none⟩) (show w1.heap.size ≤ w2.heap.size by omega) _
        · have c1b : (y.d != s) = false := by simpa using c1
          have c2b : ((L : Int) != s) = true := by simpa using c2
          refine wpIn_region_hold [.val (.pointer (some p)), .val (.pointer (some ⟨b5, 0, none⟩)), .val (.int .i64 xa), .val y.v, .val (.int .i64 y.d), .val (.int .i64 s), .val (.bool false), .val (.bool false), .val (.pointer (some p)), .val (.pointer (some ⟨b5, 0, none⟩)), .val (.int .i64 xa), .some (SliceL L), .val (.int .i64 (L : Int)), .val (.int .i64 s), .val (.bool true)] (by kernel_rfl) (by kernel_rfl) (by kernel_rfl) ?_ ?_
          · simp only [Hold.fill, Hold.Leave.value]
            refine ⟨?_, ?_, ?_, ?_, ?_, ?_, ?_, ?_, ?_, ?_, ?_, ?_, ?_, ?_, ?_, trivial⟩
            · intro gg w' hw hk
              have q0 := (hw.cell (p := ⟨b5, 0, none⟩) (block_lt_of_cell hx0)).trans hx0
              have q1 := (hw.cell (p := ⟨w1.heap.size, 0, none⟩) (block_lt_of_cell tc)).trans tc
              have q2 := (hw.cell (p := ⟨w2.heap.size, 0, none⟩) (block_lt_of_cell nc)).trans nc
              go_simp
              exact ⟨rfl, rfl⟩
            · intro gg w' hw hk
              have q0 := (hw.cell (p := ⟨b5, 0, none⟩) (block_lt_of_cell hx0)).trans hx0
              have q1 := (hw.cell (p := ⟨w1.heap.size, 0, none⟩) (block_lt_of_cell tc)).trans tc
              have q2 := (hw.cell (p := ⟨w2.heap.size, 0, none⟩) (block_lt_of_cell nc)).trans nc
              go_simp
              exact ⟨rfl, rfl⟩
            · intro gg w' hw hk
              have q0 := (hw.cell (p := ⟨b5, 0, none⟩) (block_lt_of_cell hx0)).trans hx0
              have q1 := (hw.cell (p := ⟨w1.heap.size, 0, none⟩) (block_lt_of_cell tc)).trans tc
              have q2 := (hw.cell (p := ⟨w2.heap.size, 0, none⟩) (block_lt_of_cell nc)).trans nc
              go_simp
              exact ⟨rfl, rfl⟩
            · intro gg w' hw hk
              have q0 := (hw.cell (p := ⟨b5, 0, none⟩) (block_lt_of_cell hx0)).trans hx0
              have q1 := (hw.cell (p := ⟨w1.heap.size, 0, none⟩) (block_lt_of_cell tc)).trans tc
              have q2 := (hw.cell (p := ⟨w2.heap.size, 0, none⟩) (block_lt_of_cell nc)).trans nc
              go_simp
              exact Hold.stays_call ((hy ▸ hT.box _ _ _ xa (HTB.out _ (K7.out.trans (hw.mono K7.out.size)))))
            · intro gg w' hw hk
              have q0 := (hw.cell (p := ⟨b5, 0, none⟩) (block_lt_of_cell hx0)).trans hx0
              have q1 := (hw.cell (p := ⟨w1.heap.size, 0, none⟩) (block_lt_of_cell tc)).trans tc
              have q2 := (hw.cell (p := ⟨w2.heap.size, 0, none⟩) (block_lt_of_cell nc)).trans nc
              have hf := field_y y w'
              go_simp
              exact ⟨rfl, rfl⟩
            · intro gg w' hw hk
              have q0 := (hw.cell (p := ⟨b5, 0, none⟩) (block_lt_of_cell hx0)).trans hx0
              have q1 := (hw.cell (p := ⟨w1.heap.size, 0, none⟩) (block_lt_of_cell tc)).trans tc
              have q2 := (hw.cell (p := ⟨w2.heap.size, 0, none⟩) (block_lt_of_cell nc)).trans nc
              go_simp
              exact ⟨rfl, rfl⟩
            · intro gg w' hw hk
              have q0 := (hw.cell (p := ⟨b5, 0, none⟩) (block_lt_of_cell hx0)).trans hx0
              have q1 := (hw.cell (p := ⟨w1.heap.size, 0, none⟩) (block_lt_of_cell tc)).trans tc
              have q2 := (hw.cell (p := ⟨w2.heap.size, 0, none⟩) (block_lt_of_cell nc)).trans nc
              go_simp
              exact ⟨rfl, rfl⟩
            · intro gg w' hw hk
              have q0 := (hw.cell (p := ⟨b5, 0, none⟩) (block_lt_of_cell hx0)).trans hx0
              have q1 := (hw.cell (p := ⟨w1.heap.size, 0, none⟩) (block_lt_of_cell tc)).trans tc
              have q2 := (hw.cell (p := ⟨w2.heap.size, 0, none⟩) (block_lt_of_cell nc)).trans nc
              go_simp
              exact ⟨rfl, rfl⟩
            · intro gg w' hw hk
              have q0 := (hw.cell (p := ⟨b5, 0, none⟩) (block_lt_of_cell hx0)).trans hx0
              have q1 := (hw.cell (p := ⟨w1.heap.size, 0, none⟩) (block_lt_of_cell tc)).trans tc
              have q2 := (hw.cell (p := ⟨w2.heap.size, 0, none⟩) (block_lt_of_cell nc)).trans nc
              go_simp
              exact ⟨rfl, rfl⟩
            · intro gg w' hw hk
              have q0 := (hw.cell (p := ⟨b5, 0, none⟩) (block_lt_of_cell hx0)).trans hx0
              have q1 := (hw.cell (p := ⟨w1.heap.size, 0, none⟩) (block_lt_of_cell tc)).trans tc
              have q2 := (hw.cell (p := ⟨w2.heap.size, 0, none⟩) (block_lt_of_cell nc)).trans nc
              go_simp
              exact ⟨rfl, rfl⟩
            · intro gg w' hw hk
              have q0 := (hw.cell (p := ⟨b5, 0, none⟩) (block_lt_of_cell hx0)).trans hx0
              have q1 := (hw.cell (p := ⟨w1.heap.size, 0, none⟩) (block_lt_of_cell tc)).trans tc
              have q2 := (hw.cell (p := ⟨w2.heap.size, 0, none⟩) (block_lt_of_cell nc)).trans nc
              go_simp
              exact ⟨rfl, rfl⟩
            · refine ⟨keeps_sliceL _, ?_⟩
              intro gg w' hw hk
              have q0 := (hw.cell (p := ⟨b5, 0, none⟩) (block_lt_of_cell hx0)).trans hx0
              have q1 := (hw.cell (p := ⟨w1.heap.size, 0, none⟩) (block_lt_of_cell tc)).trans tc
              have q2 := (hw.cell (p := ⟨w2.heap.size, 0, none⟩) (block_lt_of_cell nc)).trans nc
              go_simp
              exact Hold.gives_call ((hT_path _ (HTB.out _ (K7.out.trans (hw.mono K7.out.size)))))
            · intro gg w' hw hk
              have h1 := hk ⟨11, .data⟩ (by simp) rfl _ rfl
              exact h1.elim fun A1 h2 => h2.elim fun c1 h3 => by
                change gg 11 = _ at h3
                go_simp
                exact ⟨rfl, rfl⟩
            · intro gg w' hw hk
              have q0 := (hw.cell (p := ⟨b5, 0, none⟩) (block_lt_of_cell hx0)).trans hx0
              have q1 := (hw.cell (p := ⟨w1.heap.size, 0, none⟩) (block_lt_of_cell tc)).trans tc
              have q2 := (hw.cell (p := ⟨w2.heap.size, 0, none⟩) (block_lt_of_cell nc)).trans nc
              go_simp
              exact ⟨rfl, rfl⟩
            · intro gg w' hw hk
              have q0 := (hw.cell (p := ⟨b5, 0, none⟩) (block_lt_of_cell hx0)).trans hx0
              have q1 := (hw.cell (p := ⟨w1.heap.size, 0, none⟩) (block_lt_of_cell tc)).trans tc
              have q2 := (hw.cell (p := ⟨w2.heap.size, 0, none⟩) (block_lt_of_cell nc)).trans nc
              go_simp
              exact ⟨rfl, rfl⟩
          · intro gg W2 qq hgg
            clear hgg
            simp only [Hold.fill, Hold.Leave.value, List.length_cons, List.length_nil, Nat.reduceAdd, Nat.reduceSub]
            refine wpAnyIn_ready (rs := [15]) (by kernel_rfl) (by simp) ?_
            refine AllReadyIn.cons rfl (fun K hK => ?_) AllReadyIn.nil
            go_simp
            refine hK _ _ ?_
            clear hK K
            refine wpAnyIn_done (by kernel_rfl) ?_ _
            have hx2 := (qq.cell (p := ⟨b5, 1, none⟩) (block_lt_of_cell hx1)).trans hx1
            have n2 := BNV.out.kept (grown_of_below qq) (by simp)
            have t2 := BTV.out.kept (grown_of_below qq) (by simp)
            have r2 := BRV.out.kept (grown_of_below qq) (by simp)
            have rc := r2.cell
            have rf := r2.frozen
            have nc2 := n2.cell
            have nf2 := n2.frozen
            clear nc tc hx0 hx1
            gi_wp2_with fail
            refine ⟨KV.out.trans ((below_keeps qq).trans ((KeepsOthers.setCell _ _ _).from _)), fun h => ?_⟩
            have r := right_box hs h
            rw [hsd] at r
            simp only [hy, hL, here] at r
            exact c2 (by simpa using r.2)
      · have c1b : (y.d != s) = true := by simpa using c1
        refine wpIn_region_hold [.val (.pointer (some p)), .val (.pointer (some ⟨b5, 0, none⟩)), .val (.int .i64 xa), .val y.v, .val (.int .i64 y.d), .val (.int .i64 s), .val (.bool true), .val (.bool true), .skip, .skip, .skip, .skip, .skip, .skip, .skip] (by kernel_rfl) (by kernel_rfl) (by kernel_rfl) ?_ ?_
        · simp only [Hold.fill, Hold.Leave.value]
          refine ⟨?_, ?_, ?_, ?_, ?_, ?_, ?_, ?_, ?_, ?_, ?_, ?_, ?_, ?_, ?_, trivial⟩
          · intro gg w' hw hk
            have q0 := (hw.cell (p := ⟨b5, 0, none⟩) (block_lt_of_cell hx0)).trans hx0
            have q1 := (hw.cell (p := ⟨w1.heap.size, 0, none⟩) (block_lt_of_cell tc)).trans tc
            have q2 := (hw.cell (p := ⟨w2.heap.size, 0, none⟩) (block_lt_of_cell nc)).trans nc
            go_simp
            exact ⟨rfl, rfl⟩
          · intro gg w' hw hk
            have q0 := (hw.cell (p := ⟨b5, 0, none⟩) (block_lt_of_cell hx0)).trans hx0
            have q1 := (hw.cell (p := ⟨w1.heap.size, 0, none⟩) (block_lt_of_cell tc)).trans tc
            have q2 := (hw.cell (p := ⟨w2.heap.size, 0, none⟩) (block_lt_of_cell nc)).trans nc
            go_simp
            exact ⟨rfl, rfl⟩
          · intro gg w' hw hk
            have q0 := (hw.cell (p := ⟨b5, 0, none⟩) (block_lt_of_cell hx0)).trans hx0
            have q1 := (hw.cell (p := ⟨w1.heap.size, 0, none⟩) (block_lt_of_cell tc)).trans tc
            have q2 := (hw.cell (p := ⟨w2.heap.size, 0, none⟩) (block_lt_of_cell nc)).trans nc
            go_simp
            exact ⟨rfl, rfl⟩
          · intro gg w' hw hk
            have q0 := (hw.cell (p := ⟨b5, 0, none⟩) (block_lt_of_cell hx0)).trans hx0
            have q1 := (hw.cell (p := ⟨w1.heap.size, 0, none⟩) (block_lt_of_cell tc)).trans tc
            have q2 := (hw.cell (p := ⟨w2.heap.size, 0, none⟩) (block_lt_of_cell nc)).trans nc
            go_simp
            exact Hold.stays_call ((hy ▸ hT.box _ _ _ xa (HTB.out _ (K7.out.trans (hw.mono K7.out.size)))))
          · intro gg w' hw hk
            have q0 := (hw.cell (p := ⟨b5, 0, none⟩) (block_lt_of_cell hx0)).trans hx0
            have q1 := (hw.cell (p := ⟨w1.heap.size, 0, none⟩) (block_lt_of_cell tc)).trans tc
            have q2 := (hw.cell (p := ⟨w2.heap.size, 0, none⟩) (block_lt_of_cell nc)).trans nc
            have hf := field_y y w'
            go_simp
            exact ⟨rfl, rfl⟩
          · intro gg w' hw hk
            have q0 := (hw.cell (p := ⟨b5, 0, none⟩) (block_lt_of_cell hx0)).trans hx0
            have q1 := (hw.cell (p := ⟨w1.heap.size, 0, none⟩) (block_lt_of_cell tc)).trans tc
            have q2 := (hw.cell (p := ⟨w2.heap.size, 0, none⟩) (block_lt_of_cell nc)).trans nc
            go_simp
            exact ⟨rfl, rfl⟩
          · intro gg w' hw hk
            have q0 := (hw.cell (p := ⟨b5, 0, none⟩) (block_lt_of_cell hx0)).trans hx0
            have q1 := (hw.cell (p := ⟨w1.heap.size, 0, none⟩) (block_lt_of_cell tc)).trans tc
            have q2 := (hw.cell (p := ⟨w2.heap.size, 0, none⟩) (block_lt_of_cell nc)).trans nc
            go_simp
            exact ⟨rfl, rfl⟩
          · intro gg w' hw hk
            have q0 := (hw.cell (p := ⟨b5, 0, none⟩) (block_lt_of_cell hx0)).trans hx0
            have q1 := (hw.cell (p := ⟨w1.heap.size, 0, none⟩) (block_lt_of_cell tc)).trans tc
            have q2 := (hw.cell (p := ⟨w2.heap.size, 0, none⟩) (block_lt_of_cell nc)).trans nc
            go_simp
            exact ⟨rfl, rfl⟩
          · trivial
          · trivial
          · trivial
          · trivial
          · trivial
          · trivial
          · trivial
        · intro gg W2 qq hgg
          clear hgg
          simp only [Hold.fill, Hold.Leave.value, List.length_cons, List.length_nil, Nat.reduceAdd, Nat.reduceSub]
          refine wpAnyIn_ready (rs := [15]) (by kernel_rfl) (by simp) ?_
          refine AllReadyIn.cons rfl (fun K hK => ?_) AllReadyIn.nil
          go_simp
          refine hK _ _ ?_
          clear hK K
          refine wpAnyIn_done (by kernel_rfl) ?_ _
          have hx2 := (qq.cell (p := ⟨b5, 1, none⟩) (block_lt_of_cell hx1)).trans hx1
          have n2 := BNV.out.kept (grown_of_below qq) (by simp)
          have t2 := BTV.out.kept (grown_of_below qq) (by simp)
          have r2 := BRV.out.kept (grown_of_below qq) (by simp)
          have rc := r2.cell
          have rf := r2.frozen
          have nc2 := n2.cell
          have nf2 := n2.frozen
          clear nc tc hx0 hx1
          gi_wp2_with fail
          refine ⟨KV.out.trans ((below_keeps qq).trans ((KeepsOthers.setCell _ _ _).from _)), fun h => ?_⟩
          have r := right_box hs h
          rw [hsd] at r
          simp only [hy, hL, here] at r
          exact c1 (by simpa using r.1)
    · gi_upto_region 9 with fail
      have BNV := Lib.hid (HN.out.set (.int .i64 (s - 1)))
      have BTV := Lib.hid (HTC.out.other (B' := w2.heap.size) (by omega) (.int .i64 (s - 1)))
      have BRV := Lib.hid (HR.out.other (B' := w2.heap.size) (by omega) (.int .i64 (s - 1)))
      have K7 := Lib.hid (K6.out.setCell (p := ⟨w2.heap.size, 0, none⟩) (show w1.heap.size ≤ w2.heap.size by omega) (.int .i64 (s - 1)))
      have SV := Lib.hid (Stay.grown (s1 := w1.heap.size) (a := Wd.heap.size) (b := w5.heap.size) (grownBy_setCell' W w2.heap.size (.int .i64 (s - 1))) ⟨by omega, by omega⟩ (fun r e => by injection e with e; subst e; exact ⟨by omega, by omega⟩))
      have KV := Lib.hid (((KeepsOthers.setCell _ _ _).from _ : KeepsFrom w5.heap.size W (W.setCell ⟨w2.heap.size, 0, none⟩ (.int .i64 (s - 1)))))
      have h6 := (heap_setCell_other W ⟨w2.heap.size, 0, none⟩ b5 (.int .i64 (s - 1)) hb5).trans h5'
      have hx0 : (W.setCell ⟨w2.heap.size, 0, none⟩ (.int .i64 (s - 1))).cell? ⟨b5, 0, none⟩ = some (.int .i64 xa) := by rw [cell_of_row _ b5 0 _ _ _ h6]; rfl
      have hx1 : (W.setCell ⟨w2.heap.size, 0, none⟩ (.int .i64 (s - 1))).cell? ⟨b5, 1, none⟩ = some (.bool true) := by rw [cell_of_row _ b5 1 _ _ _ h6]; rfl
      clear h6
      clear nc tc nf
      generalize hV : W.setCell ⟨w2.heap.size, 0, none⟩ (.int .i64 (s - 1)) = V at *
      have nc := BNV.out.cell
      have tc := BTV.out.cell
      have hvl : w5.heap.size ≤ V.heap.size := by rw [← hV]; simpa using hwl
      by_cases c1 : y.d = (s - 1)
      · by_cases c2 : (L : Int) = (s - 1)
        · have c1b : (y.d != (s - 1)) = false := by simpa using c1
          have c2b : ((L : Int) != (s - 1)) = false := by simpa using c2
          refine wpIn_region_hold [.val (.pointer (some p)), .val (.pointer (some ⟨b5, 0, none⟩)), .val (.int .i64 xa), .val y.v, .val (.int .i64 y.d), .val (.int .i64 (s - 1)), .val (.bool false), .val (.bool false), .val (.pointer (some p)), .val (.pointer (some ⟨b5, 0, none⟩)), .val (.int .i64 xa), .some (SliceL L), .val (.int .i64 (L : Int)), .val (.int .i64 (s - 1)), .val (.bool false)] (by kernel_rfl) (by kernel_rfl) (by kernel_rfl) ?_ ?_
          · simp only [Hold.fill, Hold.Leave.value]
            refine ⟨?_, ?_, ?_, ?_, ?_, ?_, ?_, ?_, ?_, ?_, ?_, ?_, ?_, ?_, ?_, trivial⟩
            · intro gg w' hw hk
              have q0 := (hw.cell (p := ⟨b5, 0, none⟩) (block_lt_of_cell hx0)).trans hx0
              have q1 := (hw.cell (p := ⟨w1.heap.size, 0, none⟩) (block_lt_of_cell tc)).trans tc
              have q2 := (hw.cell (p := ⟨w2.heap.size, 0, none⟩) (block_lt_of_cell nc)).trans nc
              go_simp
              exact ⟨rfl, rfl⟩
            · intro gg w' hw hk
              have q0 := (hw.cell (p := ⟨b5, 0, none⟩) (block_lt_of_cell hx0)).trans hx0
              have q1 := (hw.cell (p := ⟨w1.heap.size, 0, none⟩) (block_lt_of_cell tc)).trans tc
              have q2 := (hw.cell (p := ⟨w2.heap.size, 0, none⟩) (block_lt_of_cell nc)).trans nc
              go_simp
              exact ⟨rfl, rfl⟩
            · intro gg w' hw hk
              have q0 := (hw.cell (p := ⟨b5, 0, none⟩) (block_lt_of_cell hx0)).trans hx0
              have q1 := (hw.cell (p := ⟨w1.heap.size, 0, none⟩) (block_lt_of_cell tc)).trans tc
              have q2 := (hw.cell (p := ⟨w2.heap.size, 0, none⟩) (block_lt_of_cell nc)).trans nc
              go_simp
              exact ⟨rfl, rfl⟩
            · intro gg w' hw hk
              have q0 := (hw.cell (p := ⟨b5, 0, none⟩) (block_lt_of_cell hx0)).trans hx0
              have q1 := (hw.cell (p := ⟨w1.heap.size, 0, none⟩) (block_lt_of_cell tc)).trans tc
              have q2 := (hw.cell (p := ⟨w2.heap.size, 0, none⟩) (block_lt_of_cell nc)).trans nc
              go_simp
              exact Hold.stays_call ((hy ▸ hT.box _ _ _ xa (HTB.out _ (K7.out.trans (hw.mono K7.out.size)))))
            · intro gg w' hw hk
              have q0 := (hw.cell (p := ⟨b5, 0, none⟩) (block_lt_of_cell hx0)).trans hx0
              have q1 := (hw.cell (p := ⟨w1.heap.size, 0, none⟩) (block_lt_of_cell tc)).trans tc
              have q2 := (hw.cell (p := ⟨w2.heap.size, 0, none⟩) (block_lt_of_cell nc)).trans nc
              have hf := field_y y w'
              go_simp
              exact ⟨rfl, rfl⟩
            · intro gg w' hw hk
              have q0 := (hw.cell (p := ⟨b5, 0, none⟩) (block_lt_of_cell hx0)).trans hx0
              have q1 := (hw.cell (p := ⟨w1.heap.size, 0, none⟩) (block_lt_of_cell tc)).trans tc
              have q2 := (hw.cell (p := ⟨w2.heap.size, 0, none⟩) (block_lt_of_cell nc)).trans nc
              go_simp
              exact ⟨rfl, rfl⟩
            · intro gg w' hw hk
              have q0 := (hw.cell (p := ⟨b5, 0, none⟩) (block_lt_of_cell hx0)).trans hx0
              have q1 := (hw.cell (p := ⟨w1.heap.size, 0, none⟩) (block_lt_of_cell tc)).trans tc
              have q2 := (hw.cell (p := ⟨w2.heap.size, 0, none⟩) (block_lt_of_cell nc)).trans nc
              go_simp
              exact ⟨rfl, rfl⟩
            · intro gg w' hw hk
              have q0 := (hw.cell (p := ⟨b5, 0, none⟩) (block_lt_of_cell hx0)).trans hx0
              have q1 := (hw.cell (p := ⟨w1.heap.size, 0, none⟩) (block_lt_of_cell tc)).trans tc
              have q2 := (hw.cell (p := ⟨w2.heap.size, 0, none⟩) (block_lt_of_cell nc)).trans nc
              go_simp
              exact ⟨rfl, rfl⟩
            · intro gg w' hw hk
              have q0 := (hw.cell (p := ⟨b5, 0, none⟩) (block_lt_of_cell hx0)).trans hx0
              have q1 := (hw.cell (p := ⟨w1.heap.size, 0, none⟩) (block_lt_of_cell tc)).trans tc
              have q2 := (hw.cell (p := ⟨w2.heap.size, 0, none⟩) (block_lt_of_cell nc)).trans nc
              go_simp
              exact ⟨rfl, rfl⟩
            · intro gg w' hw hk
              have q0 := (hw.cell (p := ⟨b5, 0, none⟩) (block_lt_of_cell hx0)).trans hx0
              have q1 := (hw.cell (p := ⟨w1.heap.size, 0, none⟩) (block_lt_of_cell tc)).trans tc
              have q2 := (hw.cell (p := ⟨w2.heap.size, 0, none⟩) (block_lt_of_cell nc)).trans nc
              go_simp
              exact ⟨rfl, rfl⟩
            · intro gg w' hw hk
              have q0 := (hw.cell (p := ⟨b5, 0, none⟩) (block_lt_of_cell hx0)).trans hx0
              have q1 := (hw.cell (p := ⟨w1.heap.size, 0, none⟩) (block_lt_of_cell tc)).trans tc
              have q2 := (hw.cell (p := ⟨w2.heap.size, 0, none⟩) (block_lt_of_cell nc)).trans nc
              go_simp
              exact ⟨rfl, rfl⟩
            · refine ⟨keeps_sliceL _, ?_⟩
              intro gg w' hw hk
              have q0 := (hw.cell (p := ⟨b5, 0, none⟩) (block_lt_of_cell hx0)).trans hx0
              have q1 := (hw.cell (p := ⟨w1.heap.size, 0, none⟩) (block_lt_of_cell tc)).trans tc
              have q2 := (hw.cell (p := ⟨w2.heap.size, 0, none⟩) (block_lt_of_cell nc)).trans nc
              go_simp
              exact Hold.gives_call ((hT_path _ (HTB.out _ (K7.out.trans (hw.mono K7.out.size)))))
            · intro gg w' hw hk
              have h1 := hk ⟨11, .data⟩ (by simp) rfl _ rfl
              exact h1.elim fun A1 h2 => h2.elim fun c1 h3 => by
                change gg 11 = _ at h3
                go_simp
                exact ⟨rfl, rfl⟩
            · intro gg w' hw hk
              have q0 := (hw.cell (p := ⟨b5, 0, none⟩) (block_lt_of_cell hx0)).trans hx0
              have q1 := (hw.cell (p := ⟨w1.heap.size, 0, none⟩) (block_lt_of_cell tc)).trans tc
              have q2 := (hw.cell (p := ⟨w2.heap.size, 0, none⟩) (block_lt_of_cell nc)).trans nc
              go_simp
              exact ⟨rfl, rfl⟩
            · intro gg w' hw hk
              have q0 := (hw.cell (p := ⟨b5, 0, none⟩) (block_lt_of_cell hx0)).trans hx0
              have q1 := (hw.cell (p := ⟨w1.heap.size, 0, none⟩) (block_lt_of_cell tc)).trans tc
              have q2 := (hw.cell (p := ⟨w2.heap.size, 0, none⟩) (block_lt_of_cell nc)).trans nc
              go_simp
              exact ⟨rfl, rfl⟩
          · intro gg W2 qq hgg
            clear hgg
            simp only [Hold.fill, Hold.Leave.value, List.length_cons, List.length_nil, Nat.reduceAdd, Nat.reduceSub]
            refine wpAnyIn_ready (rs := [15]) (by kernel_rfl) (by simp) ?_
            refine AllReadyIn.cons rfl (fun K hK => ?_) AllReadyIn.nil
            go_simp
            refine hK _ _ ?_
            clear hK K
            refine wpAnyIn_done (by kernel_rfl) ?_ _
            have hx2 := (qq.cell (p := ⟨b5, 1, none⟩) (block_lt_of_cell hx1)).trans hx1
            have n2 := BNV.out.kept (grown_of_below qq) (by simp)
            have t2 := BTV.out.kept (grown_of_below qq) (by simp)
            have r2 := BRV.out.kept (grown_of_below qq) (by simp)
            have rc := r2.cell
            have rf := r2.frozen
            have nc2 := n2.cell
            have nf2 := n2.frozen
            clear nc tc hx0 hx1
            gi_wp2_with fail
            have hds : depthAt 0 (pre ++ [(⟨xa, true⟩ : Ev)]) = s - 1 := by rw [depthAt_next, hsd]; rfl
            refine ⟨KV.out.trans (below_keeps qq), SV.out.trans (Stay.grown (grown_of_below qq) ⟨by omega, by omega⟩ (fun r e => by cases e)), ⟨?_, t2, r2⟩, ?_⟩
            · rw [hds]; exact n2
            · exact (HI4.out.setCell (p := ⟨w2.heap.size, 0, none⟩) (show w1.heap.size ≤ w2.heap.size by omega) (.int .i64 (s - 1))).trans (hV ▸ qq.mono (by rw [← hV]; simp; omega))
        · have c1b : (y.d != (s - 1)) = false := by simpa using c1
          have c2b : ((L : Int) != (s - 1)) = true := by simpa using c2
          refine wpIn_region_hold [.val (.pointer (some p)), .val (.pointer (some ⟨b5, 0, none⟩)), .val (.int .i64 xa), .val y.v, .val (.int .i64 y.d), .val (.int .i64 (s - 1)), .val (.bool false), .val (.bool false), .val (.pointer (some p)), .val (.pointer (some ⟨b5, 0, none⟩)), .val (.int .i64 xa), .some (SliceL L), .val (.int .i64 (L : Int)), .val (.int .i64 (s - 1)), .val (.bool true)] (by kernel_rfl) (by kernel_rfl) (by kernel_rfl) ?_ ?_
          · simp only [Hold.fill, Hold.Leave.value]
            refine ⟨?_, ?_, ?_, ?_, ?_, ?_, ?_, ?_, ?_, ?_, ?_, ?_, ?_, ?_, ?_, trivial⟩
            · intro gg w' hw hk
              have q0 := (hw.cell (p := ⟨b5, 0, none⟩) (block_lt_of_cell hx0)).trans hx0
              have q1 := (hw.cell (p := ⟨w1.heap.size, 0, none⟩) (block_lt_of_cell tc)).trans tc
              have q2 := (hw.cell (p := ⟨w2.heap.size, 0, none⟩) (block_lt_of_cell nc)).trans nc
              go_simp
              exact ⟨rfl, rfl⟩
            · intro gg w' hw hk
              have q0 := (hw.cell (p := ⟨b5, 0, none⟩) (block_lt_of_cell hx0)).trans hx0
              have q1 := (hw.cell (p := ⟨w1.heap.size, 0, none⟩) (block_lt_of_cell tc)).trans tc
              have q2 := (hw.cell (p := ⟨w2.heap.size, 0, none⟩) (block_lt_of_cell nc)).trans nc
              go_simp
              exact ⟨rfl, rfl⟩
            · intro gg w' hw hk
              have q0 := (hw.cell (p := ⟨b5, 0, none⟩) (block_lt_of_cell hx0)).trans hx0
              have q1 := (hw.cell (p := ⟨w1.heap.size, 0, none⟩) (block_lt_of_cell tc)).trans tc
              have q2 := (hw.cell (p := ⟨w2.heap.size, 0, none⟩) (block_lt_of_cell nc)).trans nc
              go_simp
              exact ⟨rfl, rfl⟩
            · intro gg w' hw hk
              have q0 := (hw.cell (p := ⟨b5, 0, none⟩) (block_lt_of_cell hx0)).trans hx0
              have q1 := (hw.cell (p := ⟨w1.heap.size, 0, none⟩) (block_lt_of_cell tc)).trans tc
              have q2 := (hw.cell (p := ⟨w2.heap.size, 0, none⟩) (block_lt_of_cell nc)).trans nc
              go_simp
              exact Hold.stays_call ((hy ▸ hT.box _ _ _ xa (HTB.out _ (K7.out.trans (hw.mono K7.out.size)))))
            · intro gg w' hw hk
              have q0 := (hw.cell (p := ⟨b5, 0, none⟩) (block_lt_of_cell hx0)).trans hx0
              have q1 := (hw.cell (p := ⟨w1.heap.size, 0, none⟩) (block_lt_of_cell tc)).trans tc
              have q2 := (hw.cell (p := ⟨w2.heap.size, 0, none⟩) (block_lt_of_cell nc)).trans nc
              have hf := field_y y w'
              go_simp
              exact ⟨rfl, rfl⟩
            · intro gg w' hw hk
              have q0 := (hw.cell (p := ⟨b5, 0, none⟩) (block_lt_of_cell hx0)).trans hx0
              have q1 := (hw.cell (p := ⟨w1.heap.size, 0, none⟩) (block_lt_of_cell tc)).trans tc
              have q2 := (hw.cell (p := ⟨w2.heap.size, 0, none⟩) (block_lt_of_cell nc)).trans nc
              go_simp
              exact ⟨rfl, rfl⟩
            · intro gg w' hw hk
              have q0 := (hw.cell (p := ⟨b5, 0, none⟩) (block_lt_of_cell hx0)).trans hx0
              have q1 := (hw.cell (p := ⟨w1.heap.size, 0, none⟩) (block_lt_of_cell tc)).trans tc
              have q2 := (hw.cell (p := ⟨w2.heap.size, 0, none⟩) (block_lt_of_cell nc)).trans nc
              go_simp
              exact ⟨rfl, rfl⟩
            · intro gg w' hw hk
              have q0 := (hw.cell (p := ⟨b5, 0, none⟩) (block_lt_of_cell hx0)).trans hx0
              have q1 := (hw.cell (p := ⟨w1.heap.size, 0, none⟩) (block_lt_of_cell tc)).trans tc
              have q2 := (hw.cell (p := ⟨w2.heap.size, 0, none⟩) (block_lt_of_cell nc)).trans nc
              go_simp
              exact ⟨rfl, rfl⟩
            · intro gg w' hw hk
              have q0 := (hw.cell (p := ⟨b5, 0, none⟩) (block_lt_of_cell hx0)).trans hx0
              have q1 := (hw.cell (p := ⟨w1.heap.size, 0, none⟩) (block_lt_of_cell tc)).trans tc
              have q2 := (hw.cell (p := ⟨w2.heap.size, 0, none⟩) (block_lt_of_cell nc)).trans nc
              go_simp
              exact ⟨rfl, rfl⟩
            · intro gg w' hw hk
              have q0 := (hw.cell (p := ⟨b5, 0, none⟩) (block_lt_of_cell hx0)).trans hx0
              have q1 := (hw.cell (p := ⟨w1.heap.size, 0, none⟩) (block_lt_of_cell tc)).trans tc
              have q2 := (hw.cell (p := ⟨w2.heap.size, 0, none⟩) (block_lt_of_cell nc)).trans nc
              go_simp
              exact ⟨rfl, rfl⟩
            · intro gg w' hw hk
              have q0 := (hw.cell (p := ⟨b5, 0, none⟩) (block_lt_of_cell hx0)).trans hx0
              have q1 := (hw.cell (p := ⟨w1.heap.size, 0, none⟩) (block_lt_of_cell tc)).trans tc
              have q2 := (hw.cell (p := ⟨w2.heap.size, 0, none⟩) (block_lt_of_cell nc)).trans nc
              go_simp
              exact ⟨rfl, rfl⟩
            · refine ⟨keeps_sliceL _, ?_⟩
              intro gg w' hw hk
              have q0 := (hw.cell (p := ⟨b5, 0, none⟩) (block_lt_of_cell hx0)).trans hx0
              have q1 := (hw.cell (p := ⟨w1.heap.size, 0, none⟩) (block_lt_of_cell tc)).trans tc
              have q2 := (hw.cell (p := ⟨w2.heap.size, 0, none⟩) (block_lt_of_cell nc)).trans nc
              go_simp
              exact Hold.gives_call ((hT_path _ (HTB.out _ (K7.out.trans (hw.mono K7.out.size)))))
            · intro gg w' hw hk
              have h1 := hk ⟨11, .data⟩ (by simp) rfl _ rfl
              exact h1.elim fun A1 h2 => h2.elim fun c1 h3 => by
                change gg 11 = _ at h3
                go_simp
                exact ⟨rfl, rfl⟩
            · intro gg w' hw hk
              have q0 := (hw.cell (p := ⟨b5, 0, none⟩) (block_lt_of_cell hx0)).trans hx0
              have q1 := (hw.cell (p := ⟨w1.heap.size, 0, none⟩) (block_lt_of_cell tc)).trans tc
              have q2 := (hw.cell (p := ⟨w2.heap.size, 0, none⟩) (block_lt_of_cell nc)).trans nc
              go_simp
              exact ⟨rfl, rfl⟩
            · intro gg w' hw hk
              have q0 := (hw.cell (p := ⟨b5, 0, none⟩) (block_lt_of_cell hx0)).trans hx0
              have q1 := (hw.cell (p := ⟨w1.heap.size, 0, none⟩) (block_lt_of_cell tc)).trans tc
              have q2 := (hw.cell (p := ⟨w2.heap.size, 0, none⟩) (block_lt_of_cell nc)).trans nc
              go_simp
              exact ⟨rfl, rfl⟩
          · intro gg W2 qq hgg
            clear hgg
            simp only [Hold.fill, Hold.Leave.value, List.length_cons, List.length_nil, Nat.reduceAdd, Nat.reduceSub]
            refine wpAnyIn_ready (rs := [15]) (by kernel_rfl) (by simp) ?_
            refine AllReadyIn.cons rfl (fun K hK => ?_) AllReadyIn.nil
            go_simp
            refine hK _ _ ?_
            clear hK K
            refine wpAnyIn_done (by kernel_rfl) ?_ _
            have hx2 := (qq.cell (p := ⟨b5, 1, none⟩) (block_lt_of_cell hx1)).trans hx1
            have n2 := BNV.out.kept (grown_of_below qq) (by simp)
            have t2 := BTV.out.kept (grown_of_below qq) (by simp)
            have r2 := BRV.out.kept (grown_of_below qq) (by simp)
            have rc := r2.cell
            have rf := r2.frozen
            have nc2 := n2.cell
            have nf2 := n2.frozen
            clear nc tc hx0 hx1
            gi_wp2_with fail
            refine ⟨KV.out.trans ((below_keeps qq).trans ((KeepsOthers.setCell _ _ _).from _)), fun h => ?_⟩
            have r := right_box hs h
            rw [hsd] at r
            simp only [hy, hL, here] at r
            exact c2 (by simpa using r.2)
      · have c1b : (y.d != (s - 1)) = true := by simpa using c1
        refine wpIn_region_hold [.val (.pointer (some p)), .val (.pointer (some ⟨b5, 0, none⟩)), .val (.int .i64 xa), .val y.v, .val (.int .i64 y.d), .val (.int .i64 (s - 1)), .val (.bool true), .val (.bool true), .skip, .skip, .skip, .skip, .skip, .skip, .skip] (by kernel_rfl) (by kernel_rfl) (by kernel_rfl) ?_ ?_
        · simp only [Hold.fill, Hold.Leave.value]
          refine ⟨?_, ?_, ?_, ?_, ?_, ?_, ?_, ?_, ?_, ?_, ?_, ?_, ?_, ?_, ?_, trivial⟩
          · intro gg w' hw hk
            have q0 := (hw.cell (p := ⟨b5, 0, none⟩) (block_lt_of_cell hx0)).trans hx0
            have q1 := (hw.cell (p := ⟨w1.heap.size, 0, none⟩) (block_lt_of_cell tc)).trans tc
            have q2 := (hw.cell (p := ⟨w2.heap.size, 0, none⟩) (block_lt_of_cell nc)).trans nc
            go_simp
            exact ⟨rfl, rfl⟩
          · intro gg w' hw hk
            have q0 := (hw.cell (p := ⟨b5, 0, none⟩) (block_lt_of_cell hx0)).trans hx0
            have q1 := (hw.cell (p := ⟨w1.heap.size, 0, none⟩) (block_lt_of_cell tc)).trans tc
            have q2 := (hw.cell (p := ⟨w2.heap.size, 0, none⟩) (block_lt_of_cell nc)).trans nc
            go_simp
            exact ⟨rfl, rfl⟩
          · intro gg w' hw hk
            have q0 := (hw.cell (p := ⟨b5, 0, none⟩) (block_lt_of_cell hx0)).trans hx0
            have q1 := (hw.cell (p := ⟨w1.heap.size, 0, none⟩) (block_lt_of_cell tc)).trans tc
            have q2 := (hw.cell (p := ⟨w2.heap.size, 0, none⟩) (block_lt_of_cell nc)).trans nc
            go_simp
            exact ⟨rfl, rfl⟩
          · intro gg w' hw hk
            have q0 := (hw.cell (p := ⟨b5, 0, none⟩) (block_lt_of_cell hx0)).trans hx0
            have q1 := (hw.cell (p := ⟨w1.heap.size, 0, none⟩) (block_lt_of_cell tc)).trans tc
            have q2 := (hw.cell (p := ⟨w2.heap.size, 0, none⟩) (block_lt_of_cell nc)).trans nc
            go_simp
            exact Hold.stays_call ((hy ▸ hT.box _ _ _ xa (HTB.out _ (K7.out.trans (hw.mono K7.out.size)))))
          · intro gg w' hw hk
            have q0 := (hw.cell (p := ⟨b5, 0, none⟩) (block_lt_of_cell hx0)).trans hx0
            have q1 := (hw.cell (p := ⟨w1.heap.size, 0, none⟩) (block_lt_of_cell tc)).trans tc
            have q2 := (hw.cell (p := ⟨w2.heap.size, 0, none⟩) (block_lt_of_cell nc)).trans nc
            have hf := field_y y w'
            go_simp
            exact ⟨rfl, rfl⟩
          · intro gg w' hw hk
            have q0 := (hw.cell (p := ⟨b5, 0, none⟩) (block_lt_of_cell hx0)).trans hx0
            have q1 := (hw.cell (p := ⟨w1.heap.size, 0, none⟩) (block_lt_of_cell tc)).trans tc
            have q2 := (hw.cell (p := ⟨w2.heap.size, 0, none⟩) (block_lt_of_cell nc)).trans nc
            go_simp
            exact ⟨rfl, rfl⟩
          · intro gg w' hw hk
            have q0 := (hw.cell (p := ⟨b5, 0, none⟩) (block_lt_of_cell hx0)).trans hx0
            have q1 := (hw.cell (p := ⟨w1.heap.size, 0, none⟩) (block_lt_of_cell tc)).trans tc
            have q2 := (hw.cell (p := ⟨w2.heap.size, 0, none⟩) (block_lt_of_cell nc)).trans nc
            go_simp
            exact ⟨rfl, rfl⟩
          · intro gg w' hw hk
            have q0 := (hw.cell (p := ⟨b5, 0, none⟩) (block_lt_of_cell hx0)).trans hx0
            have q1 := (hw.cell (p := ⟨w1.heap.size, 0, none⟩) (block_lt_of_cell tc)).trans tc
            have q2 := (hw.cell (p := ⟨w2.heap.size, 0, none⟩) (block_lt_of_cell nc)).trans nc
            go_simp
            exact ⟨rfl, rfl⟩
          · trivial
          · trivial
          · trivial
          · trivial
          · trivial
          · trivial
          · trivial
        · intro gg W2 qq hgg
          clear hgg
          simp only [Hold.fill, Hold.Leave.value, List.length_cons, List.length_nil, Nat.reduceAdd, Nat.reduceSub]
          refine wpAnyIn_ready (rs := [15]) (by kernel_rfl) (by simp) ?_
          refine AllReadyIn.cons rfl (fun K hK => ?_) AllReadyIn.nil
          go_simp
          refine hK _ _ ?_
          clear hK K
          refine wpAnyIn_done (by kernel_rfl) ?_ _
          have hx2 := (qq.cell (p := ⟨b5, 1, none⟩) (block_lt_of_cell hx1)).trans hx1
          have n2 := BNV.out.kept (grown_of_below qq) (by simp)
          have t2 := BTV.out.kept (grown_of_below qq) (by simp)
          have r2 := BRV.out.kept (grown_of_below qq) (by simp)
          have rc := r2.cell
          have rf := r2.frozen
          have nc2 := n2.cell
          have nf2 := n2.frozen
          clear nc tc hx0 hx1
          gi_wp2_with fail
          refine ⟨KV.out.trans ((below_keeps qq).trans ((KeepsOthers.setCell _ _ _).from _)), fun h => ?_⟩
          have r := right_box hs h
          rw [hsd] at r
          simp only [hy, hL, here] at r
          exact c1 (by simpa using r.1)
  case done =>
    rintro D ys W hD rfl ⟨⟨i1, i2, i3⟩, i4⟩ hK
    have hz := (all_downs bs hs).last
    rw [hz] at i1
    have nc := i1.cell
    have rc := i3.cell
    have rf := i3.frozen
    have hne : D ≠ w.heap.size := by omega
    have hK2 : (W.setCell ⟨w.heap.size, 0, none⟩ (.bool true)).heap[D]? = some (.deferred (some [])) := by rw [heap_setCell_other _ _ _ _ hne]; exact hK
    have i5 := i3.set (.bool true)
    gi_wp2_with fail
    refine ⟨by simp, .inl ⟨_, _, rfl, run_takeDeferred hK2, ?_⟩⟩
    have i6 : Boxed ((W.setCell ⟨w.heap.size, 0, none⟩ (.bool true)).putObj D (.deferred none)) w.heap.size 4 (.bool true) := i5.kept (grownBy_putObj' _ D _) (fun e => hne (by injection e with e; exact e.symm))
    have c6 := i6.cell
    have a4 := Try.isAgg4
    have hk0 : Below w.heap.size w W := K1.out.trans ((K5.out.trans i4).mono (by omega))
    have hk6 : Below w.heap.size w ((W.setCell ⟨w.heap.size, 0, none⟩ (.bool true)).putObj D (.deferred none)) := (hk0.setCell (p := ⟨w.heap.size, 0, none⟩) (Nat.le_refl _) _).trans (belowK_b (w := w) (by omega) _ D _ _ (by omega) hK2 rfl rfl)
    exact ⟨.bool true, by simp [results, Try.results8, go_sem, c6], rfl, hk6⟩
  case stop =>
    rintro D c pre W _ hs h _
    exact (h hs).elim

theorem depths_any (hT : TreeOk T) (hW : WalkOk T) (A : Option Addr) (n c : Nat) (bs : List Bx) (w : World) (hn : n = bs.length) (hm : n ≤ 9223372036854775807) (hx : Boxes w w.heap.size A bs) (hb : ∀ b ∈ bs, OkB b) :
    Calls Try.prog 8 #[.slice A n c] w fun e w' => e = .returned (.bool true) ∧ Below w.heap.size w w' := by
  refine (callsIn_wide (n := 6)).1 ?_
  rcases begun_or hT A n c bs w hn hm hx hb with ⟨h, hs, -, hb⟩ | h
  · exact depths_yes hT hW A n c bs w hs (by omega) hb
  · exact depths_no hT hW A n c w h

end

end Go.Proofs.Ytflncnfagoekcaa.Walk
