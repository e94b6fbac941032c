/- The law of the events of each context. -/
import Derived.Test.YtflncnfagoekcaaPart14
import Derived.Test.YtflncnfagoekcaaPart24
import Derived.Test.YtflncnfagoekcaaPart23
namespace Go.Proofs.Ytflncnfagoekcaa.Walk
open Go.RowKit Go.Shelf Go.Sort Go.Proofs.Ytflncnfagoekcaa.Record Go.Proofs.Ytflncnfagoekcaa.Script Go.Proofs.Ytflncnfagoekcaa.Tree Go.Proofs.Ytflncnfagoekcaa.More

attribute [local go_sem] Oper.semAt_some

theorem memT_len (bs : List Bx) (i : Int) : (memT bs i).length ≤ bs.length := by
  unfold memT
  split
  · rename_i h
    rw [List.length_map]
    unfold memTo
    refine Nat.le_trans (List.length_filter_le _ _) ?_
    rw [List.length_range]
    have := h.1.1; have := h.1.2
    exact (en_spec (dOf bs) bs.length i.toNat (by omega)).2.1
  · simp

section
variable {T : World → Addr → List Bx → Prop}

set_option maxRecDepth 100000 in
set_option maxHeartbeats 8000000 in
theorem contexts_yes (hT : TreeOk T) (hW : WalkOk T) (A : Option Addr) (n c : Nat) (z : Int) (bs : List Bx) (w : World) (hf : Fine bs n) (hn : n = bs.length) (hlen : n ≤ 100) (hx : Boxes w w.heap.size A bs) (hb : Begun T A n c bs w) :
    CallsIn Fence.wide 6 Try.prog 4 #[.slice A n c, .int .i64 z] w fun e w' => e = .returned (.bool true) ∧ Below w.heap.size w w' := by
  have hro : Fence.wide.round = none := rfl
  have HB := Lib.hid hb
  have HX := Lib.hid hx
  have HN := Lib.hid hn
  have HF := Lib.hid hf
  clear hb hx hn hf
  refine callsIn_of_wp_marks Try.func4 rfl trivial ?_ hro
  simp only [Try.ntmps4, List.size_toArray, List.length_nil, List.length_cons, Nat.reduceAdd, Nat.reduceSub, Array.replicate_succ, Array.replicate_zero, List.push_toArray, List.append_toArray, List.nil_append, List.cons_append]
  gi_upto_region 1 with fail
  generalize hWa : World.alloc w _ = Wa
  have hka : Below w.heap.size w Wa := by rw [← hWa]; exact ba1 _ _
  have hbr : Boxed Wa w.heap.size 4 (.bool false) := by rw [← hWa]; exact Boxed.new _ _ _
  clear hWa
  have KA := Lib.hid hka
  have BR := Lib.hid hbr
  clear hka hbr
  gi_upto_region 2 with (first
    | (refine ⟨trivial, ?_⟩; gi_at_call 9; refine (callsIn_wide.2 (HB.out _ KA.out)).mono ?_; rintro e w1 ⟨⟨p, rfl, ht⟩, k1⟩; have HT1 := Lib.hid ht; have K1 := Lib.hid (thru KA.out k1); have BR1 := Lib.hid (BR.out.kept (grown_of_below k1) (by simp)); clear k1 ht))
  clear KA BR
  gi_upto_region 4 with (first
    | (refine ⟨trivial, ?_⟩; gi_at_call 10; refine (callsIn_wide.2 (callsIn_wide.1 (wspeaks hT hW _))).mono ?_; rintro e w2 ⟨rfl, k2⟩; have L2 := Lib.hid k2; have K2 := Lib.hid (thru K1.out k2); have BR2 := Lib.hid (BR1.out.kept (grown_of_below k2) (by simp)); clear k2))
  have hs1 := BR1.out.lt
  have hs12 := L2.out.size
  clear BR1
  have hwn : IntKind.i64.wrap ((n : Int) + 1) = ((n + 1 : Nat) : Int) := by rw [IntWalk.i64_in _ (by omega)]; omega
  gi_wp2_with fail
  refine wpIn_loop (fun a W => ∃ (k : Nat) (Ds : List Nat) (u6 u7 u8 u23 u24 u25 u26 u27 u28 u29 u30 u31 u32 u33 u34 u35 u51 u52 u53 u54 u55 u56 u57 u58 u59 u60 u61 u62 u63 u64 u65 : Value), k ≤ n + 1 ∧ a = { tmps := (Value.slice A n c :: Value.int IntKind.i64 z :: undef :: undef :: Value.pointer (some ⟨w.heap.size, 0, none⟩) :: Value.pointer (some p) :: u6 :: u7 :: u8 :: undef :: Value.slice A n c :: Value.pointer (some p) :: Value.bool true :: Value.bool false :: Value.bool false :: Value.pointer (some p) :: Value.bool false :: Value.bool false :: undef :: Value.slice A n c :: Value.int IntKind.i64 (n : Int) :: Value.int IntKind.i64 ((n : Int) + 1) :: Value.int IntKind.i64 (k : Int) :: u23 :: u24 :: u25 :: u26 :: u27 :: u28 :: u29 :: u30 :: u31 :: u32 :: u33 :: u34 :: u35 :: undef :: undef :: undef :: undef :: undef :: undef :: undef :: undef :: undef :: undef :: undef :: undef :: undef :: undef :: undef :: u51 :: u52 :: u53 :: u54 :: u55 :: u56 :: u57 :: u58 :: u59 :: u60 :: u61 :: u62 :: u63 :: u64 :: u65 :: []).toArray, defers := marks Ds } ∧ Hid (Below w2.heap.size w2 W ∧ Ds.Nodup ∧ ∀ D ∈ Ds, w2.heap.size ≤ D ∧ W.heap[D]? = some (.deferred (some []))))
    (fun a _ => n + 1 - (intOf (a.tmps.getD 22 undef)).toNat) ⟨0, [], undef, undef, undef, undef, undef, undef, undef, undef, undef, undef, undef, undef, undef, undef, undef, undef, undef, undef, undef, undef, undef, undef, undef, undef, undef, undef, undef, undef, undef, undef, undef, by omega, rfl, Lib.hid ⟨Below.refl _ _, List.nodup_nil, fun D h => by cases h⟩⟩ ?_
  rintro a W ⟨k, Ds, u6, u7, u8, u23, u24, u25, u26, u27, u28, u29, u30, u31, u32, u33, u34, u35, u51, u52, u53, u54, u55, u56, u57, u58, u59, u60, u61, u62, u63, u64, u65, hk, rfl, hst⟩
  rcases Nat.lt_trichotomy k n with h | h | h
  · generalize hQQ : Exit.then _ _ = QQ
    have hkn : (k : Int) < (n : Int) + 1 := by omega
    have hkn2 : ((k : Int) == (n : Int)) = false := by rw [beq_eq_false_iff_ne]; omega
    have hkn3 : ¬ (k : Int) = (n : Int) := by omega
    gi_upto_region 9 with fail
    obtain ⟨evs, hevs⟩ : ∃ evs, evCtx bs (k : Int) = evs := ⟨_, rfl⟩
    obtain ⟨L, hL⟩ : ∃ L, evs.length = L := ⟨_, rfl⟩
    obtain ⟨ms, hms⟩ : ∃ ms, memT bs (k : Int) = ms := ⟨_, rfl⟩
    obtain ⟨ML, hML⟩ : ∃ ML, ms.length = ML := ⟨_, rfl⟩
    have hle := evCtx_len bs (k : Int)
    rw [hevs, hL] at hle
    have hbl := HN.out
    have hle2 : L ≤ 200 := by omega
    have hml : ML ≤ 100 := by have := memT_len bs (k : Int); rw [hms, hML] at this; omega
    have HL := Lib.hid hL
    have HML := Lib.hid hML
    have HR := Lib.hid (show Calls Try.prog 13 #[.slice A n c, .int .i64 (k : Int)] W _ from refctxs_any A n c bs (k : Int) W HN.out (by omega) (HX.out.thru (thru K2.out hst.out.1)))
    rw [hevs, hL] at HR
    have HG := Lib.hid (fun V (q : Below w2.heap.size w2 V) => hW.ctx w1 p bs V (k : Int) HT1.out (thru L2.out q))
    rw [hevs] at HG
    have HM := Lib.hid (fun V (q : Below w2.heap.size w2 V) => (hW.members V p bs (k : Int) (hT.keep _ _ _ _ HT1.out (thru L2.out q))).mono (R' := fun r w' => ∃ A8 c8, r = .returned (.slice A8 ML c8) ∧ Nums w' w'.heap.size A8 ms ∧ Below V.heap.size V w') (by
      rintro r w' ⟨u, rfl, ⟨A8, c8, rfl, n8, -⟩, k8⟩
      rw [hms] at n8 ⊢
      rw [hML]
      exact ⟨A8, c8, rfl, n8, k8⟩))
    have HRM := Lib.hid (fun V (q : Below w2.heap.size w2 V) => refmem_any A n c bs (k : Int) V HN.out (by omega) (HX.out.thru (thru K2.out q)) (fun k hk => HF.out.depth hk))
    rw [hms, hML] at HRM
    have hw2 := hst.out.1.size
    clear hevs hL hms hML hbl
    gi_upto_region 10 with (first
      | (refine ⟨trivial, ?_⟩; gi_at_call 13; refine (callsIn_wide.2 HR.out).mono ?_; rintro e w3 ⟨⟨A3, c3, rfl, m3⟩, k3⟩; have M3 := Lib.hid m3; have L3 := Lib.hid k3; clear k3 m3))
    generalize hW7 : World.alloc w3 _ = W7
    have hk7 := ba1 w3 (.cells #[.slice A3 L c3] 26)
    have hb7 := Boxed.new w3 26 (.slice A3 L c3)
    have hm7 := M3.out.alloc (.cells #[.slice A3 L c3] 26)
    have hs7 : (w3.alloc (.cells #[.slice A3 L c3] 26)).heap.size = w3.heap.size + 1 := by simp
    rw [hW7] at hk7 hb7 hm7 hs7
    have hs37 : w3.heap.size < W7.heap.size := by omega
    clear hs7
    have hs3 := L3.out.size
    have L7 := Lib.hid (thru L3.out hk7)
    clear hW7 hk7 L3 HR
    gi_upto_region 11 with fail
    generalize hW8 : World.alloc W7 _ = W8
    have hk8 := ba1 W7 (.cells #[.int .i64 0] 3)
    have hb8 := Boxed.new W7 3 (.int .i64 0)
    have hb78 := hb7.alloc (.cells #[.int .i64 0] 3)
    have hm78 := hm7.alloc (.cells #[.int .i64 0] 3)
    have hs8 : (W7.alloc (.cells #[.int .i64 0] 3)).heap.size = W7.heap.size + 1 := by simp
    rw [hW8] at hk8 hb8 hb78 hm78 hs8
    have hs78 : W7.heap.size < W8.heap.size := by omega
    clear hs8
    have L8 := Lib.hid (thru L7.out hk8)
    have L28 := Lib.hid (hst.out.1.trans (L8.out.mono hw2))
    clear hW8 hk8 L7 hb7 hm7
    gi_wp2_with (first
      | (refine ⟨trivial, ?_⟩; gi_at_call 14; refine (callsIn_wide.2 (HG.out _ L28.out)).mono ?_; rintro e w6 ⟨⟨f, lb, rfl, heg, hseq⟩, k6⟩))
    rw [HL.out] at hseq
    have hs6 := k6.size
    have BN := Lib.hid (hb8.kept (grown_of_below k6) (by simp))
    have BW := Lib.hid (hb78.kept (grown_of_below k6) (by simp))
    have M6 := Lib.hid (hm78.below k6)
    have L6 := Lib.hid (thru L8.out k6)
    have L26 := Lib.hid (hst.out.1.trans (L6.out.mono hw2))
    have hq := Gives.plain (by rw [HL.out]; exact hseq) 5 (by omega)
    rw [HL.out] at hq
    clear hseq k6 hb8 hb78 hm78 L8 L28 HG
    refine wpIn_rangeFunc_ownH hro (by omega) (gf := f) (lb := lb) rfl trivial heg hq
      (fun h k => h.trans k) (fun W l o o' h1 h2 h3 h4 => Stay.put (N := w6.heap.size) (by omega) (Nat.le_refl _) W l o o' h1 h2 h3 h4) (Below.refl _ _) (fun _ => rfl)
      (fun pre V => (Boxed V W7.heap.size 3 (.int .i64 (pre.length : Int)) ∧ pre = evs.take pre.length) ∧ Below W7.heap.size w6 V)
      (fun _ pre _ => pre = evs.take pre.length → False)
      (OwnFrom.and (OwnFrom.and (Own.from (boxed_own _ _ _) _) (pure_own _)) (ownFrom_below (by omega) (by omega)))
      (fun _ => pure_own _)
      ⟨⟨BN.out, rfl⟩, Below.refl _ _⟩
      (fun x => VarW (fun b5 => { tmps := (Value.slice A n c :: Value.int IntKind.i64 z :: undef :: undef :: Value.pointer (some ⟨w.heap.size, 0, none⟩) :: Value.pointer (some p) :: Value.int IntKind.i64 (k : Int) :: Value.pointer (some ⟨w3.heap.size, 0, none⟩) :: Value.pointer (some ⟨W7.heap.size, 0, none⟩) :: .pointer (some ⟨b5, 0, none⟩) :: Value.slice A n c :: Value.pointer (some p) :: Value.bool true :: Value.bool false :: Value.bool false :: Value.pointer (some p) :: Value.bool false :: Value.bool false :: undef :: Value.slice A n c :: Value.int IntKind.i64 (n : Int) :: Value.int IntKind.i64 ((n : Int) + 1) :: Value.int IntKind.i64 (k : Int) :: Value.bool true :: Value.int IntKind.i64 (k : Int) :: Value.int IntKind.i64 (k : Int) :: Value.slice A n c :: Value.int IntKind.i64 (n : Int) :: Value.bool false :: u29 :: Value.slice A n c :: Value.int IntKind.i64 (k : Int) :: Value.slice A3 L c3 :: Value.pointer (some p) :: Value.int IntKind.i64 (k : Int) :: Value.func (Fn.func f) #[] lb :: x.v :: undef :: undef :: undef :: undef :: undef :: undef :: undef :: undef :: undef :: undef :: undef :: undef :: undef :: undef :: u51 :: u52 :: u53 :: u54 :: u55 :: u56 :: u57 :: u58 :: u59 :: u60 :: u61 :: u62 :: u63 :: u64 :: u65 :: []).toArray, defers := [] }) x) (fun x a' => varW_own _ x a' _) ?assign ?body ?done ?stop
    case assign =>
      intro l pre x V K hI hK
      obtain ⟨⟨i1, i3⟩, i4⟩ := hI
      have HK := Lib.hid hK
      clear hK
      simp only [encW]
      gi_wp2_with fail
      have hk := ba1 V (.cells #[.int .i64 x.a, .bool x.l] 32)
      have hg := grown_of_below hk
      have hwl := i4.size
      exact HK.out _ _ (below_keeps hk) (Stay.grown hg ⟨by omega, by omega⟩ (fun r e => by cases e)) ⟨⟨i1.kept hg (by simp), i3⟩, i4.trans (hk.mono (by omega))⟩ ⟨V.heap.size, rfl, heap_alloc_new V _⟩
    case body =>
      rintro l pre x a' V hl - ⟨⟨i1, i3⟩, i4⟩ ⟨b5, rfl, h5⟩ hlt
      have HP := Lib.hid i3
      have HV := Lib.hid i4
      have hx0 : V.cell? ⟨b5, 0, none⟩ = some (.int .i64 x.a) := by rw [cell_of_row V b5 0 _ _ _ h5]; rfl
      have hx1 : V.cell? ⟨b5, 1, none⟩ = some (.bool x.l) := by rw [cell_of_row V b5 1 _ _ _ h5]; rfl
      obtain ⟨m, hm⟩ : ∃ m, pre.length = m := ⟨_, rfl⟩
      have HMm := Lib.hid hm
      rw [hm] at i1 hlt
      have nc := i1.cell
      have HBN := Lib.hid i1
      have hvl := i4.size
      have wc : V.cell? ⟨w3.heap.size, 0, none⟩ = some (.slice A3 L c3) := (i4.cell (p := ⟨w3.heap.size, 0, none⟩) (by simp; omega)).trans BW.out.cell
      have hmL : m < L := hlt
      obtain ⟨y, hy⟩ : ∃ y, evs[m]? = some y := ⟨_, List.getElem?_eq_getElem (by rw [HL.out]; exact hmL)⟩
      obtain ⟨g, rfl, hg1, hgl, -, -⟩ := M3.out.form (by omega)
      have hg7 : g < W7.heap.size := by omega
      have e0 : V.cell? ⟨g, m * 2, none⟩ = some (.int .i64 y.a) := by
        have := M6.out.at m y hy 0 (by decide)
        exact (i4.cell (p := ⟨g, m * 2, none⟩) hg7).trans this
      have e1 : V.cell? ⟨g, m * 2 + 1, none⟩ = some (.bool y.l) := by
        have := M6.out.at m y hy 1 (by decide)
        exact (i4.cell (p := ⟨g, m * 2 + 1, none⟩) hg7).trans this
      have HY := Lib.hid hy
      have hmi : (m : Int) < (L : Int) := by omega
      have hmi' : ¬ (L : Int) ≤ (m : Int) := by omega
      have hm0 : ¬ (m : Int) < 0 := by omega
      have hwm : IntKind.i64.wrap ((m : Int) + 1) = (m : Int) + 1 := IntWalk.i64_in _ (by omega)
      obtain ⟨sm, hsm⟩ : ∃ sm, sameEv x y = sm := ⟨_, rfl⟩
      have E := eqEvR x y
      rw [hsm] at E
      have HSM := Lib.hid hsm
      clear i1 i3 i4 h5 hlt hm hy hsm
      dsimp only
      cases sm
      · gi_upto_region 13 with fail
        refine wpIn_region_told [.val (.int .i64 (m : Int)), .val (.slice (some ⟨g, 0, none⟩) L c3), .val (.int .i64 (L : Int)), .val (.bool false), .val (.bool false), .val x.v, .val (.slice (some ⟨g, 0, none⟩) L c3), .val (.int .i64 (m : Int)), .val (.pointer (some ⟨g, m * 2, none⟩)), .val y.v, .val (.bool true)] (by kernel_rfl) (by kernel_rfl) (by kernel_rfl) ?_ ?_
        · simp only [Told.fill, Told.Leave.value]
          refine ⟨?_, ?_, ?_, ?_, ?_, ?_, ?_, ?_, ?_, ?_, ?_, trivial⟩
          · intro gg w' hw hk
            have q0 := (hw.cell (p := ⟨W7.heap.size, 0, none⟩) (block_lt_of_cell nc)).trans nc
            go_simp
            exact ⟨rfl, rfl⟩
          · intro gg w' hw hk
            have q0 := (hw.cell (p := ⟨w3.heap.size, 0, none⟩) (block_lt_of_cell wc)).trans wc
            go_simp
            exact ⟨rfl, rfl⟩
          · intro gg w' hw hk
            go_simp
            exact ⟨rfl, rfl⟩
          · intro gg w' hw hk
            go_simp
            exact ⟨rfl, rfl⟩
          · intro gg w' hw hk
            go_simp
            exact ⟨rfl, rfl⟩
          · intro gg w' hw hk
            have q0 := (hw.cell (p := ⟨b5, 0, none⟩) (block_lt_of_cell hx0)).trans hx0
            have q1 := (hw.cell (p := ⟨b5, 1, none⟩) (block_lt_of_cell hx1)).trans hx1
            go_simp
            exact ⟨rfl, rfl⟩
          · intro gg w' hw hk
            have q0 := (hw.cell (p := ⟨w3.heap.size, 0, none⟩) (block_lt_of_cell wc)).trans wc
            go_simp
            exact ⟨rfl, rfl⟩
          · intro gg w' hw hk
            have q0 := (hw.cell (p := ⟨W7.heap.size, 0, none⟩) (block_lt_of_cell nc)).trans nc
            go_simp
            exact ⟨rfl, rfl⟩
          · intro gg w' hw hk
            go_simp
            exact ⟨rfl, rfl⟩
          · intro gg w' hw hk
            have q0 := (hw.cell (p := ⟨g, m * 2, none⟩) (block_lt_of_cell e0)).trans e0
            have q1 := (hw.cell (p := ⟨g, m * 2 + 1, none⟩) (block_lt_of_cell e1)).trans e1
            go_simp
            exact ⟨rfl, rfl⟩
          · intro gg w' hw hk
            have E1 := E w'
            go_simp
            exact ⟨rfl, rfl⟩
        · intro gg W2 qq hbox hap
          clear hbox hap
          simp only [Told.fill, Told.Leave.value, List.length_cons, List.length_nil, Nat.reduceAdd, Nat.reduceSub]
          refine wpAnyIn_ready (rs := [11]) (by kernel_rfl) (by simp) ?_
          refine AllReadyIn.cons rfl (fun K hK => ?_) AllReadyIn.nil
          go_simp
          refine hK _ _ ?_
          clear hK K
          refine wpAnyIn_done (by kernel_rfl) ?_ _
          have r2 : Boxed W2 w.heap.size 4 (.bool false) := ((((L26.out.trans (HV.out.mono (by omega))).trans (qq.mono (by omega)) : Below w2.heap.size w2 W2)).block _ BR2.out.lt).trans BR2.out
          have rc := r2.cell
          have rf := r2.frozen
          gi_wp2_with fail
          refine ⟨(below_keeps qq).trans ((KeepsOthers.setCell _ _ _).from _), fun h => ?_⟩
          have h7 := (sameEv_iff x y).2 (take_last h HMm.out HY.out)
          rw [HSM.out] at h7
          cases h7
      · gi_upto_region 13 with fail
        refine wpIn_region_told [.val (.int .i64 (m : Int)), .val (.slice (some ⟨g, 0, none⟩) L c3), .val (.int .i64 (L : Int)), .val (.bool false), .val (.bool false), .val x.v, .val (.slice (some ⟨g, 0, none⟩) L c3), .val (.int .i64 (m : Int)), .val (.pointer (some ⟨g, m * 2, none⟩)), .val y.v, .val (.bool false)] (by kernel_rfl) (by kernel_rfl) (by kernel_rfl) ?_ ?_
        · simp only [Told.fill, Told.Leave.value]
          refine ⟨?_, ?_, ?_, ?_, ?_, ?_, ?_, ?_, ?_, ?_, ?_, trivial⟩
          · intro gg w' hw hk
            have q0 := (hw.cell (p := ⟨W7.heap.size, 0, none⟩) (block_lt_of_cell nc)).trans nc
            go_simp
            exact ⟨rfl, rfl⟩
          · intro gg w' hw hk
            have q0 := (hw.cell (p := ⟨w3.heap.size, 0, none⟩) (block_lt_of_cell wc)).trans wc
            go_simp
            exact ⟨rfl, rfl⟩
          · intro gg w' hw hk
            go_simp
            exact ⟨rfl, rfl⟩
          · intro gg w' hw hk
            go_simp
            exact ⟨rfl, rfl⟩
          · intro gg w' hw hk
            go_simp
            exact ⟨rfl, rfl⟩
          · intro gg w' hw hk
            have q0 := (hw.cell (p := ⟨b5, 0, none⟩) (block_lt_of_cell hx0)).trans hx0
            have q1 := (hw.cell (p := ⟨b5, 1, none⟩) (block_lt_of_cell hx1)).trans hx1
            go_simp
            exact ⟨rfl, rfl⟩
          · intro gg w' hw hk
            have q0 := (hw.cell (p := ⟨w3.heap.size, 0, none⟩) (block_lt_of_cell wc)).trans wc
            go_simp
            exact ⟨rfl, rfl⟩
          · intro gg w' hw hk
            have q0 := (hw.cell (p := ⟨W7.heap.size, 0, none⟩) (block_lt_of_cell nc)).trans nc
            go_simp
            exact ⟨rfl, rfl⟩
          · intro gg w' hw hk
            go_simp
            exact ⟨rfl, rfl⟩
          · intro gg w' hw hk
            have q0 := (hw.cell (p := ⟨g, m * 2, none⟩) (block_lt_of_cell e0)).trans e0
            have q1 := (hw.cell (p := ⟨g, m * 2 + 1, none⟩) (block_lt_of_cell e1)).trans e1
            go_simp
            exact ⟨rfl, rfl⟩
          · intro gg w' hw hk
            have E1 := E w'
            go_simp
            exact ⟨rfl, rfl⟩
        · intro gg W2 qq hbox hap
          clear hbox hap
          simp only [Told.fill, Told.Leave.value, List.length_cons, List.length_nil, Nat.reduceAdd, Nat.reduceSub]
          refine wpAnyIn_ready (rs := [11]) (by kernel_rfl) (by simp) ?_
          refine AllReadyIn.cons rfl (fun K hK => ?_) AllReadyIn.nil
          go_simp
          refine hK _ _ ?_
          clear hK K
          refine wpAnyIn_done (by kernel_rfl) ?_ _
          have n2 := HBN.out.kept (grown_of_below qq) (by simp)
          have nc2 := n2.cell
          have nf2 := n2.frozen
          gi_wp2_with fail
          have hxy : x = y := (sameEv_iff _ _).1 HSM.out
          have hl2 : (pre ++ [x]).length = m + 1 := by rw [List.length_append, HMm.out]; rfl
          have hq2 := qq.size
          refine ⟨(below_keeps qq).trans ((KeepsOthers.setCell _ _ _).from _), (Stay.grown (grown_of_below qq) ⟨by omega, by omega⟩ (fun r e => by cases e)).trans (Stay.grown (grownBy_setCell' W2 W7.heap.size _) ⟨by omega, by omega⟩ (fun r e => by injection e with e; subst e; omega)), ⟨?_, ?_⟩, (HV.out.trans (qq.mono (by omega))).setCell (p := ⟨W7.heap.size, 0, none⟩) (Nat.le_refl _) _⟩
          · rw [hl2]; exact n2.set (.int .i64 (m + 1 : Int))
          · rw [hxy]
            exact take_step HP.out (by rw [HMm.out]; exact HY.out)
    case done =>
      rintro D ys V hD rfl ⟨⟨i1, i3⟩, i4⟩ hK
      have nc := i1.cell
      rw [HL.out] at nc
      have hvl := i4.size
      have wc : V.cell? ⟨w3.heap.size, 0, none⟩ = some (.slice A3 L c3) := (i4.cell (p := ⟨w3.heap.size, 0, none⟩) (by simp; omega)).trans BW.out.cell
      have h26 : Below w2.heap.size w2 V := L26.out.trans (i4.mono (by omega))
      have H2V := Lib.hid h26
      have H8 := Lib.hid (fun D hD => ((i4.block D (by have := (Array.getElem?_eq_some_iff.1 (hst.out.2.2 D hD).2).1; omega)).trans ((L6.out.block D (Array.getElem?_eq_some_iff.1 (hst.out.2.2 D hD).2).1).trans (hst.out.2.2 D hD).2)))
      have hwk : IntKind.i64.wrap ((k : Int) + 1) = ((k + 1 : Nat) : Int) := by rw [IntWalk.i64_in _ (by omega)]; omega
      have HKD := Lib.hid hK
      clear i1 i3 i4 h26 hK
      gi_wp2_with (first
        | (refine ⟨trivial, ?_⟩; gi_at_call 16; refine (callsIn_wide.2 (HM.out _ H2V.out)).mono ?_; rintro e w8 ⟨A8, c8, rfl, n8, k8⟩; have N8 := Lib.hid n8; have K8 := Lib.hid k8; have H28 := Lib.hid (thru H2V.out k8); clear n8 k8)
        | (refine ⟨trivial, ?_⟩; gi_at_call 17; refine (callsIn_wide.2 (HRM.out _ H28.out)).mono ?_; rintro e w9 ⟨⟨A9, c9, rfl, m9⟩, k9⟩; have M9 := Lib.hid m9; have K9 := Lib.hid k9; clear m9 k9)
        | (refine ⟨trivial, ?_⟩; gi_at_call 15; refine (callsIn_wide.2 (same_yes A8 ML c8 A9 c9 ms w9 HML.out.symm (by omega) (N8.out.thru K9.out) M9.out.nums)).mono ?_; rintro e w10 ⟨rfl, k10⟩; have K10 := Lib.hid k10; clear k10))
      rw [← hQQ]
      have H10 : Below V.heap.size V w10 := thru (thru K8.out K9.out) K10.out
      refine ⟨⟨k + 1, D :: Ds, _, _, _, _, _, _, _, _, _, _, _, _, _, _, _, _, _, _, _, _, _, _, _, _, _, _, _, _, _, _, _, by omega, rfl, Lib.hid ⟨H2V.out.trans (H10.mono H2V.out.size), List.nodup_cons.2 ⟨fun h => ?_, hst.out.2.1⟩, fun E hE => ?_⟩⟩, ?_⟩
      · have := (Array.getElem?_eq_some_iff.1 (hst.out.2.2 D h).2).1
        omega
      · rcases List.mem_cons.1 hE with rfl | hE
        · exact ⟨by omega, (H10.block E (Array.getElem?_eq_some_iff.1 HKD.out).1).trans HKD.out⟩
        · exact ⟨(hst.out.2.2 E hE).1, (H10.block E (Array.getElem?_eq_some_iff.1 (H8.out E hE)).1).trans (H8.out E hE)⟩
      · first | (simp [intOf]; omega) | simp [intOf]
    case stop =>
      rintro D c pre V _ hs h _
      exact (h (take_prefix hs)).elim
  · subst k
    generalize hQQ : Exit.then _ _ = QQ
    have hkn : (n : Int) < (n : Int) + 1 := by omega
    gi_upto_region 9 with fail
    obtain ⟨evs, hevs⟩ : ∃ evs, evCtx bs z = evs := ⟨_, rfl⟩
    obtain ⟨L, hL⟩ : ∃ L, evs.length = L := ⟨_, rfl⟩
    obtain ⟨ms, hms⟩ : ∃ ms, memT bs z = ms := ⟨_, rfl⟩
    obtain ⟨ML, hML⟩ : ∃ ML, ms.length = ML := ⟨_, rfl⟩
    have hle := evCtx_len bs z
    rw [hevs, hL] at hle
    have hbl := HN.out
    have hle2 : L ≤ 200 := by omega
    have hml : ML ≤ 100 := by have := memT_len bs z; rw [hms, hML] at this; omega
    have HL := Lib.hid hL
    have HML := Lib.hid hML
    have HR := Lib.hid (show Calls Try.prog 13 #[.slice A n c, .int .i64 z] W _ from refctxs_any A n c bs z W HN.out (by omega) (HX.out.thru (thru K2.out hst.out.1)))
    rw [hevs, hL] at HR
    have HG := Lib.hid (fun V (q : Below w2.heap.size w2 V) => hW.ctx w1 p bs V z HT1.out (thru L2.out q))
    rw [hevs] at HG
    have HM := Lib.hid (fun V (q : Below w2.heap.size w2 V) => (hW.members V p bs z (hT.keep _ _ _ _ HT1.out (thru L2.out q))).mono (R' := fun r w' => ∃ A8 c8, r = .returned (.slice A8 ML c8) ∧ Nums w' w'.heap.size A8 ms ∧ Below V.heap.size V w') (by
      rintro r w' ⟨u, rfl, ⟨A8, c8, rfl, n8, -⟩, k8⟩
      rw [hms] at n8 ⊢
      rw [hML]
      exact ⟨A8, c8, rfl, n8, k8⟩))
    have HRM := Lib.hid (fun V (q : Below w2.heap.size w2 V) => refmem_any A n c bs z V HN.out (by omega) (HX.out.thru (thru K2.out q)) (fun k hk => HF.out.depth hk))
    rw [hms, hML] at HRM
    have hw2 := hst.out.1.size
    clear hevs hL hms hML hbl
    gi_upto_region 10 with (first
      | (refine ⟨trivial, ?_⟩; gi_at_call 13; refine (callsIn_wide.2 HR.out).mono ?_; rintro e w3 ⟨⟨A3, c3, rfl, m3⟩, k3⟩; have M3 := Lib.hid m3; have L3 := Lib.hid k3; clear k3 m3))
    generalize hW7 : World.alloc w3 _ = W7
    have hk7 := ba1 w3 (.cells #[.slice A3 L c3] 26)
    have hb7 := Boxed.new w3 26 (.slice A3 L c3)
    have hm7 := M3.out.alloc (.cells #[.slice A3 L c3] 26)
    have hs7 : (w3.alloc (.cells #[.slice A3 L c3] 26)).heap.size = w3.heap.size + 1 := by simp
    rw [hW7] at hk7 hb7 hm7 hs7
    have hs37 : w3.heap.size < W7.heap.size := by omega
    clear hs7
    have hs3 := L3.out.size
    have L7 := Lib.hid (thru L3.out hk7)
    clear hW7 hk7 L3 HR
    gi_upto_region 11 with fail
    generalize hW8 : World.alloc W7 _ = W8
    have hk8 := ba1 W7 (.cells #[.int .i64 0] 3)
    have hb8 := Boxed.new W7 3 (.int .i64 0)
    have hb78 := hb7.alloc (.cells #[.int .i64 0] 3)
    have hm78 := hm7.alloc (.cells #[.int .i64 0] 3)
    have hs8 : (W7.alloc (.cells #[.int .i64 0] 3)).heap.size = W7.heap.size + 1 := by simp
    rw [hW8] at hk8 hb8 hb78 hm78 hs8
    have hs78 : W7.heap.size < W8.heap.size := by omega
    clear hs8
    have L8 := Lib.hid (thru L7.out hk8)
    have L28 := Lib.hid (hst.out.1.trans (L8.out.mono hw2))
    clear hW8 hk8 L7 hb7 hm7
    gi_wp2_with (first
      | (refine ⟨trivial, ?_⟩; gi_at_call 14; refine (callsIn_wide.2 (HG.out _ L28.out)).mono ?_; rintro e w6 ⟨⟨f, lb, rfl, heg, hseq⟩, k6⟩))
    rw [HL.out] at hseq
    have hs6 := k6.size
    have BN := Lib.hid (hb8.kept (grown_of_below k6) (by simp))
    have BW := Lib.hid (hb78.kept (grown_of_below k6) (by simp))
    have M6 := Lib.hid (hm78.below k6)
    have L6 := Lib.hid (thru L8.out k6)
    have L26 := Lib.hid (hst.out.1.trans (L6.out.mono hw2))
    have hq := Gives.plain (by rw [HL.out]; exact hseq) 5 (by omega)
    rw [HL.out] at hq
    clear hseq k6 hb8 hb78 hm78 L8 L28 HG
    refine wpIn_rangeFunc_ownH hro (by omega) (gf := f) (lb := lb) rfl trivial heg hq
      (fun h k => h.trans k) (fun W l o o' h1 h2 h3 h4 => Stay.put (N := w6.heap.size) (by omega) (Nat.le_refl _) W l o o' h1 h2 h3 h4) (Below.refl _ _) (fun _ => rfl)
      (fun pre V => (Boxed V W7.heap.size 3 (.int .i64 (pre.length : Int)) ∧ pre = evs.take pre.length) ∧ Below W7.heap.size w6 V)
      (fun _ pre _ => pre = evs.take pre.length → False)
      (OwnFrom.and (OwnFrom.and (Own.from (boxed_own _ _ _) _) (pure_own _)) (ownFrom_below (by omega) (by omega)))
      (fun _ => pure_own _)
      ⟨⟨BN.out, rfl⟩, Below.refl _ _⟩
      (fun x => VarW (fun b5 => { tmps := (Value.slice A n c :: Value.int IntKind.i64 z :: undef :: undef :: Value.pointer (some ⟨w.heap.size, 0, none⟩) :: Value.pointer (some p) :: Value.int IntKind.i64 z :: Value.pointer (some ⟨w3.heap.size, 0, none⟩) :: Value.pointer (some ⟨W7.heap.size, 0, none⟩) :: .pointer (some ⟨b5, 0, none⟩) :: Value.slice A n c :: Value.pointer (some p) :: Value.bool true :: Value.bool false :: Value.bool false :: Value.pointer (some p) :: Value.bool false :: Value.bool false :: undef :: Value.slice A n c :: Value.int IntKind.i64 (n : Int) :: Value.int IntKind.i64 ((n : Int) + 1) :: Value.int IntKind.i64 (n : Int) :: Value.bool true :: Value.int IntKind.i64 (n : Int) :: Value.int IntKind.i64 (n : Int) :: Value.slice A n c :: Value.int IntKind.i64 (n : Int) :: Value.bool true :: Value.int IntKind.i64 z :: Value.slice A n c :: Value.int IntKind.i64 z :: Value.slice A3 L c3 :: Value.pointer (some p) :: Value.int IntKind.i64 z :: Value.func (Fn.func f) #[] lb :: x.v :: undef :: undef :: undef :: undef :: undef :: undef :: undef :: undef :: undef :: undef :: undef :: undef :: undef :: undef :: u51 :: u52 :: u53 :: u54 :: u55 :: u56 :: u57 :: u58 :: u59 :: u60 :: u61 :: u62 :: u63 :: u64 :: u65 :: []).toArray, defers := [] }) x) (fun x a' => varW_own _ x a' _) ?assign ?body ?done ?stop
    case assign =>
      intro l pre x V K hI hK
      obtain ⟨⟨i1, i3⟩, i4⟩ := hI
      have HK := Lib.hid hK
      clear hK
      simp only [encW]
      gi_wp2_with fail
      have hk := ba1 V (.cells #[.int .i64 x.a, .bool x.l] 32)
      have hg := grown_of_below hk
      have hwl := i4.size
      exact HK.out _ _ (below_keeps hk) (Stay.grown hg ⟨by omega, by omega⟩ (fun r e => by cases e)) ⟨⟨i1.kept hg (by simp), i3⟩, i4.trans (hk.mono (by omega))⟩ ⟨V.heap.size, rfl, heap_alloc_new V _⟩
    case body =>
      rintro l pre x a' V hl - ⟨⟨i1, i3⟩, i4⟩ ⟨b5, rfl, h5⟩ hlt
      have HP := Lib.hid i3
      have HV := Lib.hid i4
      have hx0 : V.cell? ⟨b5, 0, none⟩ = some (.int .i64 x.a) := by rw [cell_of_row V b5 0 _ _ _ h5]; rfl
      have hx1 : V.cell? ⟨b5, 1, none⟩ = some (.bool x.l) := by rw [cell_of_row V b5 1 _ _ _ h5]; rfl
      obtain ⟨m, hm⟩ : ∃ m, pre.length = m := ⟨_, rfl⟩
      have HMm := Lib.hid hm
      rw [hm] at i1 hlt
      have nc := i1.cell
      have HBN := Lib.hid i1
      have hvl := i4.size
      have wc : V.cell? ⟨w3.heap.size, 0, none⟩ = some (.slice A3 L c3) := (i4.cell (p := ⟨w3.heap.size, 0, none⟩) (by simp; omega)).trans BW.out.cell
      have hmL : m < L := hlt
      obtain ⟨y, hy⟩ : ∃ y, evs[m]? = some y := ⟨_, List.getElem?_eq_getElem (by rw [HL.out]; exact hmL)⟩
      obtain ⟨g, rfl, hg1, hgl, -, -⟩ := M3.out.form (by omega)
      have hg7 : g < W7.heap.size := by omega
      have e0 : V.cell? ⟨g, m * 2, none⟩ = some (.int .i64 y.a) := by
        have := M6.out.at m y hy 0 (by decide)
        exact (i4.cell (p := ⟨g, m * 2, none⟩) hg7).trans this
      have e1 : V.cell? ⟨g, m * 2 + 1, none⟩ = some (.bool y.l) := by
        have := M6.out.at m y hy 1 (by decide)
        exact (i4.cell (p := ⟨g, m * 2 + 1, none⟩) hg7).trans this
      have HY := Lib.hid hy
      have hmi : (m : Int) < (L : Int) := by omega
      have hmi' : ¬ (L : Int) ≤ (m : Int) := by omega
      have hm0 : ¬ (m : Int) < 0 := by omega
      have hwm : IntKind.i64.wrap ((m : Int) + 1) = (m : Int) + 1 := IntWalk.i64_in _ (by omega)
      obtain ⟨sm, hsm⟩ : ∃ sm, sameEv x y = sm := ⟨_, rfl⟩
      have E := eqEvR x y
      rw [hsm] at E
      have HSM := Lib.hid hsm
      clear i1 i3 i4 h5 hlt hm hy hsm
      dsimp only
      cases sm
      · gi_upto_region 13 with fail
        refine wpIn_region_told [.val (.int .i64 (m : Int)), .val (.slice (some ⟨g, 0, none⟩) L c3), .val (.int .i64 (L : Int)), .val (.bool false), .val (.bool false), .val x.v, .val (.slice (some ⟨g, 0, none⟩) L c3), .val (.int .i64 (m : Int)), .val (.pointer (some ⟨g, m * 2, none⟩)), .val y.v, .val (.bool true)] (by kernel_rfl) (by kernel_rfl) (by kernel_rfl) ?_ ?_
        · simp only [Told.fill, Told.Leave.value]
          refine ⟨?_, ?_, ?_, ?_, ?_, ?_, ?_, ?_, ?_, ?_, ?_, trivial⟩
          · intro gg w' hw hk
            have q0 := (hw.cell (p := ⟨W7.heap.size, 0, none⟩) (block_lt_of_cell nc)).trans nc
            go_simp
            exact ⟨rfl, rfl⟩
          · intro gg w' hw hk
            have q0 := (hw.cell (p := ⟨w3.heap.size, 0, none⟩) (block_lt_of_cell wc)).trans wc
            go_simp
            exact ⟨rfl, rfl⟩
          · intro gg w' hw hk
            go_simp
            exact ⟨rfl, rfl⟩
          · intro gg w' hw hk
            go_simp
            exact ⟨rfl, rfl⟩
          · intro gg w' hw hk
            go_simp
            exact ⟨rfl, rfl⟩
          · intro gg w' hw hk
            have q0 := (hw.cell (p := ⟨b5, 0, none⟩) (block_lt_of_cell hx0)).trans hx0
            have q1 := (hw.cell (p := ⟨b5, 1, none⟩) (block_lt_of_cell hx1)).trans hx1
            go_simp
            exact ⟨rfl, rfl⟩
          · intro gg w' hw hk
            have q0 := (hw.cell (p := ⟨w3.heap.size, 0, none⟩) (block_lt_of_cell wc)).trans wc
            go_simp
            exact ⟨rfl, rfl⟩
          · intro gg w' hw hk
            have q0 := (hw.cell (p := ⟨W7.heap.size, 0, none⟩) (block_lt_of_cell nc)).trans nc
            go_simp
            exact ⟨rfl, rfl⟩
          · intro gg w' hw hk
            go_simp
            exact ⟨rfl, rfl⟩
          · intro gg w' hw hk
            have q0 := (hw.cell (p := ⟨g, m * 2, none⟩) (block_lt_of_cell e0)).trans e0
            have q1 := (hw.cell (p := ⟨g, m * 2 + 1, none⟩) (block_lt_of_cell e1)).trans e1
            go_simp
            exact ⟨rfl, rfl⟩
          · intro gg w' hw hk
            have E1 := E w'
            go_simp
            exact ⟨rfl, rfl⟩
        · intro gg W2 qq hbox hap
          clear hbox hap
          simp only [Told.fill, Told.Leave.value, List.length_cons, List.length_nil, Nat.reduceAdd, Nat.reduceSub]
          refine wpAnyIn_ready (rs := [11]) (by kernel_rfl) (by simp) ?_
          refine AllReadyIn.cons rfl (fun K hK => ?_) AllReadyIn.nil
          go_simp
          refine hK _ _ ?_
          clear hK K
          refine wpAnyIn_done (by kernel_rfl) ?_ _
          have r2 : Boxed W2 w.heap.size 4 (.bool false) := ((((L26.out.trans (HV.out.mono (by omega))).trans (qq.mono (by omega)) : Below w2.heap.size w2 W2)).block _ BR2.out.lt).trans BR2.out
          have rc := r2.cell
          have rf := r2.frozen
          gi_wp2_with fail
          refine ⟨(below_keeps qq).trans ((KeepsOthers.setCell _ _ _).from _), fun h => ?_⟩
          have h7 := (sameEv_iff x y).2 (take_last h HMm.out HY.out)
          rw [HSM.out] at h7
          cases h7
      · gi_upto_region 13 with fail
        refine wpIn_region_told [.val (.int .i64 (m : Int)), .val (.slice (some ⟨g, 0, none⟩) L c3), .val (.int .i64 (L : Int)), .val (.bool false), .val (.bool false), .val x.v, .val (.slice (some ⟨g, 0, none⟩) L c3), .val (.int .i64 (m : Int)), .val (.pointer (some ⟨g, m * 2, none⟩)), .val y.v, .val (.bool false)] (by kernel_rfl) (by kernel_rfl) (by kernel_rfl) ?_ ?_
        · simp only [Told.fill, Told.Leave.value]
          refine ⟨?_, ?_, ?_, ?_, ?_, ?_, ?_, ?_, ?_, ?_, ?_, trivial⟩
          · intro gg w' hw hk
            have q0 := (hw.cell (p := ⟨W7.heap.size, 0, none⟩) (block_lt_of_cell nc)).trans nc
            go_simp
            exact ⟨rfl, rfl⟩
          · intro gg w' hw hk
            have q0 := (hw.cell (p := ⟨w3.heap.size, 0, none⟩) (block_lt_of_cell wc)).trans wc
            go_simp
            exact ⟨rfl, rfl⟩
          · intro gg w' hw hk
            go_simp
            exact ⟨rfl, rfl⟩
          · intro gg w' hw hk
            go_simp
            exact ⟨rfl, rfl⟩
          · intro gg w' hw hk
            go_simp
            exact ⟨rfl, rfl⟩
          · intro gg w' hw hk
            have q0 := (hw.cell (p := ⟨b5, 0, none⟩) (block_lt_of_cell hx0)).trans hx0
            have q1 := (hw.cell (p := ⟨b5, 1, none⟩) (block_lt_of_cell hx1)).trans hx1
            go_simp
            exact ⟨rfl, rfl⟩
          · intro gg w' hw hk
            have q0 := (hw.cell (p := ⟨w3.heap.size, 0, none⟩) (block_lt_of_cell wc)).trans wc
            go_simp
            exact ⟨rfl, rfl⟩
          · intro gg w' hw hk
            have q0 := (hw.cell (p := ⟨W7.heap.size, 0, none⟩) (block_lt_of_cell nc)).trans nc
            go_simp
            exact ⟨rfl, rfl⟩
          · intro gg w' hw hk
            go_simp
            exact ⟨rfl, rfl⟩
          · intro gg w' hw hk
            have q0 := (hw.cell (p := ⟨g, m * 2, none⟩) (block_lt_of_cell e0)).trans e0
            have q1 := (hw.cell (p := ⟨g, m * 2 + 1, none⟩) (block_lt_of_cell e1)).trans e1
            go_simp
            exact ⟨rfl, rfl⟩
          · intro gg w' hw hk
            have E1 := E w'
            go_simp
            exact ⟨rfl, rfl⟩
        · intro gg W2 qq hbox hap
          clear hbox hap
          simp only [Told.fill, Told.Leave.value, List.length_cons, List.length_nil, Nat.reduceAdd, Nat.reduceSub]
          refine wpAnyIn_ready (rs := [11]) (by kernel_rfl) (by simp) ?_
          refine AllReadyIn.cons rfl (fun K hK => ?_) AllReadyIn.nil
          go_simp
          refine hK _ _ ?_
          clear hK K
          refine wpAnyIn_done (by kernel_rfl) ?_ _
          have n2 := HBN.out.kept (grown_of_below qq) (by simp)
          have nc2 := n2.cell
          have nf2 := n2.frozen
          gi_wp2_with fail
          have hxy : x = y := (sameEv_iff _ _).1 HSM.out
          have hl2 : (pre ++ [x]).length = m + 1 := by rw [List.length_append, HMm.out]; rfl
          have hq2 := qq.size
          refine ⟨(below_keeps qq).trans ((KeepsOthers.setCell _ _ _).from _), (Stay.grown (grown_of_below qq) ⟨by omega, by omega⟩ (fun r e => by cases e)).trans (Stay.grown (grownBy_setCell' W2 W7.heap.size _) ⟨by omega, by omega⟩ (fun r e => by injection e with e; subst e; omega)), ⟨?_, ?_⟩, (HV.out.trans (qq.mono (by omega))).setCell (p := ⟨W7.heap.size, 0, none⟩) (Nat.le_refl _) _⟩
          · rw [hl2]; exact n2.set (.int .i64 (m + 1 : Int))
          · rw [hxy]
            exact take_step HP.out (by rw [HMm.out]; exact HY.out)
    case done =>
      rintro D ys V hD rfl ⟨⟨i1, i3⟩, i4⟩ hK
      have nc := i1.cell
      rw [HL.out] at nc
      have hvl := i4.size
      have wc : V.cell? ⟨w3.heap.size, 0, none⟩ = some (.slice A3 L c3) := (i4.cell (p := ⟨w3.heap.size, 0, none⟩) (by simp; omega)).trans BW.out.cell
      have h26 : Below w2.heap.size w2 V := L26.out.trans (i4.mono (by omega))
      have H2V := Lib.hid h26
      have H8 := Lib.hid (fun D hD => ((i4.block D (by have := (Array.getElem?_eq_some_iff.1 (hst.out.2.2 D hD).2).1; omega)).trans ((L6.out.block D (Array.getElem?_eq_some_iff.1 (hst.out.2.2 D hD).2).1).trans (hst.out.2.2 D hD).2)))
      have hwk : IntKind.i64.wrap ((n : Int) + 1) = ((n + 1 : Nat) : Int) := by rw [IntWalk.i64_in _ (by omega)]; omega
      have HKD := Lib.hid hK
      clear i1 i3 i4 h26 hK
      gi_wp2_with (first
        | (refine ⟨trivial, ?_⟩; gi_at_call 16; refine (callsIn_wide.2 (HM.out _ H2V.out)).mono ?_; rintro e w8 ⟨A8, c8, rfl, n8, k8⟩; have N8 := Lib.hid n8; have K8 := Lib.hid k8; have H28 := Lib.hid (thru H2V.out k8); clear n8 k8)
        | (refine ⟨trivial, ?_⟩; gi_at_call 17; refine (callsIn_wide.2 (HRM.out _ H28.out)).mono ?_; rintro e w9 ⟨⟨A9, c9, rfl, m9⟩, k9⟩; have M9 := Lib.hid m9; have K9 := Lib.hid k9; clear m9 k9)
        | (refine ⟨trivial, ?_⟩; gi_at_call 15; refine (callsIn_wide.2 (same_yes A8 ML c8 A9 c9 ms w9 HML.out.symm (by omega) (N8.out.thru K9.out) M9.out.nums)).mono ?_; rintro e w10 ⟨rfl, k10⟩; have K10 := Lib.hid k10; clear k10))
      rw [← hQQ]
      have H10 : Below V.heap.size V w10 := thru (thru K8.out K9.out) K10.out
      refine ⟨⟨n + 1, D :: Ds, _, _, _, _, _, _, _, _, _, _, _, _, _, _, _, _, _, _, _, _, _, _, _, _, _, _, _, _, _, _, _, by omega, rfl, Lib.hid ⟨H2V.out.trans (H10.mono H2V.out.size), List.nodup_cons.2 ⟨fun h => ?_, hst.out.2.1⟩, fun E hE => ?_⟩⟩, ?_⟩
      · have := (Array.getElem?_eq_some_iff.1 (hst.out.2.2 D h).2).1
        omega
      · rcases List.mem_cons.1 hE with rfl | hE
        · exact ⟨by omega, (H10.block E (Array.getElem?_eq_some_iff.1 HKD.out).1).trans HKD.out⟩
        · exact ⟨(hst.out.2.2 E hE).1, (H10.block E (Array.getElem?_eq_some_iff.1 (H8.out E hE)).1).trans (H8.out E hE)⟩
      · first | (simp [intOf]; omega) | simp [intOf]
    case stop =>
      rintro D c pre V _ hs h _
      exact (h (take_prefix hs)).elim
  · obtain rfl : k = n + 1 := by omega
    have br : Boxed W w.heap.size 4 (.bool false) := (hst.out.1.block _ BR2.out.lt).trans BR2.out
    have rc := br.cell
    have rf := br.frozen
    have hkn : ¬ ((n + 1 : Nat) : Int) < (n : Int) + 1 := by omega
    have hne : ∀ D ∈ Ds, D ≠ w.heap.size := fun D hD => by have := (hst.out.2.2 D hD).1; omega
    have BR3 := Lib.hid (br.set (.bool true))
    have HNE := Lib.hid hne
    clear br hne
    gi_wp2_with fail
    refine leaves_marks Ds _ hst.out.2.1 (fun D hD => by rw [heap_setCell_other _ _ _ _ (HNE.out D hD)]; exact (hst.out.2.2 D hD).2) (fun W' hS => ?_)
    have i6 : Boxed W' w.heap.size 4 (.bool true) := (hS.same _ (fun h => HNE.out _ h rfl)).trans BR3.out
    have c6 := i6.cell
    have a4 := Try.isAgg4
    have hk6 : Below w.heap.size w W' := (K2.out.trans ((hst.out.1.mono (Nat.le_of_lt (Nat.lt_of_lt_of_le hs1 hs12)) : Below w.heap.size w2 W).setCell (p := ⟨w.heap.size, 0, none⟩) (Nat.le_refl _) _)).trans (hS.below (fun D hD => by have := (hst.out.2.2 D hD).1; omega))
    exact ⟨.bool true, by simp [results, Try.results4, go_sem, c6], rfl, hk6⟩

theorem contexts_any (hT : TreeOk T) (hW : WalkOk T) (A : Option Addr) (n c : Nat) (bs : List Bx) (z : Int) (w : World) (hn : n = bs.length) (hm : n ≤ 9223372036854775807) (hx : Boxes w w.heap.size A bs) (hb : ∀ b ∈ bs, OkB b) :
    Calls Try.prog 4 #[.slice A n c, .int .i64 z] w fun e w' => e = .returned (.bool true) ∧ Below w.heap.size w w' := by
  refine (callsIn_wide (n := 6)).1 ?_
  rcases begun_or hT A n c bs w hn hm hx hb with ⟨h, -, hf, hb⟩ | h
  · exact contexts_yes hT hW A n c z bs w hf hn h hx hb
  · exact contexts_no hT hW A n c z w h
end

end Go.Proofs.Ytflncnfagoekcaa.Walk
