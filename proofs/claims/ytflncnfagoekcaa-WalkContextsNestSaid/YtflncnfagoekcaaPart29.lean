/- The law of a context's walk within the whole one. -/
import Derived.Test.YtflncnfagoekcaaPart14
import Derived.Test.YtflncnfagoekcaaPart17
import Derived.Test.YtflncnfagoekcaaPart27
import Derived.Test.YtflncnfagoekcaaPart19
import Derived.Test.YtflncnfagoekcaaPart13
import Derived.Test.YtflncnfagoekcaaPart28
namespace Go.Proofs.Ytflncnfagoekcaa.Walk
open Go.RowKit Go.Shelf Go.Sort Go.Proofs.Ytflncnfagoekcaa.Record Go.Proofs.Ytflncnfagoekcaa.Script Go.Proofs.Ytflncnfagoekcaa.Tree Go.Proofs.Ytflncnfagoekcaa.More

attribute [local go_sem] Oper.semAt_some

/-- A slice of so many. -/
def SliceM (L : Nat) (_ : World) (u : Value) : Prop := ∃ A c, u = .slice A L c

theorem keeps_sliceM (L : Nat) : Hold.Keeps (SliceM L) := fun _ _ _ _ h => h

theorem opensT_pos {bs : List Bx} {n : Nat} (hn : n = bs.length) (h0 : 0 < n) (hf : Fine bs n) : 0 < (opensT bs).length := by
  have ho : oOf bs 0 = true := by
    have h := Fine.root hf h0
    unfold rootB at h
    simp only [Bool.and_eq_true, beq_iff_eq] at h
    unfold oOf openB
    rw [h.1.1.1.2]
    decide
  unfold opensT
  rw [List.length_reverse, List.length_map]
  exact List.length_pos_of_mem (a := 0) (by rw [List.mem_filter]; exact ⟨by simp; omega, ho⟩)

theorem opensT_at {bs : List Bx} {k : Nat} {x : Int} (h : (opensT bs)[k]? = some x) : ∃ c : Nat, x = (c : Int) ∧ c < bs.length ∧ oOf bs c = true := by
  have hm := List.mem_of_getElem? h
  unfold opensT at hm
  rw [List.mem_reverse, List.mem_map] at hm
  obtain ⟨c, hc, rfl⟩ := hm
  rw [List.mem_filter, List.mem_range] at hc
  exact ⟨c, rfl, hc.1, hc.2⟩

theorem evAll_len (bs : List Bx) : (evAll bs).length ≤ 2 * bs.length := by
  have := wlk_len (dOf bs) (oOf bs) bs.length true (bs.length + 1) 0 bs.length (by omega) (nested_all _ _ _)
  unfold evAll
  omega

/-- Whether an event is a context's, in the words of the program's answers. -/
theorem inC_is {bs : List Bx} {n cc : Nat} (hn : n = bs.length) (hc : cc < bs.length) (x : Ev) : inC (dOf bs) (oOf bs) n cc x = (decide ((cc : Int) < x.a) && decide (x.a < (en (dOf bs) n cc : Int)) && decide (ctxT bs x.a = (cc : Int))) := by
  unfold inC
  by_cases h1 : (cc : Int) < x.a
  · by_cases h2 : x.a < (en (dOf bs) n cc : Int)
    · have h3 := (en_spec (dOf bs) n cc (by omega)).2.1
      have hh : hasT bs x.a := ⟨by omega, by omega⟩
      unfold ctxT
      rw [if_pos hh]
      simp [h1, h2]
      constructor <;> intro h <;> omega
    · simp [h2]
  · simp [h1]

section
variable {T : World → Addr → List Bx → Prop}

set_option maxRecDepth 100000 in
set_option maxHeartbeats 8000000 in
theorem nest_yes (hT : TreeOk T) (hW : WalkOk T) (A : Option Addr) (n c : Nat) (z : Int) (hz : 0 ≤ z ∧ z ≤ 255) (bs : List Bx) (w : World) (hs : Shape (dOf bs) bs.length) (hf : Fine bs n) (hn : n = bs.length) (hlen : n ≤ 100) (hb : Begun T A n c bs w) :
    CallsIn Fence.wide 6 Try.prog 7 #[.slice A n c, .int .u8 z] w fun e w' => e = .returned (.bool true) ∧ Below w.heap.size w w' := by
  have hro : Fence.wide.round = none := rfl
  have HB := Lib.hid hb
  have HS := Lib.hid hs
  obtain ⟨os, hos⟩ : ∃ os, opensT bs = os := ⟨_, rfl⟩
  obtain ⟨O, hO⟩ : ∃ O, os.length = O := ⟨_, rfl⟩
  have hOp := opensT_pos hn (by have := hs.pos; omega) hf
  have hOle : O ≤ 100 := by
    rw [← hO, ← hos]
    unfold opensT
    rw [List.length_reverse, List.length_map]
    refine Nat.le_trans (List.length_filter_le _ _) ?_
    rw [List.length_range]; omega
  rw [hos, hO] at hOp
  obtain ⟨q, hq⟩ : ∃ q : Nat, z.tmod (O : Int) = (q : Int) := ⟨(z.tmod (O : Int)).toNat, by rw [Int.toNat_of_nonneg (Int.tmod_nonneg _ hz.1)]⟩
  have hqO : q < O := by have := Int.tmod_lt_of_pos z (show (0 : Int) < (O : Int) by omega); omega
  obtain ⟨x0, hx0⟩ : ∃ x0, os[q]? = some x0 := ⟨_, List.getElem?_eq_getElem (by omega)⟩
  obtain ⟨cc, rfl, hcn, hco⟩ := opensT_at (bs := bs) (k := q) (x := x0) (by rw [hos]; exact hx0)
  have HX0 := Lib.hid hx0
  have HO := Lib.hid hO
  have HOS := Lib.hid hos
  have HCN := Lib.hid hcn
  have HCO := Lib.hid hco
  have HF := Lib.hid hf
  have HN := Lib.hid hn
  clear hb hs hn hf hos hO hx0 hcn hco
  refine callsIn_of_wp_marks Try.func7 rfl trivial ?_ hro
  simp only [Try.ntmps7, List.size_toArray, List.length_nil, List.length_cons, Nat.reduceAdd, Nat.reduceSub, Array.replicate_succ, Array.replicate_zero, List.push_toArray, List.append_toArray, List.nil_append, List.cons_append]
  gi_upto_region 1 with fail
  generalize hWa : World.alloc w _ = Wa
  have hka : Below w.heap.size w Wa := by rw [← hWa]; exact ba1 _ _
  have hbr : Boxed Wa w.heap.size 4 (.bool false) := by rw [← hWa]; exact Boxed.new _ _ _
  clear hWa
  have KA := Lib.hid hka
  have BR := Lib.hid hbr
  clear hka hbr
  gi_upto_region 2 with (first
    | (refine ⟨trivial, ?_⟩; gi_at_call 9; refine (callsIn_wide.2 (HB.out _ KA.out)).mono ?_; rintro e w1 ⟨⟨p, rfl, ht⟩, k1⟩; have HT1 := Lib.hid ht; have K1 := Lib.hid (thru KA.out k1); have BR1 := Lib.hid (BR.out.kept (grown_of_below k1) (by simp)); clear k1 ht))
  generalize hWc : World.alloc w1 _ = Wc
  have hkc := ba1 w1 (.cells #[.pointer (some p)] 23)
  have hbc := Boxed.new w1 23 (.pointer (some p))
  have hbb := BR1.out.alloc (.cells #[.pointer (some p)] 23)
  have hsc : (w1.alloc (.cells #[.pointer (some p)] 23)).heap.size = w1.heap.size + 1 := by simp
  rw [hWc] at hkc hbc hbb hsc
  have hsc1 : w1.heap.size < Wc.heap.size := by omega
  have L1 := Lib.hid hkc
  have BC := Lib.hid hbc
  have BB := Lib.hid hbb
  have hs1 := BR1.out.lt
  clear hWc hkc hbc hbb hsc BR1 KA BR
  gi_upto_region 4 with (first
    | (refine ⟨trivial, ?_⟩; gi_at_call 10; refine (callsIn_wide.2 (callsIn_wide.1 (wspeaks hT hW _))).mono ?_; rintro e w2 ⟨rfl, k2⟩; have L2 := Lib.hid (thru L1.out k2); have BC2 := Lib.hid (BC.out.kept (grown_of_below k2) (by simp)); have BB2 := Lib.hid (BB.out.kept (grown_of_below k2) (by simp)); have hcc := BC2.out.cell; have hs2 := k2.size; clear k2))
  have HOpn := Lib.hid (show Calls Try.prog 19 #[.pointer (some p)] w2 fun r w' => ∃ A3 c3, r = .returned (.slice A3 O c3) ∧ Nums w' w'.heap.size A3 os ∧ Below w2.heap.size w2 w' by
    refine (hT.opensL w2 p bs (hT.keep _ _ _ _ HT1.out L2.out)).mono ?_
    rintro r w' ⟨u, rfl, ⟨A3, c3, rfl, h3⟩, k3⟩
    rw [HOS.out] at h3 ⊢
    rw [HO.out]
    exact ⟨A3, c3, rfl, h3, k3⟩)
  clear BC BB L1
  gi_upto_region 5 with (first
    | (refine ⟨trivial, ?_⟩; gi_at_call 19; refine (callsIn_wide.2 HOpn.out).mono ?_; rintro e w3 ⟨A3, c3, rfl, n3, k3⟩; have N3 := Lib.hid n3; have L3 := Lib.hid (thru L2.out k3); have BC3 := Lib.hid (BC2.out.kept (grown_of_below k3) (by simp)); have BB3 := Lib.hid (BB2.out.kept (grown_of_below k3) (by simp)); have hs3 := k3.size; clear k3 n3))
  obtain ⟨ad, rfl, -, hcq⟩ := N3.out q (by rw [HO.out]; exact hqO)
  rw [show os.getD q 0 = (cc : Int) by simp [List.getD, HX0.out]] at hcq
  have hO0 : ((O : Int) == 0) = false := by rw [beq_eq_false_iff_ne]; omega
  have hO1 : ¬ (O : Int) = 0 := by omega
  have hqi : (q : Int) < (O : Int) := by omega
  have hq0 : ¬ (q : Int) < 0 := by omega
  have hcz : IntKind.i64.wrap z = z := IntWalk.i64_in _ (by omega)
  clear HOpn N3 BC2 BB2 hcc L2
  -- GEN
  gi_upto_region 8 with fail
  generalize hW4 : World.alloc w3 _ = W4
  have hk4 := ba1 w3 (.cells #[.int .i64 (cc : Int)] 3)
  have hb4 := Boxed.new w3 3 (.int .i64 (cc : Int))
  have hbt4 := BC3.out.alloc (.cells #[.int .i64 (cc : Int)] 3)
  have hbr4 := BB3.out.alloc (.cells #[.int .i64 (cc : Int)] 3)
  have hs4 : (w3.alloc (.cells #[.int .i64 (cc : Int)] 3)).heap.size = w3.heap.size + 1 := by simp
  rw [hW4] at hk4 hb4 hbt4 hbr4 hs4
  have hs34 : w3.heap.size < W4.heap.size := by omega
  have L4 := Lib.hid (thru L3.out hk4)
  clear hW4 hs4 hk4 BC3 BB3 L3
  gi_upto_region 9 with fail
  generalize hW5 : World.alloc W4 _ = W5
  have hk5 := ba1 W4 (.cells #[.slice none 0 0] 45)
  have hb5 := Boxed.new W4 45 (.slice none 0 0)
  have hbt5 := hbt4.alloc (.cells #[.slice none 0 0] 45)
  have hbr5 := hbr4.alloc (.cells #[.slice none 0 0] 45)
  have hbc5 := hb4.alloc (.cells #[.slice none 0 0] 45)
  have hs5 : (W4.alloc (.cells #[.slice none 0 0] 45)).heap.size = W4.heap.size + 1 := by simp
  rw [hW5] at hk5 hb5 hbt5 hbr5 hbc5 hs5
  have hs45 : W4.heap.size < W5.heap.size := by omega
  have L5 := Lib.hid (thru L4.out hk5)
  have htc5 := hbt5.cell
  clear hW5 hs5 hk5 hb4 hbt4 hbr4 L4
  have HA := Lib.hid (hW.all w1 p bs W5 HT1.out L5.out)
  gi_wp2_with (first
    | (refine ⟨trivial, ?_⟩; gi_at_call 12; refine (callsIn_wide.2 HA.out).mono ?_; rintro e w6 ⟨⟨f, lb, rfl, heg, hseq⟩, k6⟩))
  have hs56 := k6.size
  have hg6 := grown_of_below k6
  have BWt := Lib.hid (hb5.kept hg6 (by simp))
  have BT := Lib.hid (hbt5.kept hg6 (by simp))
  have BRt := Lib.hid (hbr5.kept hg6 (by simp))
  have BCb := Lib.hid (hbc5.kept hg6 (by simp))
  have L6 := Lib.hid (thru L5.out k6)
  obtain ⟨e, he⟩ : ∃ e, en (dOf bs) n cc = e := ⟨_, rfl⟩
  have HE := Lib.hid he
  have hle : (evAll bs).length ≤ 200 := by have := evAll_len bs; have := HN.out; omega
  have HEn := Lib.hid (fun V (k : Below w1.heap.size w1 V) => by have := hT.en V p bs (cc : Int) (hT.keep _ _ _ _ HT1.out k); rw [enT_nat HCN.out, ← HN.out, HE.out] at this; exact this)
  have HCx := Lib.hid (fun V (k : Below w1.heap.size w1 V) (a cx : Int) (hcx : ctxT bs a = cx) => by have := hT.ctx V p bs a (hT.keep _ _ _ _ HT1.out k); rw [hcx] at this; exact this)
  have hq6 := hseq (some W4.heap.size) w6 (Below.refl _ _) (fun x e => by injection e with e; omega) (fun k h => by rw [owns_is BWt.out.cell] at h; cases h) 5 (by omega)
  clear hseq hb5 hbt5 hbr5 hbc5 htc5 HA L5 k6 hg6 he
  refine wpIn_rangeFunc_ownH hro (by omega) (gf := f) (lb := lb) rfl trivial heg hq6
    (fun h k => h.trans k) (fun W l o o' h1 h2 h3 h4 => StayB.put (N := w6.heap.size) (by omega) (Nat.le_refl _) (fun x e => by injection e with e; omega) W l o o' h1 h2 h3 h4) (Below.refl _ _) (fun _ => rfl)
    (fun pre V => (∃ v, Boxed V W4.heap.size 45 v ∧ V.ownsRow w6.heap.size 32 2 v (pre.filter (inC (dOf bs) (oOf bs) n cc)).length ((pre.filter (inC (dOf bs) (oOf bs) n cc)).flatMap encEv.cells) ∧ True) ∧ Below W4.heap.size w6 V)
    (fun _ _ _ => False)
    (OwnFrom.and (Own.from (holdsRow_own w6.heap.size W4.heap.size 45 32 2 (fun pre : List Ev => (pre.filter (inC (dOf bs) (oOf bs) n cc)).length) (fun pre : List Ev => (pre.filter (inC (dOf bs) (oOf bs) n cc)).flatMap encEv.cells) (fun _ _ => True)) _) (ownFrom_below (by omega) (by omega)))
    (fun _ _ _ _ _ hs _ _ => hs)
    ⟨⟨_, BWt.out, World.ownsRow_nil _ _ _ _, trivial⟩, Below.refl _ _⟩
    (fun x => VarW (fun b5 => { tmps := (Value.slice A n c :: Value.int IntKind.u8 z :: undef :: undef :: Value.pointer (some ⟨w.heap.size, 0, none⟩) :: Value.pointer (some ⟨w1.heap.size, 0, none⟩) :: Value.slice (some ad) O c3 :: Value.pointer (some ⟨w3.heap.size, 0, none⟩) :: Value.pointer (some ⟨W4.heap.size, 0, none⟩) :: .pointer (some ⟨b5, 0, none⟩) :: undef :: undef :: Value.slice A n c :: Value.pointer (some p) :: Value.bool true :: Value.bool false :: Value.bool false :: Value.pointer (some p) :: Value.bool false :: Value.bool false :: undef :: Value.pointer (some p) :: Value.slice (some ad) O c3 :: Value.slice (some ad) O c3 :: Value.int IntKind.i64 (O : Int) :: Value.bool false :: Value.slice (some ad) O c3 :: Value.int IntKind.u8 z :: Value.int IntKind.i64 z :: Value.slice (some ad) O c3 :: Value.int IntKind.i64 (O : Int) :: Value.int IntKind.i64 (q : Int) :: Value.pointer (some (ad.add q)) :: Value.int IntKind.i64 (cc : Int) :: Value.pointer (some p) :: Value.func (Fn.func f) #[] lb :: x.v :: undef :: undef :: undef :: undef :: undef :: undef :: undef :: undef :: undef :: undef :: undef :: undef :: undef :: undef :: undef :: undef :: undef :: undef :: undef :: undef :: undef :: undef :: undef :: undef :: undef :: undef :: undef :: undef :: undef :: undef :: undef :: undef :: undef :: undef :: undef :: undef :: undef :: undef :: undef :: undef :: undef :: undef :: undef :: undef :: undef :: undef :: undef :: undef :: undef :: undef :: undef :: undef :: undef :: undef :: undef :: []).toArray, defers := [] }) x) (fun x a' => varW_own _ x a' _) ?assign ?body ?done ?stop
  case assign =>
    intro l pre x V K hI hK
    obtain ⟨⟨v, i1, i2, -⟩, i4⟩ := hI
    have HK := Lib.hid hK
    clear hK
    simp only [encW]
    gi_wp2_with fail
    have hk := ba1 V (.cells #[.int .i64 x.a, .bool x.l] 32)
    have hg := grown_of_below hk
    have hwl := i4.size
    exact HK.out _ _ (below_keeps hk) (StayB.of_below hk (by omega) (by omega) (Nat.le_refl _) (fun y e => by injection e with e; omega)) ⟨⟨v, i1.kept hg (by simp), World.ownsRow.alloc i2 _, trivial⟩, i4.trans (hk.mono (by omega))⟩ ⟨V.heap.size, rfl, heap_alloc_new V _⟩
  case body =>
    rintro l pre x a' V hl - ⟨⟨v, i1, i2, -⟩, i4⟩ ⟨b5, rfl, h5⟩ hlt
    obtain ⟨A6, c6, rfl⟩ := shapeE i2
    have hx0 : V.cell? ⟨b5, 0, none⟩ = some (.int .i64 x.a) := by rw [cell_of_row V b5 0 _ _ _ h5]; rfl
    have hx1 : V.cell? ⟨b5, 1, none⟩ = some (.bool x.l) := by rw [cell_of_row V b5 1 _ _ _ h5]; rfl
    obtain ⟨xs, hxs⟩ : ∃ xs, pre.filter (inC (dOf bs) (oOf bs) n cc) = xs := ⟨_, rfl⟩
    obtain ⟨l6, hl6⟩ : ∃ l6, xs.length = l6 := ⟨_, rfl⟩
    have hxl := List.length_filter_le (inC (dOf bs) (oOf bs) n cc) pre
    rw [hxs, hl6] at i1 i2
    rw [hxs] at hxl
    have hm : Evs V w6.heap.size A6 l6 c6 xs := i2
    have hl61 : l6 + 1 ≤ 1000000 := by omega
    have HXS := Lib.hid hxs
    have HL := Lib.hid hl6
    have HBX := Lib.hid i1
    have HM := Lib.hid hm
    have HV := Lib.hid i4
    have hvl := i4.size
    have V5 := Lib.hid (L6.out.trans (i4.mono (by omega)))
    have ccv : V.cell? ⟨w3.heap.size, 0, none⟩ = some (.int .i64 (cc : Int)) := (i4.cell (p := ⟨w3.heap.size, 0, none⟩) (by simp; omega)).trans BCb.out.cell
    have tcv : V.cell? ⟨w1.heap.size, 0, none⟩ = some (.pointer (some p)) := (i4.cell (p := ⟨w1.heap.size, 0, none⟩) (by simp; omega)).trans BT.out.cell
    obtain ⟨xa, xl⟩ := x
    obtain ⟨cx, hcx⟩ : ∃ cx, ctxT bs xa = cx := ⟨_, rfl⟩
    have HCXv := Lib.hid hcx
    clear i1 i2 i4 hm hxs hl6 h5 hlt hxl
    dsimp only at hx0 hx1 ⊢
    by_cases hv1 : (cc : Int) < xa
    · by_cases hv2 : xa < (e : Int)
      · by_cases hv3 : cx = (cc : Int)
        · clear hcx
          subst hv3
          have hv3 := HCXv.out
          have hbq : ((cc : Int) == (cc : Int)) = true := by simp
          gi_upto_region 11 with fail
          refine wpIn_region_told [.val (.pointer (some ⟨b5, 0, none⟩)), .val (.int .i64 xa), .val (.int .i64 (cc : Int)), .val (.bool true), .val (.bool true), .val (.pointer (some ⟨b5, 0, none⟩)), .val (.int .i64 xa), .val (.pointer (some p)), .val (.int .i64 (cc : Int)), .val (.int .i64 (e : Int)), .val (.bool true), .val (.bool true), .val (.bool true), .val (.pointer (some p)), .val (.pointer (some ⟨b5, 0, none⟩)), .val (.int .i64 xa), .val (.int .i64 (cc : Int)), .val (.int .i64 (cc : Int)), .val (.bool true)] (by kernel_rfl) (by kernel_rfl) (by kernel_rfl) ?_ ?_
          · simp only [Told.fill, Told.Leave.value]
            refine ⟨?_, ?_, ?_, ?_, ?_, ?_, ?_, ?_, ?_, ?_, ?_, ?_, ?_, ?_, ?_, ?_, ?_, ?_, ?_, trivial⟩
            · intro gg w' hw hk
              go_simp
              exact ⟨rfl, rfl⟩
            · intro gg w' hw hk
              have q0 := (hw.cell (p := ⟨b5, 0, none⟩) (block_lt_of_cell hx0)).trans hx0
              go_simp
              exact ⟨rfl, rfl⟩
            · intro gg w' hw hk
              have q0 := (hw.cell (p := ⟨w3.heap.size, 0, none⟩) (block_lt_of_cell ccv)).trans ccv
              go_simp
              exact ⟨rfl, rfl⟩
            · intro gg w' hw hk
              go_simp
              exact ⟨rfl, rfl⟩
            · intro gg w' hw hk
              go_simp
              exact ⟨rfl, rfl⟩
            · intro gg w' hw hk
              go_simp
              exact ⟨rfl, rfl⟩
            · intro gg w' hw hk
              have q0 := (hw.cell (p := ⟨b5, 0, none⟩) (block_lt_of_cell hx0)).trans hx0
              go_simp
              exact ⟨rfl, rfl⟩
            · intro gg w' hw hk
              have q0 := (hw.cell (p := ⟨w1.heap.size, 0, none⟩) (block_lt_of_cell tcv)).trans tcv
              go_simp
              exact ⟨rfl, rfl⟩
            · intro gg w' hw hk
              have q0 := (hw.cell (p := ⟨w3.heap.size, 0, none⟩) (block_lt_of_cell ccv)).trans ccv
              go_simp
              exact ⟨rfl, rfl⟩
            · intro gg w' hw hk
              go_simp
              exact Told.stays_call (HEn.out _ (V5.out.trans (hw.mono V5.out.size)))
            · intro gg w' hw hk
              go_simp
              exact ⟨rfl, rfl⟩
            · intro gg w' hw hk
              go_simp
              exact ⟨rfl, rfl⟩
            · intro gg w' hw hk
              go_simp
              exact ⟨rfl, rfl⟩
            · intro gg w' hw hk
              have q0 := (hw.cell (p := ⟨w1.heap.size, 0, none⟩) (block_lt_of_cell tcv)).trans tcv
              go_simp
              exact ⟨rfl, rfl⟩
            · intro gg w' hw hk
              go_simp
              exact ⟨rfl, rfl⟩
            · intro gg w' hw hk
              have q0 := (hw.cell (p := ⟨b5, 0, none⟩) (block_lt_of_cell hx0)).trans hx0
              go_simp
              exact ⟨rfl, rfl⟩
            · intro gg w' hw hk
              go_simp
              exact Told.stays_call (HCx.out _ (V5.out.trans (hw.mono V5.out.size)) xa (cc : Int) HCXv.out)
            · intro gg w' hw hk
              have q0 := (hw.cell (p := ⟨w3.heap.size, 0, none⟩) (block_lt_of_cell ccv)).trans ccv
              go_simp
              exact ⟨rfl, rfl⟩
            · intro gg w' hw hk
              go_simp
              exact ⟨rfl, rfl⟩
          · intro gg W2 qq hbox hap
            clear hbox hap
            simp only [Told.fill, Told.Leave.value, List.length_cons, List.length_nil, Nat.reduceAdd, Nat.reduceSub]
            refine wpAnyIn_ready (rs := [19]) (by kernel_rfl) (by simp) ?_
            refine AllReadyIn.cons rfl (fun K hK => ?_) AllReadyIn.nil
            go_simp
            refine hK _ _ ?_
            clear hK K
            refine wpAnyIn_done (by kernel_rfl) ?_ _
            have hg := grown_of_below qq
            have hb2 := HBX.out.kept hg (by simp)
            have hm2 : Evs W2 w6.heap.size A6 l6 c6 xs := HM.out.kept hg (fun _ _ e => by cases e)
            have hq2 := qq.size
            have bc := hb2.cell
            have q0 := (qq.cell (p := ⟨b5, 0, none⟩) (block_lt_of_cell hx0)).trans hx0
            have q1 := (qq.cell (p := ⟨b5, 1, none⟩) (block_lt_of_cell hx1)).trans hx1
            have HB2 := Lib.hid hb2
            have HM2 := Lib.hid hm2
            clear hb2 hm2
            gi_wp2_with (first
              | (gi_at_builtin; refine wpListIn_append_ev _ rfl (.tmp 57) (.tmp 59) rfl w6.heap.size A6 l6 c6 xs rfl (HM2.out.alloc _) (some ⟨W2.heap.size, 0, none⟩) 1 1 [⟨xa, xl⟩] rfl (oneE_src encEv W2 ⟨xa, xl⟩ 32) (by omega) (by simp; omega) ?_; intro A1 c1 W1 h1; obtain ⟨y1, y2, y3, y4, y5, y6, y7⟩ := more_ev (s1 := w1.heap.size) (a := W5.heap.size) (b := w6.heap.size) (d := w6.heap.size) HB2.out HM2.out (by omega) (.inl (by omega)) (by omega) (by omega) (Nat.le_refl _) (by omega) h1; have Y1 := Lib.hid y1; have Y3 := Lib.hid y3; have Y4 := Lib.hid y4; have Y5 := Lib.hid y5; have Y6 := Lib.hid y6; have Y7 := Lib.hid y7; have hc1 := y2.cell; have hf1 := y2.frozen; clear h1 y1 y2 y3 y4 y5 y6 y7))
            have hin : inC (dOf bs) (oOf bs) n cc ⟨xa, xl⟩ = true := by rw [inC_is HN.out HCN.out]; simp [HE.out, hv1, hv2, hv3]
            have hfl : (pre ++ [(⟨xa, xl⟩ : Ev)]).filter (inC (dOf bs) (oOf bs) n cc) = xs ++ [⟨xa, xl⟩] := by rw [List.filter_append, HXS.out]; simp [hin]
            refine ⟨(below_keeps qq).trans (Y5.out.from _), (StayB.of_below qq (by omega) (by omega) (Nat.le_refl _) (fun y e => by injection e with e; omega)).trans Y1.out, ⟨_, Y3.out, ?_⟩, (HV.out.trans (qq.mono (by omega))).trans ⟨Y6.out.os, Y6.out.tape, Y6.out.output, Y6.out.size, fun k hk => Y7.out k (by omega) (by omega) (by omega)⟩⟩
            rw [hfl, List.length_append, HL.out]
            first | exact ⟨Y4.out, trivial⟩ | exact Y4.out
        · have hbq : (cx == (cc : Int)) = false := by rw [beq_eq_false_iff_ne]; exact hv3
          gi_upto_region 11 with fail
          refine wpIn_region_told [.val (.pointer (some ⟨b5, 0, none⟩)), .val (.int .i64 xa), .val (.int .i64 (cc : Int)), .val (.bool true), .val (.bool true), .val (.pointer (some ⟨b5, 0, none⟩)), .val (.int .i64 xa), .val (.pointer (some p)), .val (.int .i64 (cc : Int)), .val (.int .i64 (e : Int)), .val (.bool true), .val (.bool true), .val (.bool true), .val (.pointer (some p)), .val (.pointer (some ⟨b5, 0, none⟩)), .val (.int .i64 xa), .val (.int .i64 cx), .val (.int .i64 (cc : Int)), .val (.bool false)] (by kernel_rfl) (by kernel_rfl) (by kernel_rfl) ?_ ?_
          · simp only [Told.fill, Told.Leave.value]
            refine ⟨?_, ?_, ?_, ?_, ?_, ?_, ?_, ?_, ?_, ?_, ?_, ?_, ?_, ?_, ?_, ?_, ?_, ?_, ?_, trivial⟩
            · intro gg w' hw hk
              go_simp
              exact ⟨rfl, rfl⟩
            · intro gg w' hw hk
              have q0 := (hw.cell (p := ⟨b5, 0, none⟩) (block_lt_of_cell hx0)).trans hx0
              go_simp
              exact ⟨rfl, rfl⟩
            · intro gg w' hw hk
              have q0 := (hw.cell (p := ⟨w3.heap.size, 0, none⟩) (block_lt_of_cell ccv)).trans ccv
              go_simp
              exact ⟨rfl, rfl⟩
            · intro gg w' hw hk
              go_simp
              exact ⟨rfl, rfl⟩
            · intro gg w' hw hk
              go_simp
              exact ⟨rfl, rfl⟩
            · intro gg w' hw hk
              go_simp
              exact ⟨rfl, rfl⟩
            · intro gg w' hw hk
              have q0 := (hw.cell (p := ⟨b5, 0, none⟩) (block_lt_of_cell hx0)).trans hx0
              go_simp
              exact ⟨rfl, rfl⟩
            · intro gg w' hw hk
              have q0 := (hw.cell (p := ⟨w1.heap.size, 0, none⟩) (block_lt_of_cell tcv)).trans tcv
              go_simp
              exact ⟨rfl, rfl⟩
            · intro gg w' hw hk
              have q0 := (hw.cell (p := ⟨w3.heap.size, 0, none⟩) (block_lt_of_cell ccv)).trans ccv
              go_simp
              exact ⟨rfl, rfl⟩
            · intro gg w' hw hk
              go_simp
              exact Told.stays_call (HEn.out _ (V5.out.trans (hw.mono V5.out.size)))
            · intro gg w' hw hk
              go_simp
              exact ⟨rfl, rfl⟩
            · intro gg w' hw hk
              go_simp
              exact ⟨rfl, rfl⟩
            · intro gg w' hw hk
              go_simp
              exact ⟨rfl, rfl⟩
            · intro gg w' hw hk
              have q0 := (hw.cell (p := ⟨w1.heap.size, 0, none⟩) (block_lt_of_cell tcv)).trans tcv
              go_simp
              exact ⟨rfl, rfl⟩
            · intro gg w' hw hk
              go_simp
              exact ⟨rfl, rfl⟩
            · intro gg w' hw hk
              have q0 := (hw.cell (p := ⟨b5, 0, none⟩) (block_lt_of_cell hx0)).trans hx0
              go_simp
              exact ⟨rfl, rfl⟩
            · intro gg w' hw hk
              go_simp
              exact Told.stays_call (HCx.out _ (V5.out.trans (hw.mono V5.out.size)) xa cx HCXv.out)
            · intro gg w' hw hk
              have q0 := (hw.cell (p := ⟨w3.heap.size, 0, none⟩) (block_lt_of_cell ccv)).trans ccv
              go_simp
              exact ⟨rfl, rfl⟩
            · intro gg w' hw hk
              go_simp
              exact ⟨rfl, rfl⟩
          · intro gg W2 qq hbox hap
            clear hbox hap
            simp only [Told.fill, Told.Leave.value, List.length_cons, List.length_nil, Nat.reduceAdd, Nat.reduceSub]
            refine wpAnyIn_ready (rs := [19]) (by kernel_rfl) (by simp) ?_
            refine AllReadyIn.cons rfl (fun K hK => ?_) AllReadyIn.nil
            go_simp
            refine hK _ _ ?_
            clear hK K
            refine wpAnyIn_done (by kernel_rfl) ?_ _
            gi_wp2_with fail
            have hin : inC (dOf bs) (oOf bs) n cc ⟨xa, xl⟩ = false := by rw [inC_is HN.out HCN.out, HE.out]; rw [HCXv.out, decide_eq_false hv3, Bool.and_false]
            have hfl : (pre ++ [(⟨xa, xl⟩ : Ev)]).filter (inC (dOf bs) (oOf bs) n cc) = xs := by rw [List.filter_append, HXS.out]; simp [hin]
            have hg := grown_of_below qq
            refine ⟨below_keeps qq, StayB.of_below qq (by omega) (by omega) (Nat.le_refl _) (fun y e => by injection e with e; omega), ⟨_, HBX.out.kept hg (by simp), ?_⟩, HV.out.trans (qq.mono (by omega))⟩
            have ho : Evs W2 w6.heap.size A6 l6 c6 xs := HM.out.kept hg (fun _ _ e => by cases e)
            rw [hfl, HL.out]
            first | exact ⟨ho, trivial⟩ | exact ho
      · gi_upto_region 11 with fail
        refine wpIn_region_told [.val (.pointer (some ⟨b5, 0, none⟩)), .val (.int .i64 xa), .val (.int .i64 (cc : Int)), .val (.bool true), .val (.bool true), .val (.pointer (some ⟨b5, 0, none⟩)), .val (.int .i64 xa), .val (.pointer (some p)), .val (.int .i64 (cc : Int)), .val (.int .i64 (e : Int)), .val (.bool false), .val (.bool false), .val (.bool false), .skip, .skip, .skip, .skip, .skip, .skip] (by kernel_rfl) (by kernel_rfl) (by kernel_rfl) ?_ ?_
        · simp only [Told.fill, Told.Leave.value]
          refine ⟨?_, ?_, ?_, ?_, ?_, ?_, ?_, ?_, ?_, ?_, ?_, ?_, ?_, ?_, ?_, ?_, ?_, ?_, ?_, trivial⟩
          · intro gg w' hw hk
            go_simp
            exact ⟨rfl, rfl⟩
          · intro gg w' hw hk
            have q0 := (hw.cell (p := ⟨b5, 0, none⟩) (block_lt_of_cell hx0)).trans hx0
            go_simp
            exact ⟨rfl, rfl⟩
          · intro gg w' hw hk
            have q0 := (hw.cell (p := ⟨w3.heap.size, 0, none⟩) (block_lt_of_cell ccv)).trans ccv
            go_simp
            exact ⟨rfl, rfl⟩
          · intro gg w' hw hk
            go_simp
            exact ⟨rfl, rfl⟩
          · intro gg w' hw hk
            go_simp
            exact ⟨rfl, rfl⟩
          · intro gg w' hw hk
            go_simp
            exact ⟨rfl, rfl⟩
          · intro gg w' hw hk
            have q0 := (hw.cell (p := ⟨b5, 0, none⟩) (block_lt_of_cell hx0)).trans hx0
            go_simp
            exact ⟨rfl, rfl⟩
          · intro gg w' hw hk
            have q0 := (hw.cell (p := ⟨w1.heap.size, 0, none⟩) (block_lt_of_cell tcv)).trans tcv
            go_simp
            exact ⟨rfl, rfl⟩
          · intro gg w' hw hk
            have q0 := (hw.cell (p := ⟨w3.heap.size, 0, none⟩) (block_lt_of_cell ccv)).trans ccv
            go_simp
            exact ⟨rfl, rfl⟩
          · intro gg w' hw hk
            go_simp
            exact Told.stays_call (HEn.out _ (V5.out.trans (hw.mono V5.out.size)))
          · intro gg w' hw hk
            go_simp
            exact ⟨rfl, rfl⟩
          · intro gg w' hw hk
            go_simp
            exact ⟨rfl, rfl⟩
          · intro gg w' hw hk
            go_simp
            exact ⟨rfl, rfl⟩
          · trivial
          · trivial
          · trivial
          · trivial
          · trivial
          · trivial
        · intro gg W2 qq hbox hap
          clear hbox hap
          simp only [Told.fill, Told.Leave.value, List.length_cons, List.length_nil, Nat.reduceAdd, Nat.reduceSub]
          refine wpAnyIn_ready (rs := [19]) (by kernel_rfl) (by simp) ?_
          refine AllReadyIn.cons rfl (fun K hK => ?_) AllReadyIn.nil
          go_simp
          refine hK _ _ ?_
          clear hK K
          refine wpAnyIn_done (by kernel_rfl) ?_ _
          gi_wp2_with fail
          have hin : inC (dOf bs) (oOf bs) n cc ⟨xa, xl⟩ = false := by rw [inC_is HN.out HCN.out, HE.out]; rw [decide_eq_false (Int.not_lt.2 hv2), Bool.and_false]; rfl
          have hfl : (pre ++ [(⟨xa, xl⟩ : Ev)]).filter (inC (dOf bs) (oOf bs) n cc) = xs := by rw [List.filter_append, HXS.out]; simp [hin]
          have hg := grown_of_below qq
          refine ⟨below_keeps qq, StayB.of_below qq (by omega) (by omega) (Nat.le_refl _) (fun y e => by injection e with e; omega), ⟨_, HBX.out.kept hg (by simp), ?_⟩, HV.out.trans (qq.mono (by omega))⟩
          have ho : Evs W2 w6.heap.size A6 l6 c6 xs := HM.out.kept hg (fun _ _ e => by cases e)
          rw [hfl, HL.out]
          first | exact ⟨ho, trivial⟩ | exact ho
    · gi_upto_region 11 with fail
      refine wpIn_region_told [.val (.pointer (some ⟨b5, 0, none⟩)), .val (.int .i64 xa), .val (.int .i64 (cc : Int)), .val (.bool false), .val (.bool false), .skip, .skip, .skip, .skip, .skip, .skip, .val (.bool false), .val (.bool false), .skip, .skip, .skip, .skip, .skip, .skip] (by kernel_rfl) (by kernel_rfl) (by kernel_rfl) ?_ ?_
      · simp only [Told.fill, Told.Leave.value]
        refine ⟨?_, ?_, ?_, ?_, ?_, ?_, ?_, ?_, ?_, ?_, ?_, ?_, ?_, ?_, ?_, ?_, ?_, ?_, ?_, trivial⟩
        · intro gg w' hw hk
          go_simp
          exact ⟨rfl, rfl⟩
        · intro gg w' hw hk
          have q0 := (hw.cell (p := ⟨b5, 0, none⟩) (block_lt_of_cell hx0)).trans hx0
          go_simp
          exact ⟨rfl, rfl⟩
        · intro gg w' hw hk
          have q0 := (hw.cell (p := ⟨w3.heap.size, 0, none⟩) (block_lt_of_cell ccv)).trans ccv
          go_simp
          exact ⟨rfl, rfl⟩
        · intro gg w' hw hk
          go_simp
          exact ⟨rfl, rfl⟩
        · intro gg w' hw hk
          go_simp
          exact ⟨rfl, rfl⟩
        · trivial
        · trivial
        · trivial
        · trivial
        · trivial
        · trivial
        · intro gg w' hw hk
          go_simp
          exact ⟨rfl, rfl⟩
        · intro gg w' hw hk
          go_simp
          exact ⟨rfl, rfl⟩
        · trivial
        · trivial
        · trivial
        · trivial
        · trivial
        · trivial
      · intro gg W2 qq hbox hap
        clear hbox hap
        simp only [Told.fill, Told.Leave.value, List.length_cons, List.length_nil, Nat.reduceAdd, Nat.reduceSub]
        refine wpAnyIn_ready (rs := [19]) (by kernel_rfl) (by simp) ?_
        refine AllReadyIn.cons rfl (fun K hK => ?_) AllReadyIn.nil
        go_simp
        refine hK _ _ ?_
        clear hK K
        refine wpAnyIn_done (by kernel_rfl) ?_ _
        gi_wp2_with fail
        have hin : inC (dOf bs) (oOf bs) n cc ⟨xa, xl⟩ = false := by rw [inC_is HN.out HCN.out, HE.out]; rw [decide_eq_false (Int.not_lt.2 hv1)]; rfl
        have hfl : (pre ++ [(⟨xa, xl⟩ : Ev)]).filter (inC (dOf bs) (oOf bs) n cc) = xs := by rw [List.filter_append, HXS.out]; simp [hin]
        have hg := grown_of_below qq
        refine ⟨below_keeps qq, StayB.of_below qq (by omega) (by omega) (Nat.le_refl _) (fun y e => by injection e with e; omega), ⟨_, HBX.out.kept hg (by simp), ?_⟩, HV.out.trans (qq.mono (by omega))⟩
        have ho : Evs W2 w6.heap.size A6 l6 c6 xs := HM.out.kept hg (fun _ _ e => by cases e)
        rw [hfl, HL.out]
        first | exact ⟨ho, trivial⟩ | exact ho
  case done =>
    rintro D ys Vd hD rfl ⟨⟨v, i1, i2, -⟩, i4⟩ hK
    obtain ⟨A6, c6, rfl⟩ := shapeE i2
    obtain ⟨xs, hxs⟩ : ∃ xs, (evAll bs).filter (inC (dOf bs) (oOf bs) n cc) = xs := ⟨_, rfl⟩
    obtain ⟨L, hL⟩ : ∃ L, xs.length = L := ⟨_, rfl⟩
    have hxl := List.length_filter_le (inC (dOf bs) (oOf bs) n cc) (evAll bs)
    rw [hxs, hL] at i1 i2
    rw [hxs, hL] at hxl
    have hxc : evCtx bs (cc : Int) = xs := by
      have := evCtx_filter bs HS.out cc HCN.out HCO.out
      rw [← HN.out] at this
      exact this.symm.trans hxs
    obtain ⟨ms, hms⟩ : ∃ ms, memT bs (cc : Int) = ms := ⟨_, rfl⟩
    obtain ⟨ML, hML⟩ : ∃ ML, ms.length = ML := ⟨_, rfl⟩
    have hmm := evCtx_members bs HS.out cc HCN.out HCO.out
    rw [hxc, hL, hms, hML] at hmm
    have hL2 : L ≤ 200 := by omega
    have HMM := Lib.hid hmm
    clear hmm
    have hm : Evs Vd w6.heap.size A6 L c6 xs := i2
    have hvl := i4.size
    have hDV := (Array.getElem?_eq_some_iff.1 hK).1
    have V5 := Lib.hid (L6.out.trans (i4.mono (by omega)))
    have bcv : Boxed Vd w3.heap.size 3 (.int .i64 (cc : Int)) := (i4.block _ (by omega)).trans BCb.out
    have btv : Boxed Vd w1.heap.size 23 (.pointer (some p)) := (i4.block _ (by omega)).trans BT.out
    have brv : Boxed Vd w.heap.size 4 (.bool false) := (i4.block _ (by omega)).trans BRt.out
    have hib := ba1 Vd (.cells #[.int .i64 0] 3)
    have HGV := Lib.hid (fun g (e : A6 = some ⟨g, 0, none⟩) => (hm.lt g (by rw [e]; rfl)).2)
    clear i2 i4 hxs hle hxl
    gi_upto_region 14 with fail
    generalize hW7 : World.alloc Vd _ = W7
    have hb7 := Boxed.new Vd 3 (.int .i64 0)
    have hw7 := i1.alloc (.cells #[.int .i64 0] 3)
    have hc7 := bcv.alloc (.cells #[.int .i64 0] 3)
    have ht7 := btv.alloc (.cells #[.int .i64 0] 3)
    have hr7 := brv.alloc (.cells #[.int .i64 0] 3)
    have hm7 := hm.alloc (.cells #[.int .i64 0] 3)
    have hs7 : (Vd.alloc (.cells #[.int .i64 0] 3)).heap.size = Vd.heap.size + 1 := by simp
    rw [hW7] at hib hb7 hw7 hc7 ht7 hr7 hm7 hs7
    have hs78 : Vd.heap.size < W7.heap.size := by omega
    clear hs7
    have V7 := Lib.hid (V5.out.trans (hib.mono V5.out.size))
    have hK7 := (hib.block D hDV).trans hK
    have htc7 := ht7.cell
    have hcc7 := hc7.cell
    clear hW7 hm i1 bcv btv brv hK
    have HG := Lib.hid (hW.ctx w1 p bs W7 (cc : Int) HT1.out V7.out)
    rw [hxc] at HG
    gi_wp2_with (first
      | (refine ⟨trivial, ?_⟩; gi_at_call 14; refine (callsIn_wide.2 HG.out).mono ?_; rintro e w8 ⟨⟨f9, lb9, rfl, heg9, hseq9⟩, k8⟩))
    rw [hL] at hseq9
    have hs8 := k8.size
    have hg8 := grown_of_below k8
    have BN := Lib.hid (hb7.kept hg8 (by simp))
    have BW8 := Lib.hid (hw7.kept hg8 (by simp))
    have BC8 := Lib.hid (hc7.kept hg8 (by simp))
    have BT8 := Lib.hid (ht7.kept hg8 (by simp))
    have BR8 := Lib.hid (hr7.kept hg8 (by simp))
    have M8 := Lib.hid (show Evs w8 w6.heap.size A6 L c6 xs from hm7.kept hg8 (fun _ _ e => by cases e))
    have V8 := Lib.hid (thru V7.out k8)
    have KD8 := Lib.hid ((k8.block D (by omega)).trans hK7)
    have hq9 := Gives.plain (by rw [hL]; exact hseq9) 5 (by omega)
    rw [hL] at hq9
    have HLx := Lib.hid hL
    have HIB := Lib.hid (hib.trans (k8.mono (by omega)))
    clear hseq9 hb7 hw7 hc7 ht7 hr7 hm7 htc7 hcc7 HG V7 k8 hg8 hK7 hL hib
    refine wpIn_rangeFunc_ownH hro (by omega) (gf := f9) (lb := lb9) rfl trivial heg9 hq9
      (fun h k => h.trans k) (fun W l o o' h1 h2 h3 h4 => Stay.put (N := w8.heap.size) (by omega) (Nat.le_refl _) W l o o' h1 h2 h3 h4) (Below.refl _ _) (fun _ => rfl)
      (fun pre V => (Boxed V Vd.heap.size 3 (.int .i64 (pre.length : Int)) ∧ pre = xs.take pre.length) ∧ Below Vd.heap.size w8 V)
      (fun _ pre _ => pre = xs.take pre.length → False)
      (OwnFrom.and (OwnFrom.and (Own.from (boxed_own _ _ _) _) (pure_own _)) (ownFrom_below (by omega) (by omega)))
      (fun _ => pure_own _)
      ⟨⟨BN.out, rfl⟩, Below.refl _ _⟩
      (fun x => VarW (fun b5 => { tmps := (Value.slice A n c :: Value.int IntKind.u8 z :: undef :: undef :: Value.pointer (some ⟨w.heap.size, 0, none⟩) :: Value.pointer (some ⟨w1.heap.size, 0, none⟩) :: Value.slice (some ad) O c3 :: Value.pointer (some ⟨w3.heap.size, 0, none⟩) :: Value.pointer (some ⟨W4.heap.size, 0, none⟩) :: undef :: Value.pointer (some ⟨Vd.heap.size, 0, none⟩) :: .pointer (some ⟨b5, 0, none⟩) :: Value.slice A n c :: Value.pointer (some p) :: Value.bool true :: Value.bool false :: Value.bool false :: Value.pointer (some p) :: Value.bool false :: Value.bool false :: undef :: Value.pointer (some p) :: Value.slice (some ad) O c3 :: Value.slice (some ad) O c3 :: Value.int IntKind.i64 (O : Int) :: Value.bool false :: Value.slice (some ad) O c3 :: Value.int IntKind.u8 z :: Value.int IntKind.i64 z :: Value.slice (some ad) O c3 :: Value.int IntKind.i64 (O : Int) :: Value.int IntKind.i64 (q : Int) :: Value.pointer (some (ad.add q)) :: Value.int IntKind.i64 (cc : Int) :: Value.pointer (some p) :: Value.func (Fn.func f) #[] lb :: undef :: undef :: undef :: undef :: undef :: undef :: undef :: undef :: undef :: undef :: undef :: undef :: undef :: undef :: undef :: undef :: undef :: undef :: undef :: undef :: undef :: undef :: undef :: undef :: undef :: Value.pointer (some p) :: Value.int IntKind.i64 (cc : Int) :: Value.func (Fn.func f9) #[] lb9 :: x.v :: undef :: undef :: undef :: undef :: undef :: undef :: undef :: undef :: undef :: undef :: undef :: undef :: undef :: undef :: undef :: undef :: undef :: undef :: undef :: undef :: undef :: undef :: undef :: undef :: undef :: undef :: undef :: []).toArray, defers := [] }) x) (fun x a' => varW_own _ x a' _) ?assign2 ?body2 ?done2 ?stop2
    case assign2 =>
      intro l pre x V K hI hK
      obtain ⟨⟨i1, i3⟩, i4⟩ := hI
      have HK := Lib.hid hK
      clear hK
      simp only [encW]
      gi_wp2_with fail
      have hk := ba1 V (.cells #[.int .i64 x.a, .bool x.l] 32)
      have hg := grown_of_below hk
      have hwl := i4.size
      exact HK.out _ _ (below_keeps hk) (Stay.grown hg ⟨by omega, by omega⟩ (fun r e => by cases e)) ⟨⟨i1.kept hg (by simp), i3⟩, i4.trans (hk.mono (by omega))⟩ ⟨V.heap.size, rfl, heap_alloc_new V _⟩
    case body2 =>
      rintro l pre x a' V hl - ⟨⟨i1, i3⟩, i4⟩ ⟨b5, rfl, h5⟩ hlt
      have HP := Lib.hid i3
      have HV := Lib.hid i4
      have hx0 : V.cell? ⟨b5, 0, none⟩ = some (.int .i64 x.a) := by rw [cell_of_row V b5 0 _ _ _ h5]; rfl
      have hx1 : V.cell? ⟨b5, 1, none⟩ = some (.bool x.l) := by rw [cell_of_row V b5 1 _ _ _ h5]; rfl
      obtain ⟨m, hm⟩ : ∃ m, pre.length = m := ⟨_, rfl⟩
      have HMm := Lib.hid hm
      rw [hm] at i1 hlt
      have nc := i1.cell
      have HBN := Lib.hid i1
      have hvl := i4.size
      have wc : V.cell? ⟨W4.heap.size, 0, none⟩ = some (.slice A6 L c6) := (i4.cell (p := ⟨W4.heap.size, 0, none⟩) (by simp; omega)).trans BW8.out.cell
      have hmL : m < L := hlt
      obtain ⟨y, hy⟩ : ∃ y, xs[m]? = some y := ⟨_, List.getElem?_eq_getElem (by rw [HLx.out]; exact hmL)⟩
      obtain ⟨g, rfl, hg1, hgl, -, -⟩ := M8.out.form (by omega)
      have hg7 : g < Vd.heap.size := by have := HGV.out g rfl; omega
      have e0 : V.cell? ⟨g, m * 2, none⟩ = some (.int .i64 y.a) := by
        have := M8.out.at m y hy 0 (by decide)
        exact (i4.cell (p := ⟨g, m * 2, none⟩) hg7).trans this
      have e1 : V.cell? ⟨g, m * 2 + 1, none⟩ = some (.bool y.l) := by
        have := M8.out.at m y hy 1 (by decide)
        exact (i4.cell (p := ⟨g, m * 2 + 1, none⟩) hg7).trans this
      have HY := Lib.hid hy
      have hmi : (m : Int) < (L : Int) := by omega
      have hmi' : ¬ (L : Int) ≤ (m : Int) := by omega
      have hm0 : ¬ (m : Int) < 0 := by omega
      have hwm : IntKind.i64.wrap ((m : Int) + 1) = (m : Int) + 1 := IntWalk.i64_in _ (by omega)
      obtain ⟨sm, hsm⟩ : ∃ sm, sameEv y x = sm := ⟨_, rfl⟩
      have E := eqEvW y x
      rw [hsm] at E
      have HSM := Lib.hid hsm
      clear i1 i3 i4 h5 hlt hm hy hsm
      dsimp only
      cases sm
      · gi_upto_region 16 with fail
        refine wpIn_region_told [.val (.int .i64 (m : Int)), .val (.slice (some ⟨g, 0, none⟩) L c6), .val (.int .i64 (L : Int)), .val (.bool false), .val (.bool false), .val (.slice (some ⟨g, 0, none⟩) L c6), .val (.int .i64 (m : Int)), .val (.pointer (some ⟨g, m * 2, none⟩)), .val y.v, .val x.v, .val (.bool true)] (by kernel_rfl) (by kernel_rfl) (by kernel_rfl) ?_ ?_
        · simp only [Told.fill, Told.Leave.value]
          refine ⟨?_, ?_, ?_, ?_, ?_, ?_, ?_, ?_, ?_, ?_, ?_, trivial⟩
          · intro gg w' hw hk
            have q0 := (hw.cell (p := ⟨Vd.heap.size, 0, none⟩) (block_lt_of_cell nc)).trans nc
            go_simp
            exact ⟨rfl, rfl⟩
          · intro gg w' hw hk
            have q0 := (hw.cell (p := ⟨W4.heap.size, 0, none⟩) (block_lt_of_cell wc)).trans wc
            go_simp
            exact ⟨rfl, rfl⟩
          · intro gg w' hw hk
            go_simp
            exact ⟨rfl, rfl⟩
          · intro gg w' hw hk
            go_simp
            exact ⟨rfl, rfl⟩
          · intro gg w' hw hk
            go_simp
            exact ⟨rfl, rfl⟩
          · intro gg w' hw hk
            have q0 := (hw.cell (p := ⟨W4.heap.size, 0, none⟩) (block_lt_of_cell wc)).trans wc
            go_simp
            exact ⟨rfl, rfl⟩
          · intro gg w' hw hk
            have q0 := (hw.cell (p := ⟨Vd.heap.size, 0, none⟩) (block_lt_of_cell nc)).trans nc
            go_simp
            exact ⟨rfl, rfl⟩
          · intro gg w' hw hk
            go_simp
            exact ⟨rfl, rfl⟩
          · intro gg w' hw hk
            have q0 := (hw.cell (p := ⟨g, m * 2, none⟩) (block_lt_of_cell e0)).trans e0
            have q1 := (hw.cell (p := ⟨g, m * 2 + 1, none⟩) (block_lt_of_cell e1)).trans e1
            go_simp
            exact ⟨rfl, rfl⟩
          · intro gg w' hw hk
            have q0 := (hw.cell (p := ⟨b5, 0, none⟩) (block_lt_of_cell hx0)).trans hx0
            have q1 := (hw.cell (p := ⟨b5, 1, none⟩) (block_lt_of_cell hx1)).trans hx1
            go_simp
            exact ⟨rfl, rfl⟩
          · intro gg w' hw hk
            have E1 := E w'
            go_simp
            exact ⟨rfl, rfl⟩
        · intro gg W2 qq hbox hap
          clear hbox hap
          simp only [Told.fill, Told.Leave.value, List.length_cons, List.length_nil, Nat.reduceAdd, Nat.reduceSub]
          refine wpAnyIn_ready (rs := [11]) (by kernel_rfl) (by simp) ?_
          refine AllReadyIn.cons rfl (fun K hK => ?_) AllReadyIn.nil
          go_simp
          refine hK _ _ ?_
          clear hK K
          refine wpAnyIn_done (by kernel_rfl) ?_ _
          have r2 : Boxed W2 w.heap.size 4 (.bool false) := ((HV.out.trans (qq.mono (by omega)) : Below Vd.heap.size w8 W2).block _ (by omega)).trans BR8.out
          have rc := r2.cell
          have rf := r2.frozen
          gi_wp2_with fail
          refine ⟨(below_keeps qq).trans ((KeepsOthers.setCell _ _ _).from _), fun h => ?_⟩
          have h7 := (sameEv_iff y x).2 (take_last h HMm.out HY.out).symm
          rw [HSM.out] at h7
          cases h7
      · gi_upto_region 16 with fail
        refine wpIn_region_told [.val (.int .i64 (m : Int)), .val (.slice (some ⟨g, 0, none⟩) L c6), .val (.int .i64 (L : Int)), .val (.bool false), .val (.bool false), .val (.slice (some ⟨g, 0, none⟩) L c6), .val (.int .i64 (m : Int)), .val (.pointer (some ⟨g, m * 2, none⟩)), .val y.v, .val x.v, .val (.bool false)] (by kernel_rfl) (by kernel_rfl) (by kernel_rfl) ?_ ?_
        · simp only [Told.fill, Told.Leave.value]
          refine ⟨?_, ?_, ?_, ?_, ?_, ?_, ?_, ?_, ?_, ?_, ?_, trivial⟩
          · intro gg w' hw hk
            have q0 := (hw.cell (p := ⟨Vd.heap.size, 0, none⟩) (block_lt_of_cell nc)).trans nc
            go_simp
            exact ⟨rfl, rfl⟩
          · intro gg w' hw hk
            have q0 := (hw.cell (p := ⟨W4.heap.size, 0, none⟩) (block_lt_of_cell wc)).trans wc
            go_simp
            exact ⟨rfl, rfl⟩
          · intro gg w' hw hk
            go_simp
            exact ⟨rfl, rfl⟩
          · intro gg w' hw hk
            go_simp
            exact ⟨rfl, rfl⟩
          · intro gg w' hw hk
            go_simp
            exact ⟨rfl, rfl⟩
          · intro gg w' hw hk
            have q0 := (hw.cell (p := ⟨W4.heap.size, 0, none⟩) (block_lt_of_cell wc)).trans wc
            go_simp
            exact ⟨rfl, rfl⟩
          · intro gg w' hw hk
            have q0 := (hw.cell (p := ⟨Vd.heap.size, 0, none⟩) (block_lt_of_cell nc)).trans nc
            go_simp
            exact ⟨rfl, rfl⟩
          · intro gg w' hw hk
            go_simp
            exact ⟨rfl, rfl⟩
          · intro gg w' hw hk
            have q0 := (hw.cell (p := ⟨g, m * 2, none⟩) (block_lt_of_cell e0)).trans e0
            have q1 := (hw.cell (p := ⟨g, m * 2 + 1, none⟩) (block_lt_of_cell e1)).trans e1
            go_simp
            exact ⟨rfl, rfl⟩
          · intro gg w' hw hk
            have q0 := (hw.cell (p := ⟨b5, 0, none⟩) (block_lt_of_cell hx0)).trans hx0
            have q1 := (hw.cell (p := ⟨b5, 1, none⟩) (block_lt_of_cell hx1)).trans hx1
            go_simp
            exact ⟨rfl, rfl⟩
          · intro gg w' hw hk
            have E1 := E w'
            go_simp
            exact ⟨rfl, rfl⟩
        · intro gg W2 qq hbox hap
          clear hbox hap
          simp only [Told.fill, Told.Leave.value, List.length_cons, List.length_nil, Nat.reduceAdd, Nat.reduceSub]
          refine wpAnyIn_ready (rs := [11]) (by kernel_rfl) (by simp) ?_
          refine AllReadyIn.cons rfl (fun K hK => ?_) AllReadyIn.nil
          go_simp
          refine hK _ _ ?_
          clear hK K
          refine wpAnyIn_done (by kernel_rfl) ?_ _
          have n2 := HBN.out.kept (grown_of_below qq) (by simp)
          have nc2 := n2.cell
          have nf2 := n2.frozen
          gi_wp2_with fail
          have hxy : x = y := ((sameEv_iff _ _).1 HSM.out).symm
          have hl2 : (pre ++ [x]).length = m + 1 := by rw [List.length_append, HMm.out]; rfl
          have hq2 := qq.size
          refine ⟨(below_keeps qq).trans ((KeepsOthers.setCell _ _ _).from _), (Stay.grown (grown_of_below qq) ⟨by omega, by omega⟩ (fun r e => by cases e)).trans (Stay.grown (grownBy_setCell' W2 Vd.heap.size _) ⟨by omega, by omega⟩ (fun r e => by injection e with e; subst e; omega)), ⟨?_, ?_⟩, (HV.out.trans (qq.mono (by omega))).setCell (p := ⟨Vd.heap.size, 0, none⟩) (Nat.le_refl _) _⟩
          · rw [hl2]; exact n2.set (.int .i64 (m + 1 : Int))
          · rw [hxy]
            exact take_step HP.out (by rw [HMm.out]; exact HY.out)
    case done2 =>
      rintro D2 ys V9 hD2 rfl ⟨⟨i1, i3⟩, i4⟩ hK2
      have nc := i1.cell
      rw [HLx.out] at nc
      have hvl9 := i4.size
      have wc : V9.cell? ⟨W4.heap.size, 0, none⟩ = some (.slice A6 L c6) := (i4.cell (p := ⟨W4.heap.size, 0, none⟩) (by simp; omega)).trans BW8.out.cell
      have ccv : V9.cell? ⟨w3.heap.size, 0, none⟩ = some (.int .i64 (cc : Int)) := (i4.cell (p := ⟨w3.heap.size, 0, none⟩) (by simp; omega)).trans BC8.out.cell
      have tcv : V9.cell? ⟨w1.heap.size, 0, none⟩ = some (.pointer (some p)) := (i4.cell (p := ⟨w1.heap.size, 0, none⟩) (by simp; omega)).trans BT8.out.cell
      have r9 : Boxed V9 w.heap.size 4 (.bool false) := (i4.block _ (by omega)).trans BR8.out
      have BR9 := Lib.hid r9
      have HV9 := Lib.hid (V8.out.trans (i4.mono (by omega)))
      have KD9 := Lib.hid ((i4.block D hDV).trans KD8.out)
      have HMem := Lib.hid (fun V (k : Below w1.heap.size w1 V) => (hW.members V p bs (cc : Int) (hT.keep _ _ _ _ HT1.out k)).mono (R' := fun r w' => ∃ u, r = .returned u ∧ SliceM ML w' u ∧ Below V.heap.size V w') (by
        rintro r w' ⟨u, rfl, ⟨A8, c8, rfl, n8, -⟩, k8⟩
        rw [hms, hML]
        exact ⟨_, rfl, ⟨A8, c8, rfl⟩, k8⟩))
      have hww : IntKind.i64.wrap (2 * (ML : Int)) = (L : Int) := by have := HMM.out; rw [IntWalk.i64_in _ (by omega)]; omega
      have HL9 := Lib.hid (show Below w.heap.size w V9 from K1.out.trans ((HV9.out).mono (by omega)))
      have HDD := Lib.hid (show w.heap.size < D ∧ w.heap.size < D2 ∧ D < D2 ∧ D2 < V9.heap.size from ⟨by omega, by omega, by omega, (Array.getElem?_eq_some_iff.1 hK2).1⟩)
      have HK2 := Lib.hid hK2
      clear i1 i3 i4 r9 hK2
      gi_upto_region 19 with fail
      refine wpIn_region_holdW [.val (.int .i64 (L : Int)), .val (.slice A6 L c6), .val (.int .i64 (L : Int)), .val (.bool true), .val (.bool true), .val (.int .i64 (L : Int)), .val (.pointer (some p)), .val (.int .i64 (cc : Int)), .some (SliceM ML), .val (.int .i64 (ML : Int)), .val (.int .i64 (L : Int)), .val (.bool true), .val (.bool true)] (by kernel_rfl) (by kernel_rfl) (by kernel_rfl) ?_ ?_
      · simp only [Hold.fill, Hold.Leave.value]
        refine ⟨?_, ?_, ?_, ?_, ?_, ?_, ?_, ?_, ?_, ?_, ?_, ?_, ?_, trivial⟩
        · intro gg w' hw hk
          have q0 := (hw.cell (p := ⟨Vd.heap.size, 0, none⟩) (block_lt_of_cell nc)).trans nc
          go_simp
          exact ⟨rfl, rfl⟩
        · intro gg w' hw hk
          have q0 := (hw.cell (p := ⟨W4.heap.size, 0, none⟩) (block_lt_of_cell wc)).trans wc
          go_simp
          exact ⟨rfl, rfl⟩
        · intro gg w' hw hk
          go_simp
          exact ⟨rfl, rfl⟩
        · intro gg w' hw hk
          go_simp
          exact ⟨rfl, rfl⟩
        · intro gg w' hw hk
          go_simp
          exact ⟨rfl, rfl⟩
        · intro gg w' hw hk
          have q0 := (hw.cell (p := ⟨Vd.heap.size, 0, none⟩) (block_lt_of_cell nc)).trans nc
          go_simp
          exact ⟨rfl, rfl⟩
        · intro gg w' hw hk
          have q0 := (hw.cell (p := ⟨w1.heap.size, 0, none⟩) (block_lt_of_cell tcv)).trans tcv
          go_simp
          exact ⟨rfl, rfl⟩
        · intro gg w' hw hk
          have q0 := (hw.cell (p := ⟨w3.heap.size, 0, none⟩) (block_lt_of_cell ccv)).trans ccv
          go_simp
          exact ⟨rfl, rfl⟩
        · refine ⟨keeps_sliceM _, ?_⟩
          intro gg w' hw hk
          go_simp
          exact Hold.gives_call (HMem.out _ (HV9.out.trans (hw.mono HV9.out.size)))
        · intro gg w' hw hk
          have h1 := hk ⟨8, .data⟩ (by simp) rfl _ rfl
          exact h1.elim fun A1 h2 => h2.elim fun c1 h3 => by
            change gg 8 = _ at h3
            go_simp
            exact ⟨rfl, rfl⟩
        · intro gg w' hw hk
          go_simp
          exact ⟨rfl, rfl⟩
        · intro gg w' hw hk
          go_simp
          exact ⟨rfl, rfl⟩
        · intro gg w' hw hk
          go_simp
          exact ⟨rfl, rfl⟩
      · intro gg W2 qq hgg
        clear hgg
        simp only [Hold.fill, Hold.Leave.value, List.length_cons, List.length_nil, Nat.reduceAdd, Nat.reduceSub]
        refine wpAnyIn_ready (rs := [13]) (by kernel_rfl) (by simp) ?_
        refine AllReadyIn.cons rfl (fun K hK => ?_) AllReadyIn.nil
        have r2 := BR9.out.kept (grown_of_below qq) (by simp)
        have rc := r2.cell
        have rf := r2.frozen
        have BR10 := Lib.hid (r2.set (.bool true))
        clear r2
        go_simp
        refine hK _ _ ?_
        clear hK K
        refine wpAnyIn_done (by kernel_rfl) ?_ _
        gi_wp2_with fail
        refine leaves_marks [D2, D] _ (by have := HDD.out; simp; omega) (fun E hE => ?_) (fun W' hS => ?_)
        · have hh := HDD.out
          have hE' : E = D2 ∨ E = D := by simpa using hE
          rw [heap_setCell_other _ _ _ _ (show E ≠ w.heap.size by omega)]
          refine (qq.block E (by omega)).trans ?_
          rcases hE' with e | e
          · rw [e]; exact HK2.out
          · rw [e]; exact KD9.out
        · have hh := HDD.out
          have i6 : Boxed W' w.heap.size 4 (.bool true) := (hS.same _ (fun h => by simp at h; omega)).trans BR10.out
          have c6 := i6.cell
          have a4 := Try.isAgg4
          have hk6 : Below w.heap.size w W' := ((HL9.out.trans (qq.mono HL9.out.size)).setCell (p := ⟨w.heap.size, 0, none⟩) (Nat.le_refl _) _).trans (hS.below (fun E hE => by simp at hE; omega))
          exact ⟨.bool true, by simp [results, Try.results7, go_sem, c6], rfl, hk6⟩
    case stop2 =>
      rintro D2 c pre V _ hs h _
      exact (h (take_prefix hs)).elim
  case stop =>
    rintro D c pre V _ _ h _
    exact h.elim
  -- END

theorem nest_any (hT : TreeOk T) (hW : WalkOk T) (A : Option Addr) (n c : Nat) (bs : List Bx) (z : Int) (hz : 0 ≤ z ∧ z ≤ 255) (w : World) (hn : n = bs.length) (hm : n ≤ 9223372036854775807) (hx : Boxes w w.heap.size A bs) (hb : ∀ b ∈ bs, OkB b) :
    Calls Try.prog 7 #[.slice A n c, .int .u8 z] w fun e w' => e = .returned (.bool true) ∧ Below w.heap.size w w' := by
  refine (callsIn_wide (n := 6)).1 ?_
  rcases begun_or hT A n c bs w hn hm hx hb with ⟨h, hs, hf, hb⟩ | h
  · exact nest_yes hT hW A n c z hz bs w hs hf hn h hb
  · exact nest_no hT hW A n c z w h
end

end Go.Proofs.Ytflncnfagoekcaa.Walk
