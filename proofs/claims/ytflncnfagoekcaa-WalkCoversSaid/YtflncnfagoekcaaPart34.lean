/- The law of the contexts' members, and of the whole walk. -/
import Derived.Test.YtflncnfagoekcaaPart17
import Derived.Test.YtflncnfagoekcaaPart19
import Derived.Test.YtflncnfagoekcaaPart32
import Derived.Test.YtflncnfagoekcaaPart13
import Derived.Test.YtflncnfagoekcaaPart12
import Derived.Test.YtflncnfagoekcaaPart14
import Derived.Test.YtflncnfagoekcaaPart28
import Derived.Test.YtflncnfagoekcaaPart33
namespace Go.Proofs.Ytflncnfagoekcaa.Walk
open Go.RowKit Go.Shelf Go.Sort Go.Proofs.Ytflncnfagoekcaa.Record Go.Proofs.Ytflncnfagoekcaa.Script Go.Proofs.Ytflncnfagoekcaa.Tree Go.Proofs.Ytflncnfagoekcaa.More

attribute [local go_sem] Oper.semAt_some

theorem make_ints (w3 : World) (n : Nat) (hn : n ≤ 1000) : ∃ w4, (Instr.makeSlice 38 (.int .i64 (n : Int)) (.int .i64 (n : Int))).run Try.prog w3 = .ok (.slice (some ⟨w3.heap.size, 0, none⟩) n n) w4 ∧
    Mine w4 w3.heap.size (some ⟨w3.heap.size, 0, none⟩) n n (minL n 0) ∧ Below w3.heap.size w3 w4 := by
  obtain ⟨i0, hi0, hz0, hz1, hz2⟩ := info_parts int_info
  obtain ⟨w5, hmk, hown, hg5⟩ := run_makeSlice_full (P := Try.prog) w3 w3.heap.size 38 3 i0 (.int .i64 0) 1 Try.underlying38 hi0 hz0 hz1 .i64 .i64 n (by omega) (by rw [hz2]; omega) (by unfold maxLen; omega) (Nat.le_refl _)
  rw [made_zeros, minL_zero] at hown
  exact ⟨w5, hmk, hown, (Below.refl w3.heap.size w3).grown hg5 (Nat.le_refl _) (fun j e => by cases e)⟩

/-- What is left but for two blocks. -/
structure ButTwo (a b : Nat) (w W : World) : Prop where
  low : Below a w W
  rest : ∀ i, i < w.heap.size → i ≠ a → i ≠ b → W.heap[i]? = w.heap[i]?

theorem ButTwo.refl (a b : Nat) (w : World) : ButTwo a b w w := ⟨Below.refl _ _, fun _ _ _ _ => rfl⟩
theorem ButTwo.trans {a b : Nat} {w W X : World} (h : ButTwo a b w W) (k : ButTwo a b W X) : ButTwo a b w X := ⟨h.low.trans k.low, fun i h1 h2 h3 => (k.rest i (Nat.lt_of_lt_of_le h1 h.low.size) h2 h3).trans (h.rest i h1 h2 h3)⟩
theorem ButTwo.of_below {a b : Nat} {w W : World} (h : Below w.heap.size w W) (hb : a ≤ w.heap.size) : ButTwo a b w W := ⟨h.mono hb, fun i h1 _ _ => h.block i h1⟩
theorem ButTwo.box {a b k : Nat} {w W : World} {t : TypeId} {v : Value} (h : ButTwo a b w W) (h1 : k < w.heap.size) (h2 : k ≠ a) (h3 : k ≠ b) (hb : Boxed w k t v) : Boxed W k t v := (h.rest k h1 h2 h3).trans hb
theorem ButTwo.set {a b k : Nat} {w W : World} (h : ButTwo a b w W) (hk : k = a ∨ k = b) (ha : a ≤ k) (v : Value) : ButTwo a b w (W.setCell ⟨k, 0, none⟩ v) :=
  ⟨h.low.setCell (p := ⟨k, 0, none⟩) ha v, fun i h1 h2 h3 => (heap_setCell_other W ⟨k, 0, none⟩ i v (by rcases hk with e | e <;> (subst e; assumption))).trans (h.rest i h1 h2 h3)⟩
theorem ownFrom_butTwo {β : Type} {a b B : Nat} {w : World} (h1 : a ≤ w.heap.size) (h2 : w.heap.size ≤ B) : OwnFrom B (fun (_ : β) W => ButTwo a b w W) :=
  fun _ W W' row hs hg hr => ⟨hs.low.grown hg (Nat.le_trans h1 hs.low.size) (fun k e => Nat.le_trans (Nat.le_trans h1 h2) (hr k e).1), fun k hk hne hne2 => (hg.block k (Nat.lt_of_lt_of_le hk hs.low.size) (fun e => by have := (hr k e.symm).1; omega)).trans (hs.rest k hk hne hne2)⟩

/-- Another variable of the body's is set. -/
theorem StayB.other {mb ob s1 a b d : Nat} {W : World} (v : Value) (h1 : s1 ≤ ob) (h2 : ob < a) (h3 : ob < d) (hne : ob ≠ mb) : StayB (some mb) s1 a b d W (W.setCell ⟨ob, 0, none⟩ v) := by
  have hs : ∀ k, owns (some mb) (W.setCell ⟨ob, 0, none⟩ v) k ↔ owns (some mb) W k := fun k => owns_same (fun x e => by injection e with e; subst e; exact heap_setCell_other W ⟨ob, 0, none⟩ _ v (fun e => hne e.symm)) k
  have hz : (W.setCell ⟨ob, 0, none⟩ v).heap.size = W.heap.size := by simp [World.setCell]
  exact ⟨(Below.refl s1 W).setCell (p := ⟨ob, 0, none⟩) h1 v, fun k h5 h6 => heap_setCell_other W ⟨ob, 0, none⟩ k v (by show k ≠ ob; omega), fun k o h5 h6 _ h8 => ⟨(heap_setCell_other W ⟨ob, 0, none⟩ k v (by show k ≠ ob; omega)).trans h6, fun h => h8 ((hs k).1 h)⟩, fun h k hk => by rw [hz]; exact h k ((hs k).1 hk)⟩

/-- The list is made shorter. -/
theorem StayB.less {mb s1 a b d : Nat} {t : TypeId} {W : World} {A : Option Addr} {n c n1 c1 : Nat} (hv : Boxed W mb t (.slice A n c)) (hA : ∀ g, blk A = some g → b ≤ g ∧ g < W.heap.size) (h1 : s1 ≤ mb) (hma : mb < a ∨ b ≤ mb) (hmb : mb < d) (hb : b ≤ W.heap.size) : StayB (some mb) s1 a b d W (W.setCell ⟨mb, 0, none⟩ (.slice A n1 c1)) :=
  StayB.of_more hv.cell (hv.set (.slice A n1 c1)).cell (fun g e => (hA g e).1) (.inl rfl) (fun g e => by have := (hA g e).2; simpa [World.setCell] using this) (fun k _ _ h => heap_setCell_other W ⟨mb, 0, none⟩ k _ h) ((Below.refl s1 W).setCell (p := ⟨mb, 0, none⟩) h1 _) hma hmb hb

theorem mine_drop {w : World} {B : Nat} {A : Option Addr} {m c : Nat} {xs : List Int} {l : Nat} (hl : l = m + 1) (h : Mine w B A l c xs) : Mine w B A m c xs.dropLast := by
  subst hl
  obtain ⟨h1, h2⟩ := h
  refine ⟨by simp only [List.length_map, List.length_dropLast] at h1 ⊢; omega, ?_⟩
  rcases h2 with ⟨-, h0⟩ | ⟨g, cap, cur, e, hg, hb, hnc, hcm, hsz, htk⟩
  · omega
  · injection e with e1 e2 e3
    subst e1 e3
    refine .inr ⟨g, c, cur, rfl, hg, hb, by omega, hcm, hsz, ?_⟩
    rw [List.map_dropLast, ← htk, List.dropLast_eq_take, List.take_take]
    congr 1
    rw [List.length_take]
    have : cur.toList.length = cur.size := by simp
    omega

theorem mine_block {w W : World} {B g n c : Nat} {xs : List Int} (h : Mine w B (some ⟨g, 0, none⟩) n c xs) (e : W.heap[g]? = w.heap[g]?) : Mine W B (some ⟨g, 0, none⟩) n c xs := by
  obtain ⟨h1, h2⟩ := h
  refine ⟨h1, ?_⟩
  rcases h2 with h2 | ⟨g', cap, cur, e1, hg, hb, r⟩
  · exact .inl h2
  · injection e1 with e1 e2 e3
    injection e1 with e1
    injection e1 with e1
    subst e1 e3
    exact .inr ⟨g, c, cur, rfl, hg, e.trans hb, r⟩

theorem more_rest {W W1 : World} {B : Nat} {A A1 : Option Addr} {l c c1 : Nat} {xs : List Int} {k : Int} {o : Obj} (hrow : Mine W B A l c xs) (h : Appended (W.alloc o) B A l xs [k] 1 A1 c1 W1) : ∀ j, j < W.heap.size → j < B → W1.heap[j]? = W.heap[j]? := fun j h1 h2 =>
  (h.2.1.block j (by rw [World.size_alloc]; omega) (fun e => by have := (hrow.lt j e.symm).1; omega)).trans ((ba1 W o).block j h1)

theorem cov_at {bs : List Bx} (hs : Shape (dOf bs) bs.length) {pre : List Ev} {x : Ev} (h : pre ++ [x] <+: evAll bs) : fits (dOf bs) bs.length (stkAt ([], 0) pre) x := by
  obtain ⟨t, ht⟩ := h
  have hx : (evAll bs)[pre.length]? = some x := by rw [← ht, List.append_assoc, List.getElem?_append_right (Nat.le_refl _), Nat.sub_self]; rfl
  have htk : (evAll bs).take pre.length = pre := by rw [← ht, List.append_assoc, List.take_left]
  have := (all_covs bs hs).at _ x hx
  rwa [htk] at this

theorem cov_in {bs : List Bx} {st : List Nat} {q : Nat} {xa : Int} (h : fits (dOf bs) bs.length (st, q) ⟨xa, false⟩) : xa = (q : Int) ∧ ∀ e : Nat, st.getLast? = some e → parT bs xa = (e : Int) := by
  obtain ⟨k, e, hk, h2⟩ := h
  have e' : xa = (k : Int) := e
  subst e'
  simp only [Bool.false_eq_true, if_false] at h2
  exact ⟨by rw [h2.1], fun e he => by rw [parT_nat hk]; exact h2.2 e he⟩

theorem cov_out {bs : List Bx} {st : List Nat} {q : Nat} {xa : Int} (h : fits (dOf bs) bs.length (st, q) ⟨xa, true⟩) : (∃ e : Nat, st.getLast? = some e ∧ (e : Int) = xa) ∧ enT bs xa = (q : Int) := by
  obtain ⟨k, e, hk, h2⟩ := h
  have e' : xa = (k : Int) := e
  subst e'
  simp only [if_true] at h2
  exact ⟨⟨k, h2.1, rfl⟩, by rw [enT_nat hk, h2.2]⟩

theorem stk_le (pre : List Ev) : (stkAt ([], 0) pre).2 ≤ pre.length ∧ (stkAt ([], 0) pre).1.length ≤ pre.length := by
  have h : ∀ (pre : List Ev) (s : List Nat × Nat), (pre.foldl stk s).2 ≤ s.2 + pre.length ∧ (pre.foldl stk s).1.length ≤ s.1.length + pre.length := by
    intro pre
    induction pre with
    | nil => intro s; simp
    | cons x r ih =>
      intro s
      have := ih (stk s x)
      simp only [List.foldl_cons, List.length_cons]
      have h2 : (stk s x).2 ≤ s.2 + 1 ∧ (stk s x).1.length ≤ s.1.length + 1 := by
        unfold stk
        split <;> simp <;> omega
      omega
  have := h pre ([], 0)
  simpa [stkAt] using this

theorem last_at {st : List Nat} {m e : Nat} (hl : st.length = m + 1) (h : st.getLast? = some e) : (st.map Int.ofNat).getD m 0 = (e : Int) := by
  have : st[m]? = some e := by rw [List.getLast?_eq_getElem?, hl] at h; simpa using h
  simp [List.getD, this]

theorem last_some {st : List Nat} (h : 0 < st.length) : ∃ e, st.getLast? = some e := by
  cases hq : st.getLast? with
  | none => rw [List.getLast?_eq_none_iff] at hq; subst hq; simp at h
  | some e => exact ⟨e, rfl⟩

theorem mine_cap {w : World} {B : Nat} {A : Option Addr} {n c : Nat} {xs : List Int} (h : Mine w B A n c xs) : n ≤ c := by
  rcases h.2 with ⟨e, h0⟩ | ⟨g, cap, cur, e, -, -, hc, -⟩
  · omega
  · injection e with _ _ e3
    omega

section
variable {T : World → Addr → List Bx → Prop}

set_option maxRecDepth 100000 in
set_option maxHeartbeats 16000000 in
theorem covers_yes (hT : TreeOk T) (hW : WalkOk T) (A : Option Addr) (n c : Nat) (bs : List Bx) (w : World) (hs : Shape (dOf bs) bs.length) (hf0 : oOf bs 0 = true) (hn : n = bs.length) (hlen : n ≤ 100) (hb : Begun T A n c bs w) :
    CallsIn Fence.wide 6 Try.prog 5 #[.slice A n c] w fun e w' => e = .returned (.bool true) ∧ Below w.heap.size w w' := by
  have hro : Fence.wide.round = none := rfl
  have HB := Lib.hid hb
  have HS := Lib.hid hs
  have HN := Lib.hid hn
  have HF0 := Lib.hid hf0
  clear hb hs hn hf0
  refine callsIn_of_wp_marks Try.func5 rfl trivial ?_ hro
  simp only [Try.ntmps5, List.size_toArray, List.length_nil, List.length_cons, Nat.reduceAdd, Nat.reduceSub, Array.replicate_succ, Array.replicate_zero, List.push_toArray, List.append_toArray, List.nil_append, List.cons_append]
  gi_upto_region 1 with fail
  generalize hWa : World.alloc w _ = Wa
  have hka : Below w.heap.size w Wa := by rw [← hWa]; exact ba1 _ _
  have hbr : Boxed Wa w.heap.size 4 (.bool false) := by rw [← hWa]; exact Boxed.new _ _ _
  clear hWa
  have KA := Lib.hid hka
  have BR := Lib.hid hbr
  clear hka hbr
  gi_upto_region 2 with (first
    | (refine ⟨trivial, ?_⟩; gi_at_call 9; refine (callsIn_wide.2 (HB.out _ KA.out)).mono ?_; rintro e w1 ⟨⟨p, rfl, ht⟩, k1⟩; have HT1 := Lib.hid ht; have K1 := Lib.hid (thru KA.out k1); have BR1 := Lib.hid (BR.out.kept (grown_of_below k1) (by simp)); clear k1 ht))
  generalize hWc : World.alloc w1 _ = Wc
  have hkc := ba1 w1 (.cells #[.pointer (some p)] 23)
  have hbc := Boxed.new w1 23 (.pointer (some p))
  have hbb := BR1.out.alloc (.cells #[.pointer (some p)] 23)
  have hsc : (w1.alloc (.cells #[.pointer (some p)] 23)).heap.size = w1.heap.size + 1 := by simp
  rw [hWc] at hkc hbc hbb hsc
  have L1 := Lib.hid hkc
  have BC := Lib.hid hbc
  have BB := Lib.hid hbb
  have hs1 := BR1.out.lt
  clear hWc hkc hbc hbb BR1 KA BR
  gi_upto_region 4 with (first
    | (refine ⟨trivial, ?_⟩; gi_at_call 10; refine (callsIn_wide.2 (callsIn_wide.1 (wspeaks hT hW _))).mono ?_; rintro e w2 ⟨rfl, k2⟩; have L2 := Lib.hid (thru L1.out k2); have BC2 := Lib.hid (BC.out.kept (grown_of_below k2) (by simp)); have BB2 := Lib.hid (BB.out.kept (grown_of_below k2) (by simp)); have hcc := BC2.out.cell; have hs2 := k2.size; clear k2))
  clear BC BB L1
  have HLen := Lib.hid (fun Y (j : Below w1.heap.size w1 Y) => hT.len Y p bs (hT.keep _ _ _ _ HT1.out j))
  rw [← HN.out] at HLen
  gi_wp2_with (first
    | (refine ⟨trivial, ?_⟩; gi_at_call 18; refine (callsIn_wide.2 (HLen.out _ L2.out)).mono ?_; rintro e w3 ⟨rfl, k3⟩; obtain ⟨w4, hmk, hm4, k4⟩ := make_ints w3 n (by omega); obtain ⟨B4, hB4⟩ : ∃ B4, w3.heap.size = B4 := ⟨_, rfl⟩; rw [hB4] at hmk hm4 k4; have HM4 := Lib.hid hm4; have K4 := Lib.hid k4; have L3 := Lib.hid (thru L2.out k3); have BT3 := Lib.hid (BC2.out.kept (grown_of_below k3) (by simp)); have BR3 := Lib.hid (BB2.out.kept (grown_of_below k3) (by simp)); have hs3 := k3.size; clear k3 hm4 k4))
  clear hmk hcc BC2 BB2 L2
  have hB3 : w1.heap.size < B4 := by have := BT3.out.lt; omega
  refine wpIn_loop (fun a X => ∃ (k : Nat) (u5 u30 u31 u32 u33 u34 u35 : Value), k ≤ n ∧ a = { tmps := (Value.slice A n c :: undef :: Value.pointer (some ⟨w.heap.size, 0, none⟩) :: Value.pointer (some ⟨w1.heap.size, 0, none⟩) :: Value.slice (some ⟨B4, 0, none⟩) n n :: u5 :: undef :: undef :: undef :: undef :: undef :: undef :: undef :: undef :: undef :: Value.slice A n c :: Value.pointer (some p) :: Value.bool true :: Value.bool false :: Value.bool false :: Value.pointer (some p) :: Value.bool false :: Value.bool false :: undef :: Value.pointer (some p) :: Value.int IntKind.i64 (n : Int) :: Value.slice (some ⟨B4, 0, none⟩) n n :: Value.slice (some ⟨B4, 0, none⟩) n n :: Value.int IntKind.i64 (n : Int) :: Value.int IntKind.i64 (k : Int) :: u30 :: u31 :: u32 :: u33 :: u34 :: u35 :: undef :: undef :: undef :: undef :: undef :: undef :: undef :: undef :: undef :: undef :: undef :: undef :: undef :: undef :: undef :: undef :: undef :: undef :: undef :: undef :: undef :: undef :: undef :: undef :: undef :: undef :: undef :: undef :: undef :: undef :: undef :: undef :: undef :: undef :: undef :: undef :: undef :: undef :: undef :: undef :: undef :: undef :: undef :: undef :: undef :: undef :: undef :: undef :: undef :: undef :: undef :: undef :: undef :: undef :: undef :: undef :: undef :: undef :: undef :: undef :: undef :: undef :: undef :: undef :: undef :: undef :: undef :: undef :: undef :: undef :: undef :: undef :: undef :: undef :: undef :: undef :: undef :: undef :: undef :: undef :: undef :: undef :: undef :: undef :: undef :: undef :: undef :: undef :: undef :: undef :: undef :: undef :: undef :: undef :: undef :: undef :: undef :: undef :: undef :: undef :: undef :: undef :: undef :: undef :: undef :: undef :: undef :: undef :: undef :: undef :: undef :: undef :: undef :: undef :: undef :: undef :: undef :: undef :: undef :: undef :: undef :: undef :: undef :: undef :: undef :: undef :: undef :: []).toArray, defers := [] } ∧ Hid (Mine X B4 (some ⟨B4, 0, none⟩) n n (minL n k) ∧ Below B4 w3 X))
    (fun a _ => n - (intOf (a.tmps.getD 29 undef)).toNat) ⟨0, _, _, _, _, _, _, _, by omega, rfl, Lib.hid ⟨HM4.out, K4.out⟩⟩ ?_
  rintro a X ⟨k, u5, u30, u31, u32, u33, u34, u35, hk, rfl, H⟩
  rcases Nat.lt_or_ge k n with h | h
  · generalize hQQ : Exit.then _ _ = QQ
    have hki : (k : Int) < (n : Int) := by omega
    have hk0 : ¬ (k : Int) < 0 := by omega
    have hwk : IntKind.i64.wrap ((k : Int) + 1) = (k : Int) + 1 := IntWalk.i64_in _ (by omega)
    obtain ⟨g0, eg, -, -, hcell⟩ := Mine.cell H.out.1 k (by rw [minL_len]; exact h)
    injection eg with eg
    injection eg with eg _ _
    subst eg
    rw [add0] at hcell
    obtain ⟨g1, eg, -, -, hfz, hms⟩ := mine_set H.out.1 k h (-1)
    injection eg with eg
    injection eg with eg _ _
    subst eg
    rw [add0, minL_set] at hms
    have hfy := hfz k
    have HMS := Lib.hid hms
    have HBE := Lib.hid (H.out.2.setCell (p := ⟨B4, k, none⟩) (Nat.le_refl _) (.int .i64 (-1)))
    clear hfz hms H
    gi_wp2_with fail
    rw [← hQQ]
    refine ⟨⟨k + 1, _, _, _, _, _, _, _, by omega, by push_cast; rfl, Lib.hid ⟨HMS.out, HBE.out⟩⟩, ?_⟩
    first | (simp [intOf]; omega) | simp [intOf]
  · have hkn : n = k := by omega
    subst hkn
    have hkk : ¬ (n : Int) < (n : Int) := by omega
    have VX := Lib.hid (L3.out.trans (H.out.2.mono (by omega)))
    have HMX := Lib.hid H.out.1
    have HBX := Lib.hid H.out.2
    have tc := (H.out.2.cell (p := ⟨w1.heap.size, 0, none⟩) (by show w1.heap.size < _; omega)).trans BT3.out.cell
    clear H HM4 K4
    obtain ⟨K, hK⟩ : ∃ K, (osL bs).length = K := ⟨_, rfl⟩
    have hKn : K ≤ n := by have := os_len bs; have := HN.out; omega
    have HOp := Lib.hid ((hT.opens X p bs (hT.keep _ _ _ _ HT1.out VX.out)).mono (R' := fun r w' => ∃ A1 c1, r = .returned (.slice A1 K c1) ∧ Nums w' w'.heap.size A1 ((osL bs).map Int.ofNat) ∧ (0 < K → ∀ ad, A1 = some ad → X.heap.size ≤ ad.block) ∧ Below X.heap.size X w') (by
      rintro r w' ⟨v, rfl, ⟨A1, c1, rfl, h1, h2⟩, h3⟩
      rw [opensT_os] at h1 h2 ⊢
      refine ⟨A1, c1, by rw [List.length_map, hK], h1, fun h0 => h2 (fun e => ?_), h3⟩
      have := congrArg List.length e
      rw [List.length_map, hK] at this
      simp at this
      omega))
    have HK := Lib.hid hK
    have HP0 := Lib.hid (show minL n n = covL bs n (P0 bs 0) by rw [minL_all bs]; exact covL_congr (fun x _ => (P0_zero bs x).symm))
    clear hK
    gi_wp2_with (first
      | (refine ⟨trivial, ?_⟩; gi_at_call 19; refine (callsIn_wide.2 HOp.out).mono ?_; rintro e w5 ⟨A1, c1, rfl, h1, h2, k5⟩; have N5 := Lib.hid h1; have F5 := Lib.hid h2; have HM5 := Lib.hid (HMX.out.below k5); have K5 := Lib.hid (HBX.out.trans (k5.mono (by have := HBX.out.size; omega))); have hB5 := (HMX.out.lt B4 rfl).2; clear h1 h2 k5))
    clear tc HMX HBX HOp VX
    rw [HP0.out] at HM5
    have FA := Lib.hid (fun (h0 : 0 < ((osL bs).map Int.ofNat).length) ad (e : A1 = some ad) => (show ad.block ≠ B4 by have := F5.out (by rw [List.length_map, HK.out] at h0; exact h0) ad e; omega))
    clear F5 HP0
    refine wpIn_loop (fun a X => ∃ (k : Nat) (u7 u9 u40 u41 u42 u43 u44 u45 u46 u47 u48 u49 u50 u51 u52 u53 u54 u55 u56 u57 u58 u59 u60 u61 u62 u63 u64 u65 u66 u67 u68 u69 u70 u71 u72 u73 u74 u75 u76 u77 u78 : Value), k ≤ K ∧ a = { tmps := (Value.slice A n c :: undef :: Value.pointer (some ⟨w.heap.size, 0, none⟩) :: Value.pointer (some ⟨w1.heap.size, 0, none⟩) :: Value.slice (some ⟨B4, 0, none⟩) n n :: u5 :: undef :: u7 :: undef :: u9 :: undef :: undef :: undef :: undef :: undef :: Value.slice A n c :: Value.pointer (some p) :: Value.bool true :: Value.bool false :: Value.bool false :: Value.pointer (some p) :: Value.bool false :: Value.bool false :: undef :: Value.pointer (some p) :: Value.int IntKind.i64 (n : Int) :: Value.slice (some ⟨B4, 0, none⟩) n n :: Value.slice (some ⟨B4, 0, none⟩) n n :: Value.int IntKind.i64 (n : Int) :: Value.int IntKind.i64 (n : Int) :: Value.bool false :: u31 :: u32 :: u33 :: u34 :: u35 :: Value.pointer (some p) :: Value.slice A1 K c1 :: Value.int IntKind.i64 (K : Int) :: Value.int IntKind.i64 (k : Int) :: u40 :: u41 :: u42 :: u43 :: u44 :: u45 :: u46 :: u47 :: u48 :: u49 :: u50 :: u51 :: u52 :: u53 :: u54 :: u55 :: u56 :: u57 :: u58 :: u59 :: u60 :: u61 :: u62 :: u63 :: u64 :: u65 :: u66 :: u67 :: u68 :: u69 :: u70 :: u71 :: u72 :: u73 :: u74 :: u75 :: u76 :: u77 :: u78 :: undef :: undef :: undef :: undef :: undef :: undef :: undef :: undef :: undef :: undef :: undef :: undef :: undef :: undef :: undef :: undef :: undef :: undef :: undef :: undef :: undef :: undef :: undef :: undef :: undef :: undef :: undef :: undef :: undef :: undef :: undef :: undef :: undef :: undef :: undef :: undef :: undef :: undef :: undef :: undef :: undef :: undef :: undef :: undef :: undef :: undef :: undef :: undef :: undef :: undef :: undef :: undef :: undef :: undef :: undef :: undef :: undef :: undef :: undef :: undef :: undef :: undef :: undef :: undef :: undef :: undef :: undef :: undef :: undef :: undef :: undef :: undef :: undef :: undef :: undef :: undef :: undef :: undef :: undef :: undef :: undef :: undef :: undef :: undef :: []).toArray, defers := [] } ∧ Hid (Mine X B4 (some ⟨B4, 0, none⟩) n n (covL bs n (P0 bs k)) ∧ Nums X X.heap.size A1 ((osL bs).map Int.ofNat) ∧ Below B4 w3 X))
      (fun a _ => K - (intOf (a.tmps.getD 39 undef)).toNat) ⟨0, _, _, _, _, _, _, _, _, _, _, _, _, _, _, _, _, _, _, _, _, _, _, _, _, _, _, _, _, _, _, _, _, _, _, _, _, _, _, _, _, _, by omega, rfl, Lib.hid ⟨HM5.out, N5.out, K5.out⟩⟩ ?_
    rintro a X ⟨k, u7, u9, u40, u41, u42, u43, u44, u45, u46, u47, u48, u49, u50, u51, u52, u53, u54, u55, u56, u57, u58, u59, u60, u61, u62, u63, u64, u65, u66, u67, u68, u69, u70, u71, u72, u73, u74, u75, u76, u77, u78, hk, rfl, H⟩
    have VX := Lib.hid (L3.out.trans (H.out.2.2.mono (by omega)))
    have tc := (H.out.2.2.cell (p := ⟨w1.heap.size, 0, none⟩) (by show w1.heap.size < _; omega)).trans BT3.out.cell
    rcases Nat.lt_or_ge k K with h | h
    · generalize hQQ : Exit.then _ _ = QQ
      have hki : (k : Int) < (K : Int) := by omega
      have hk0 : ¬ (k : Int) < 0 := by omega
      have hwk : IntKind.i64.wrap ((k : Int) + 1) = (k : Int) + 1 := IntWalk.i64_in _ (by omega)
      obtain ⟨y, hy⟩ : ∃ y, (osL bs)[k]? = some y := ⟨_, List.getElem?_eq_getElem (by rw [HK.out]; exact h)⟩
      have hym := List.mem_of_getElem? hy
      have hyn := ((os_mem bs y).1 hym).1
      obtain ⟨M, hM⟩ : ∃ M, (msL bs y).length = M := ⟨_, rfl⟩
      have hMn : M ≤ n := by have := ms_len (bs := bs) hyn; have := HN.out; omega
      obtain ⟨ad1, rfl, hadl, hcx⟩ := H.out.2.1 k (by rw [List.length_map, HK.out]; exact h)
      have e1 : ((osL bs).map Int.ofNat).getD k 0 = (y : Int) := by simp [List.getD, hy]
      rw [e1] at hcx
      have HMem := Lib.hid ((hW.members X p bs (y : Int) (hT.keep _ _ _ _ HT1.out VX.out)).mono (R' := fun r w' => ∃ A2 c2, r = .returned (.slice A2 M c2) ∧ Nums w' w'.heap.size A2 ((msL bs y).map Int.ofNat) ∧ (0 < M → ∀ ad, A2 = some ad → X.heap.size ≤ ad.block) ∧ Below X.heap.size X w') (by
        rintro r w' ⟨v, rfl, ⟨A2, c2, rfl, h1, h2⟩, h3⟩
        rw [memT_ms hym] at h1 h2 ⊢
        refine ⟨A2, c2, by rw [List.length_map, hM], h1, fun h0 => h2 (fun e => ?_), h3⟩
        have := congrArg List.length e
        rw [List.length_map, hM] at this
        simp at this
        omega))
      have HY := Lib.hid hy
      have HM' := Lib.hid hM
      have hBX := (H.out.1.lt B4 rfl).2
      clear hy hym hyn hM e1 hadl
      gi_wp2_with (first
        | (refine ⟨trivial, ?_⟩; gi_at_call 16; refine (callsIn_wide.2 HMem.out).mono ?_; rintro e w7 ⟨A2, c2, rfl, h1, h2, k7⟩; have N7 := Lib.hid h1; have F7 := Lib.hid h2; have HM7 := Lib.hid (H.out.1.below k7); have NA7 := Lib.hid (H.out.2.1.thru k7); have K7 := Lib.hid (H.out.2.2.trans (k7.mono (by have := H.out.2.2.size; omega))); clear h1 h2 k7))
      have FB := Lib.hid (fun (h0 : 0 < ((msL bs y).map Int.ofNat).length) ad (e : A2 = some ad) => (show ad.block ≠ B4 by have := F7.out (by rw [List.length_map, HM'.out] at h0; exact h0) ad e; omega))
      clear tc hcx F7 HMem VX H
      rw [covL_congr (n := n) (fun x _ => (P1_zero bs k y x).symm)] at HM7
      refine wpIn_loop (fun a Z => ∃ (j : Nat) (v9 v48 v49 v50 v51 v52 v53 v54 v55 v56 v57 v58 v59 v60 v61 v62 v63 v64 v65 v66 v67 v68 v69 v70 v71 v72 v73 v74 v75 v76 v77 v78 : Value), j ≤ M ∧ a = { tmps := (Value.slice A n c :: undef :: Value.pointer (some ⟨w.heap.size, 0, none⟩) :: Value.pointer (some ⟨w1.heap.size, 0, none⟩) :: Value.slice (some ⟨B4, 0, none⟩) n n :: u5 :: undef :: Value.int IntKind.i64 (y : Int) :: undef :: v9 :: undef :: undef :: undef :: undef :: undef :: Value.slice A n c :: Value.pointer (some p) :: Value.bool true :: Value.bool false :: Value.bool false :: Value.pointer (some p) :: Value.bool false :: Value.bool false :: undef :: Value.pointer (some p) :: Value.int IntKind.i64 (n : Int) :: Value.slice (some ⟨B4, 0, none⟩) n n :: Value.slice (some ⟨B4, 0, none⟩) n n :: Value.int IntKind.i64 (n : Int) :: Value.int IntKind.i64 (n : Int) :: Value.bool false :: u31 :: u32 :: u33 :: u34 :: u35 :: Value.pointer (some p) :: Value.slice (some ad1) K c1 :: Value.int IntKind.i64 (K : Int) :: Value.int IntKind.i64 (k : Int) :: Value.bool true :: Value.pointer (some (ad1.add k)) :: Value.int IntKind.i64 (y : Int) :: Value.pointer (some p) :: Value.int IntKind.i64 (y : Int) :: Value.slice A2 M c2 :: Value.int IntKind.i64 (M : Int) :: Value.int IntKind.i64 (j : Int) :: v48 :: v49 :: v50 :: v51 :: v52 :: v53 :: v54 :: v55 :: v56 :: v57 :: v58 :: v59 :: v60 :: v61 :: v62 :: v63 :: v64 :: v65 :: v66 :: v67 :: v68 :: v69 :: v70 :: v71 :: v72 :: v73 :: v74 :: v75 :: v76 :: v77 :: v78 :: undef :: undef :: undef :: undef :: undef :: undef :: undef :: undef :: undef :: undef :: undef :: undef :: undef :: undef :: undef :: undef :: undef :: undef :: undef :: undef :: undef :: undef :: undef :: undef :: undef :: undef :: undef :: undef :: undef :: undef :: undef :: undef :: undef :: undef :: undef :: undef :: undef :: undef :: undef :: undef :: undef :: undef :: undef :: undef :: undef :: undef :: undef :: undef :: undef :: undef :: undef :: undef :: undef :: undef :: undef :: undef :: undef :: undef :: undef :: undef :: undef :: undef :: undef :: undef :: undef :: undef :: undef :: undef :: undef :: undef :: undef :: undef :: undef :: undef :: undef :: undef :: undef :: undef :: undef :: undef :: undef :: undef :: undef :: undef :: []).toArray, defers := [] } ∧ Hid (Mine Z B4 (some ⟨B4, 0, none⟩) n n (covL bs n (P1 bs k y j)) ∧ Nums Z Z.heap.size (some ad1) ((osL bs).map Int.ofNat) ∧ Nums Z Z.heap.size A2 ((msL bs y).map Int.ofNat) ∧ Below B4 w3 Z))
        (fun a _ => M - (intOf (a.tmps.getD 47 undef)).toNat) ⟨0, _, _, _, _, _, _, _, _, _, _, _, _, _, _, _, _, _, _, _, _, _, _, _, _, _, _, _, _, _, _, _, _, by omega, rfl, Lib.hid ⟨HM7.out, NA7.out, N7.out, K7.out⟩⟩ ?_
      rintro a Z ⟨j, v9, v48, v49, v50, v51, v52, v53, v54, v55, v56, v57, v58, v59, v60, v61, v62, v63, v64, v65, v66, v67, v68, v69, v70, v71, v72, v73, v74, v75, v76, v77, v78, hj, rfl, G⟩
      clear HM7 NA7 N7 K7
      rcases Nat.lt_or_ge j M with hjl | hjl
      · generalize hQR : Exit.then _ _ = QR
        have hji : (j : Int) < (M : Int) := by omega
        have hj0 : ¬ (j : Int) < 0 := by omega
        have hwj : IntKind.i64.wrap ((j : Int) + 1) = (j : Int) + 1 := IntWalk.i64_in _ (by omega)
        obtain ⟨i, hi⟩ : ∃ i, (msL bs y)[j]? = some i := ⟨_, List.getElem?_eq_getElem (by rw [HM'.out]; exact hjl)⟩
        obtain ⟨p1, p2, p3, p4, p5, p6⟩ := P1_new HY.out hi
        have hin : i < n := by have := HN.out; omega
        obtain ⟨ad2, rfl, hadl, hcx⟩ := G.out.2.2.1 j (by rw [List.length_map, HM'.out]; exact hjl)
        have e1 : ((msL bs y).map Int.ofNat).getD j 0 = (i : Int) := by simp [List.getD, hi]
        rw [e1] at hcx
        have VZ := Lib.hid (L3.out.trans (G.out.2.2.2.mono (by omega)))
        have tc := (G.out.2.2.2.cell (p := ⟨w1.heap.size, 0, none⟩) (by show w1.heap.size < _; omega)).trans BT3.out.cell
        have hcy : ctxT bs (i : Int) = (y : Int) := by rw [ctxT_nat p2]; exact congrArg Int.ofNat p3
        have HCx := Lib.hid (fun Y (j : Below w1.heap.size w1 Y) => hT.ctx Y p bs (i : Int) (hT.keep _ _ _ _ HT1.out j))
        rw [hcy] at HCx
        have HP := Lib.hid (show P1 bs k y j i = false ∧ P1 bs k y (j + 1) i = true ∧ (∀ x, x ≠ i → P1 bs k y (j + 1) x = P1 bs k y j x) ∧ (ctxB bs i : Int) = (y : Int) from ⟨p4, p5, p6, by rw [p3]⟩)
        have hi1 : (0 : Int) < (i : Int) := by omega
        have hi2 : ¬ (i : Int) ≤ 0 := by omega
        have hi3 : (i : Int) < (n : Int) := by omega
        have hi4 : ¬ (n : Int) ≤ (i : Int) := by omega
        have hi5 : ¬ (i : Int) < 0 := by omega
        obtain ⟨g0, eg, -, -, hcell⟩ := Mine.cell G.out.1 i (by rw [covL_len]; exact hin)
        injection eg with eg
        injection eg with eg _ _
        subst eg
        rw [covL_get hin, HP.out.1, add0] at hcell
        have hc0 : Z.cell? ⟨B4, i, none⟩ = some (.int .i64 (-1)) := hcell
        clear hi p1 p2 p3 p4 p5 p6 e1 hcy hcell hadl
        gi_wp2_with (first
          | (refine ⟨trivial, ?_⟩; gi_at_call 18; refine (callsIn_wide.2 (HLen.out _ VZ.out)).mono ?_; rintro e w8 ⟨rfl, k8⟩; have V8 := Lib.hid (thru VZ.out k8); have c8 := (k8.cell (p := ⟨B4, i, none⟩) (block_lt_of_cell hc0)).trans hc0; have t8 := (k8.cell (p := ⟨w1.heap.size, 0, none⟩) (block_lt_of_cell tc)).trans tc; have K8 := Lib.hid k8; clear k8 hc0 tc)
          | (refine ⟨trivial, ?_⟩; gi_at_call 20; refine (callsIn_wide.2 (HCx.out _ V8.out)).mono ?_; rintro e w9 ⟨rfl, k9⟩; have K9 := Lib.hid (thru K8.out k9); have c9 := (k9.cell (p := ⟨B4, i, none⟩) (block_lt_of_cell c8)).trans c8; obtain ⟨g1, eg, -, -, hfz, hms⟩ := mine_set (G.out.1.below K9.out) i hin (y : Int); injection eg with eg; injection eg with eg _ _; subst eg; rw [add0, covL_set (Q := P1 bs k y (j + 1)) HP.out.2.1 HP.out.2.2.1 HP.out.2.2.2] at hms; have hfy := hfz i; have HMS := Lib.hid hms; clear k9 c8 t8 hfz hms))
        have HNA := Lib.hid (nums_put (G.out.2.1.thru K9.out) ⟨B4, i, none⟩ (.int .i64 (y : Int)) (fun h0 a e => FA.out h0 a e))
        have HNB := Lib.hid (nums_put (G.out.2.2.1.thru K9.out) ⟨B4, i, none⟩ (.int .i64 (y : Int)) (fun h0 a e => FB.out h0 a e))
        have HBE := Lib.hid ((G.out.2.2.2.trans (K9.out.mono (by have := G.out.2.2.2.size; omega))).setCell (p := ⟨B4, i, none⟩) (Nat.le_refl _) (.int .i64 (y : Int)))
        rw [← hQR]
        refine ⟨⟨j + 1, _, _, _, _, _, _, _, _, _, _, _, _, _, _, _, _, _, _, _, _, _, _, _, _, _, _, _, _, _, _, _, _, by omega, by push_cast; rfl, Lib.hid ⟨HMS.out, HNA.out, HNB.out, HBE.out⟩⟩, ?_⟩
        first | (simp [intOf]; omega) | simp [intOf]
      · have hjm : M = j := by omega
        subst hjm
        have hjj : ¬ (M : Int) < (M : Int) := by omega
        have HMA : Hid (Mine Z B4 (some ⟨B4, 0, none⟩) n n (covL bs n (P0 bs (k + 1)))) := Lib.hid (by
          rw [← covL_congr (n := n) (fun x hx => P1_all HS.out HY.out x (by have := HN.out; omega)), HM'.out]
          exact G.out.1)
        gi_wp2_with fail
        rw [← hQQ]
        refine ⟨⟨k + 1, _, _, _, _, _, _, _, _, _, _, _, _, _, _, _, _, _, _, _, _, _, _, _, _, _, _, _, _, _, _, _, _, _, _, _, _, _, _, _, _, _, by omega, by push_cast; rfl, Lib.hid ⟨HMA.out, G.out.2.1, G.out.2.2.2⟩⟩, ?_⟩
        first | (simp [intOf]; omega) | simp [intOf]
    · have hkk2 : K = k := by omega
      subst hkk2
      have hkk : ¬ (K : Int) < (K : Int) := by omega
      have HMF : Hid (Mine X B4 (some ⟨B4, 0, none⟩) n n (covL bs n (fun x => decide (0 < x)))) := Lib.hid (by
        rw [← covL_congr (n := n) (fun x hx => P0_all HS.out HF0.out x (by have := HN.out; omega)), HK.out]
        exact H.out.1)
      have LX := Lib.hid H.out.2.2
      have BTX : Hid (Boxed X w1.heap.size 23 (.pointer (some p))) := Lib.hid ((H.out.2.2.block w1.heap.size (by omega)).trans BT3.out)
      have BRX : Hid (Boxed X w.heap.size 4 (.bool false)) := Lib.hid ((H.out.2.2.block w.heap.size (by omega)).trans BR3.out)
      have hBX := (H.out.1.lt B4 rfl).2
      clear H tc HM5 N5 K5
      gi_upto_region 23 with fail
      obtain ⟨b11, hb11⟩ : ∃ b, X.heap.size + 1 = b := ⟨_, rfl⟩
      rw [hb11]
      generalize hW3 : X.alloc (.cells #[.slice none 0 0] 38) = W3
      have hk3 : Below X.heap.size X W3 := by rw [← hW3]; exact ba1 _ _
      have hb3 : Boxed W3 X.heap.size 38 (.slice none 0 0) := by rw [← hW3]; exact Boxed.new _ _ _
      have hz3 : W3.heap.size = b11 := by rw [← hW3, ← hb11]; simp
      generalize hW5 : W3.alloc (.cells #[.int .i64 0] 3) = W5
      have hk5 : Below W3.heap.size W3 W5 := by rw [← hW5]; exact ba1 _ _
      have ho5 : Boxed W5 X.heap.size 38 (.slice none 0 0) := by rw [← hW5]; exact hb3.alloc _
      have hn5 : Boxed W5 b11 3 (.int .i64 0) := by rw [← hW5, ← hz3]; exact Boxed.new _ _ _
      have hz5 : b11 < W5.heap.size := by rw [← hW5, ← hz3]; simp
      have hk35 := thru hk3 hk5
      have L5 := Lib.hid (thru VX.out hk35)
      have hm5 := HMF.out.below hk35
      have ht5 := BTX.out.kept (grown_of_below hk35) (by simp)
      have hr5 := BRX.out.kept (grown_of_below hk35) (by simp)
      have tc := ht5.cell
      clear hW3 hW5 hz3 hk3 hk5 hb3 hk35
      have HA := Lib.hid (hW.all w1 p bs W5 HT1.out L5.out)
      gi_wp2_with (first
        | (refine ⟨trivial, ?_⟩; gi_at_call 12; refine (callsIn_wide.2 HA.out).mono ?_; rintro e w6 ⟨⟨f, lb, rfl, heg, hseq⟩, k6⟩))
      have hs6 := k6.size
      have hg6 := grown_of_below k6
      have BO6 := Lib.hid (ho5.kept hg6 (by simp))
      have BN6 := Lib.hid (hn5.kept hg6 (by simp))
      have BT6 := Lib.hid (ht5.kept hg6 (by simp))
      have BR6 := Lib.hid (hr5.kept hg6 (by simp))
      have HMF6 := Lib.hid (hm5.below k6)
      have V6 := Lib.hid (thru L5.out k6)
      have hq6 := hseq (some X.heap.size) w6 (Below.refl _ _) (fun x e => by injection e with e; omega) (fun k h => by rw [owns_is BO6.out.cell] at h; cases h) 5 (by omega)
      have hel : (evAll bs).length ≤ 200 := by
        have := wlk_len (dOf bs) (oOf bs) bs.length true (bs.length + 1) 0 bs.length (by omega) (nested_all _ _ _)
        have := HN.out
        unfold evAll
        omega
      clear hseq ho5 hn5 ht5 hr5 hm5 HA k6 hg6 tc
      have hXb : X.heap.size < b11 := by omega
      refine wpIn_rangeFunc_ownH hro (by omega) (gf := f) (lb := lb) rfl trivial heg hq6
        (fun h k => h.trans k) (fun W l o o' h1 h2 h3 h4 => StayB.put (N := w6.heap.size) (by omega) (Nat.le_refl _) (fun x e => by injection e with e; omega) W l o o' h1 h2 h3 h4) (Below.refl _ _) (fun _ => rfl)
        (fun pre V => ((∃ v, Boxed V X.heap.size 38 v ∧ V.ownsRow w6.heap.size 3 1 v (stkAt ([], 0) pre).1.length (((stkAt ([], 0) pre).1.map Int.ofNat).map (Value.int .i64)) ∧ True) ∧ Boxed V b11 3 (.int .i64 ((stkAt ([], 0) pre).2 : Int))) ∧ ButTwo X.heap.size b11 w6 V)
        (fun _ pre _ => pre <+: evAll bs → False)
        (OwnFrom.and (OwnFrom.and (Own.from (holdsRow_own w6.heap.size X.heap.size 38 3 1 (fun pre : List Ev => (stkAt ([], 0) pre).1.length) (fun pre : List Ev => ((stkAt ([], 0) pre).1.map Int.ofNat).map (Value.int .i64)) (fun _ _ => True)) _) (Own.from (boxed_own _ _ _) _)) (ownFrom_butTwo (by omega) (Nat.le_refl _)))
        (fun _ => pure_own _)
        ⟨⟨⟨_, BO6.out, World.ownsRow_nil _ _ _ _, trivial⟩, BN6.out⟩, ButTwo.refl _ _ _⟩
        (fun x => VarW (fun b5 => { tmps := (Value.slice A n c :: undef :: Value.pointer (some ⟨w.heap.size, 0, none⟩) :: Value.pointer (some ⟨w1.heap.size, 0, none⟩) :: Value.slice (some ⟨B4, 0, none⟩) n n :: u5 :: undef :: u7 :: undef :: u9 :: Value.pointer (some ⟨X.heap.size, 0, none⟩) :: Value.pointer (some ⟨b11, 0, none⟩) :: .pointer (some ⟨b5, 0, none⟩) :: undef :: undef :: Value.slice A n c :: Value.pointer (some p) :: Value.bool true :: Value.bool false :: Value.bool false :: Value.pointer (some p) :: Value.bool false :: Value.bool false :: undef :: Value.pointer (some p) :: Value.int IntKind.i64 (n : Int) :: Value.slice (some ⟨B4, 0, none⟩) n n :: Value.slice (some ⟨B4, 0, none⟩) n n :: Value.int IntKind.i64 (n : Int) :: Value.int IntKind.i64 (n : Int) :: Value.bool false :: u31 :: u32 :: u33 :: u34 :: u35 :: Value.pointer (some p) :: Value.slice A1 K c1 :: Value.int IntKind.i64 (K : Int) :: Value.int IntKind.i64 (K : Int) :: Value.bool false :: u41 :: u42 :: u43 :: u44 :: u45 :: u46 :: u47 :: u48 :: u49 :: u50 :: u51 :: u52 :: u53 :: u54 :: u55 :: u56 :: u57 :: u58 :: u59 :: u60 :: u61 :: u62 :: u63 :: u64 :: u65 :: u66 :: u67 :: u68 :: u69 :: u70 :: u71 :: u72 :: u73 :: u74 :: u75 :: u76 :: u77 :: u78 :: Value.pointer (some p) :: Value.func (Fn.func f) #[] lb :: x.v :: undef :: undef :: undef :: undef :: undef :: undef :: undef :: undef :: undef :: undef :: undef :: undef :: undef :: undef :: undef :: undef :: undef :: undef :: undef :: undef :: undef :: undef :: undef :: undef :: undef :: undef :: undef :: undef :: undef :: undef :: undef :: undef :: undef :: undef :: undef :: undef :: undef :: undef :: undef :: undef :: undef :: undef :: undef :: undef :: undef :: undef :: undef :: undef :: undef :: undef :: undef :: undef :: undef :: undef :: undef :: undef :: undef :: undef :: undef :: undef :: undef :: undef :: undef :: undef :: undef :: undef :: undef :: undef :: undef :: undef :: undef :: undef :: undef :: undef :: undef :: undef :: undef :: undef :: undef :: undef :: undef :: []).toArray, defers := [] }) x) (fun x a' => varW_own _ x a' _) ?assign ?body ?done ?stop
      case assign =>
        intro l pre x V KK hI hKK
        obtain ⟨⟨⟨v, i1, i2, -⟩, i3⟩, i4⟩ := hI
        have HKK := Lib.hid hKK
        clear hKK
        simp only [encW]
        gi_wp2_with fail
        have hk := ba1 V (.cells #[.int .i64 x.a, .bool x.l] 32)
        have hg := grown_of_below hk
        have hwl := i4.low.size
        exact HKK.out _ _ (below_keeps hk) (StayB.of_below hk (by omega) (by omega) (Nat.le_refl _) (fun y e => by injection e with e; omega)) ⟨⟨⟨v, i1.kept hg (by simp), World.ownsRow.alloc i2 _, trivial⟩, i3.kept hg (by simp)⟩, i4.trans (ButTwo.of_below hk (by omega))⟩ ⟨V.heap.size, rfl, heap_alloc_new V _⟩
      case body =>
        rintro l0 pre x a' V hl - ⟨⟨⟨v, i1, i2, -⟩, i3⟩, i4⟩ ⟨b5, rfl, h5⟩ hlt
        obtain ⟨A6, c6, rfl⟩ := shapeE i2
        have hx0 : V.cell? ⟨b5, 0, none⟩ = some (.int .i64 x.a) := by rw [cell_of_row V b5 0 _ _ _ h5]; rfl
        have hx1 : V.cell? ⟨b5, 1, none⟩ = some (.bool x.l) := by rw [cell_of_row V b5 1 _ _ _ h5]; rfl
        obtain ⟨⟨st, q⟩, hsq⟩ : ∃ s, stkAt ([], 0) pre = s := ⟨_, rfl⟩
        have hsb := stk_le pre
        have hlt2 : pre.length < (evAll bs).length := hlt
        rw [hsq] at i1 i2 i3 hsb
        dsimp only at i1 i2 i3 hsb
        obtain ⟨l, hl6⟩ : ∃ l, st.length = l := ⟨_, rfl⟩
        rw [hl6] at i1 i2 hsb
        have hm : Mine V w6.heap.size A6 l c6 (st.map Int.ofNat) := i2
        have hq0 : q ≤ 200 := by omega
        have hl200 : l ≤ 200 := by omega
        have HSQ := Lib.hid hsq
        have HO := Lib.hid i1
        have HM := Lib.hid hm
        have HNX := Lib.hid i3
        have HV := Lib.hid i4
        have HLl := Lib.hid hl6
        have hvl := i4.low.size
        have oc := i1.cell
        have nc := i3.cell
        have tc := (i4.box (by omega) (by omega) (by omega) BT6.out).cell
        have VB := Lib.hid (V6.out.trans (i4.low.mono (by omega)))
        have h5a : b5 ≠ b11 := by
          rintro rfl
          have h9 : V.heap[b5]? = _ := HNX.out
          rw [h9] at h5
          simp at h5
        have h5b : b5 ≠ X.heap.size := by
          rintro rfl
          have h9 : V.heap[X.heap.size]? = _ := HO.out
          rw [h9] at h5
          simp at h5
        obtain ⟨xa, xl⟩ := x
        clear i1 i2 i3 i4 hm hl6 h5 hlt hsb hlt2 hsq
        dsimp only at hx0 hx1 ⊢
        have HPx := Lib.hid (fun Y (j : Below w1.heap.size w1 Y) => hT.parent Y p bs xa (hT.keep _ _ _ _ HT1.out j))
        have HEx := Lib.hid (fun Y (j : Below w1.heap.size w1 Y) => hT.en Y p bs xa (hT.keep _ _ _ _ HT1.out j))
        obtain ⟨xp, hxp⟩ : ∃ xp, parT bs xa = xp := ⟨_, rfl⟩
        obtain ⟨xe, hxe⟩ : ∃ xe, enT bs xa = xe := ⟨_, rfl⟩
        rw [hxp] at HPx
        rw [hxe] at HEx
        have HXP := Lib.hid hxp
        have HXE := Lib.hid hxe
        clear hxp hxe
        cases xl
        · by_cases c1 : xa = (q : Int)
          · have C1 := Lib.hid c1
            have hne : (xa != (q : Int)) = false := by simp [c1]
            clear c1
            rcases Nat.eq_zero_or_pos l with hz | hz
            · subst hz
              gi_upto_region 26 with fail
              refine wpIn_region_hold2 [.val (.pointer (some ⟨b5, 0, none⟩)), .val (.int .i64 xa), .val (.int .i64 (q : Int)), .val (.bool false), .val (.bool false), .val (.slice A6 0 c6), .val (.int .i64 0), .val (.bool false), .val (.bool false), .skip, .skip, .skip, .skip, .skip, .skip, .skip, .skip, .skip, .skip, .skip, .val (.bool false)] (by kernel_rfl) (by kernel_rfl) (by kernel_rfl) ?_ ?_
              · simp only [Hold.fill, Hold.Leave.value]
                refine ⟨?_, ?_, ?_, ?_, ?_, ?_, ?_, ?_, ?_, ?_, ?_, ?_, ?_, ?_, ?_, ?_, ?_, ?_, ?_, ?_, ?_, trivial⟩
                · intro gg w' hw hk
                  go_simp
                  exact ⟨rfl, rfl⟩
                · intro gg w' hw hk
                  have q0 := (hw.cell (p := ⟨b5, 0, none⟩) (block_lt_of_cell hx0)).trans hx0
                  go_simp
                  exact ⟨rfl, rfl⟩
                · intro gg w' hw hk
                  have q0 := (hw.cell (p := ⟨b11, 0, none⟩) (block_lt_of_cell nc)).trans nc
                  go_simp
                  exact ⟨rfl, rfl⟩
                · intro gg w' hw hk
                  go_simp
                  exact ⟨rfl, rfl⟩
                · intro gg w' hw hk
                  go_simp
                  exact ⟨rfl, rfl⟩
                · intro gg w' hw hk
                  have q0 := (hw.cell (p := ⟨X.heap.size, 0, none⟩) (block_lt_of_cell oc)).trans oc
                  go_simp
                  exact ⟨rfl, rfl⟩
                · intro gg w' hw hk
                  go_simp
                  exact ⟨rfl, rfl⟩
                · intro gg w' hw hk
                  go_simp
                  exact ⟨rfl, rfl⟩
                · intro gg w' hw hk
                  go_simp
                  exact ⟨rfl, rfl⟩
                · trivial
                · trivial
                · trivial
                · trivial
                · trivial
                · trivial
                · trivial
                · trivial
                · trivial
                · trivial
                · trivial
                · intro gg w' hw hk
                  go_simp
                  exact ⟨rfl, rfl⟩
              · intro gg W2 qq hgg
                clear hgg
                simp only [Hold.fill, Hold.Leave.value, List.length_cons, List.length_nil, Nat.reduceAdd, Nat.reduceSub]
                refine wpAnyIn_ready (rs := [21]) (by kernel_rfl) (by simp) ?_
                refine AllReadyIn.cons rfl (fun K hK => ?_) AllReadyIn.nil
                go_simp
                refine hK _ _ ?_
                clear hK K
                refine wpAnyIn_done (by kernel_rfl) ?_ _
                have hx2 := (qq.cell (p := ⟨b5, 0, none⟩) (block_lt_of_cell hx0)).trans hx0
                have hgq := grown_of_below qq
                have o2 := HO.out.kept hgq (by simp)
                have n2 := HNX.out.kept hgq (by simp)
                have m2 : Mine W2 w6.heap.size A6 0 c6 (st.map Int.ofNat) := HM.out.kept hgq (fun _ _ e => by cases e)
                have b2 := HV.out.trans (ButTwo.of_below qq (by omega))
                have r2 := b2.box (by omega) (by omega) (by omega) BR6.out
                have hq2 := qq.size
                clear hx0 hx1 nc oc tc
                have hwq : IntKind.i64.wrap ((q : Int) + 1) = (q : Int) + 1 := IntWalk.i64_in _ (by omega)
                have nc2 := n2.cell
                have nf2 := n2.frozen
                gi_upto_region 29 with fail
                have n3 := n2.set (.int .i64 ((q : Int) + 1))
                have o3 := o2.other (B' := b11) (by omega) (.int .i64 ((q : Int) + 1))
                have m3 : Mine (W2.setCell ⟨b11, 0, none⟩ (.int .i64 ((q : Int) + 1))) w6.heap.size A6 0 c6 (st.map Int.ofNat) := m2.kept (grownBy_setCell' W2 b11 _) (fun g e e2 => by have := (m2.lt g e).1; injection e2 with e2; omega)
                have b3 := b2.set (k := b11) (.inr rfl) (by omega) (.int .i64 ((q : Int) + 1))
                have s3 := (StayB.of_below (B := some X.heap.size) (s1 := w1.heap.size) (a := W5.heap.size) (b0 := w6.heap.size) (b := w6.heap.size) qq (by omega) (by omega) (Nat.le_refl _) (fun y e => by injection e with e; omega)).trans (StayB.other (W := W2) (.int .i64 ((q : Int) + 1)) (s1 := w1.heap.size) (a := W5.heap.size) (b := w6.heap.size) (d := w6.heap.size) (show w1.heap.size ≤ b11 by omega) (by omega) (by omega) (by omega))
                have x3 := (World.cell?_of_block (w := W2) (a := ⟨b5, 0, none⟩) (heap_setCell_other W2 ⟨b11, 0, none⟩ b5 (.int .i64 ((q : Int) + 1)) h5a)).trans hx2
                have k3 : KeepsFrom w6.heap.size V (W2.setCell ⟨b11, 0, none⟩ (.int .i64 ((q : Int) + 1))) := (below_keeps qq).trans ((KeepsOthers.setCell _ _ _).from _)
                have z3 : (W2.setCell ⟨b11, 0, none⟩ (.int .i64 ((q : Int) + 1))).heap.size = W2.heap.size := by simp [World.setCell]
                generalize W2.setCell ⟨b11, 0, none⟩ (.int .i64 ((q : Int) + 1)) = W3 at n3 o3 m3 b3 s3 x3 k3 z3 ⊢
                have HO3 := Lib.hid o3
                have HM3 := Lib.hid m3
                have HN3 := Lib.hid n3
                have HB3 := Lib.hid b3
                have HS3 := Lib.hid s3
                have HK3 := Lib.hid k3
                have oc3 := o3.cell
                have hbz : w6.heap.size ≤ W3.heap.size := b3.low.size
                clear n3 o3 m3 b3 s3 k3 nc2 nf2 hx2 o2 n2 m2 b2 r2 z3
                gi_wp2_with (first
                  | (gi_at_builtin; refine wpListIn_append_mine _ rfl (.tmp 109) (.tmp 112) rfl w6.heap.size A6 0 c6 (st.map Int.ofNat) rfl (HM3.out.alloc _) (some ⟨W3.heap.size, 0, none⟩) 1 1 [xa] rfl (one_src W3 xa) (by omega) (by simp; omega) ?_; intro A7 c7 W7 h1; have HAP := Lib.hid h1; obtain ⟨y1, y2, y3, y4⟩ := StayB.more (s1 := w1.heap.size) (a := W5.heap.size) (b := w6.heap.size) (d := w6.heap.size) HO3.out HM3.out (by omega) (by omega) (.inl (by omega)) (by omega) (by omega) (Nat.le_refl _) h1; obtain ⟨z1, z2⟩ := more_keeps (s1 := X.heap.size) (by decide) HO3.out HM3.out (Nat.le_refl _) (by omega) h1; have Y1 := Lib.hid y1; have Y3 := Lib.hid y3; have Y4 := Lib.hid y4; have Z1 := Lib.hid z1; have Z2 := Lib.hid z2; have hc1 := y2.cell; have hf1 := y2.frozen; clear h1 y1 y2 y3 y4 z1 z2))
                have hst : stkAt ([], 0) (pre ++ [(⟨xa, false⟩ : Ev)]) = (st ++ [q], q + 1) := by rw [stkAt_next, HSQ.out]; simp [stk, C1.out]
                have hrest := more_rest HM3.out HAP.out
                have hsx : ∀ j, j ≠ X.heap.size → (W7.setCell ⟨X.heap.size, 0, none⟩ (.slice A7 (0 + 1) c7)).heap[j]? = W7.heap[j]? := fun j hj => heap_setCell_other W7 ⟨X.heap.size, 0, none⟩ j _ hj
                refine ⟨HK3.out.trans (Z1.out.from _), HS3.out.trans Y1.out, ⟨⟨⟨_, Y3.out, ?_⟩, ?_⟩, ⟨HB3.out.low.trans Z2.out, fun i h1 h2 h3 => (hsx i h2).trans ((hrest i (by omega) h1).trans (HB3.out.rest i h1 h2 h3))⟩⟩⟩
                · first | refine ⟨?_, trivial⟩ | skip
                  rw [hst]
                  try rw [← List.map_map]
                  have hm7 := Y4.out
                  have hl7 : (st ++ [q]).length = 0 + 1 := by rw [List.length_append, HLl.out]; rfl
                  show World.ownsRow _ _ _ _ _ (st ++ [q]).length (((st ++ [q]).map Int.ofNat).map (Value.int .i64))
                  rw [hl7, List.map_append, show [q].map Int.ofNat = [xa] by rw [C1.out]; rfl]
                  exact hm7
                · rw [hst]
                  have hn7 : Boxed W3 b11 3 (.int .i64 ((q : Int) + 1)) := HN3.out
                  exact ((hsx b11 (by omega)).trans (hrest b11 (by omega) (by omega))).trans hn7
            · obtain ⟨m, hm1⟩ : ∃ m, l - 1 = m := ⟨_, rfl⟩
              have hlm : IntKind.i64.wrap ((l : Int) - 1) = (m : Int) := by rw [IntWalk.i64_in _ (by omega)]; omega
              have hmi : (m : Int) < (l : Int) := by omega
              have hm0 : ¬ (m : Int) < 0 := by omega
              have hl0 : (0 : Int) < (l : Int) := by omega
              have hle : ((l : Int) == 0) = false := by rw [beq_eq_false_iff_ne]; omega
              obtain ⟨e, he⟩ : ∃ e, st.getLast? = some e := last_some (by rw [HLl.out]; exact hz)
              obtain ⟨g, eA, -, -, hlc⟩ := Mine.cell HM.out m (by rw [List.length_map, HLl.out]; omega)
              obtain ⟨ad, had⟩ : ∃ ad : Addr, ad = ⟨g, 0, none⟩ := ⟨_, rfl⟩
              rw [← had] at eA hlc
              subst eA
              rw [last_at (m := m) (by rw [HLl.out]; omega) he] at hlc
              have hcap : l ≤ c6 := mine_cap HM.out
              have lc : V.cell? (ad.add m) = some (.int .i64 (e : Int)) := hlc
              have HE := Lib.hid he
              have HLM := Lib.hid (show l = m + 1 by omega)
              clear hlc had hm1 he
              by_cases c2 : xp = (e : Int)
              · have hpe : (xp != (e : Int)) = false := by simp [c2]
                clear c2
                gi_upto_region 26 with fail
                refine wpIn_region_hold2 [.val (.pointer (some ⟨b5, 0, none⟩)), .val (.int .i64 xa), .val (.int .i64 (q : Int)), .val (.bool false), .val (.bool false), .val (.slice (some ad) l c6), .val (.int .i64 (l : Int)), .val (.bool true), .val (.bool true), .val (.pointer (some p)), .val (.pointer (some ⟨b5, 0, none⟩)), .val (.int .i64 xa), .val (.int .i64 xp), .val (.slice (some ad) l c6), .val (.slice (some ad) l c6), .val (.int .i64 (l : Int)), .val (.int .i64 (m : Int)), .val (.pointer (some (ad.add m))), .val (.int .i64 (e : Int)), .val (.bool false), .val (.bool false)] (by kernel_rfl) (by kernel_rfl) (by kernel_rfl) ?_ ?_
                · simp only [Hold.fill, Hold.Leave.value]
                  refine ⟨?_, ?_, ?_, ?_, ?_, ?_, ?_, ?_, ?_, ?_, ?_, ?_, ?_, ?_, ?_, ?_, ?_, ?_, ?_, ?_, ?_, trivial⟩
                  · intro gg w' hw hk
                    go_simp
                    exact ⟨rfl, rfl⟩
                  · intro gg w' hw hk
                    have q0 := (hw.cell (p := ⟨b5, 0, none⟩) (block_lt_of_cell hx0)).trans hx0
                    go_simp
                    exact ⟨rfl, rfl⟩
                  · intro gg w' hw hk
                    have q0 := (hw.cell (p := ⟨b11, 0, none⟩) (block_lt_of_cell nc)).trans nc
                    go_simp
                    exact ⟨rfl, rfl⟩
                  · intro gg w' hw hk
                    go_simp
                    exact ⟨rfl, rfl⟩
                  · intro gg w' hw hk
                    go_simp
                    exact ⟨rfl, rfl⟩
                  · intro gg w' hw hk
                    have q0 := (hw.cell (p := ⟨X.heap.size, 0, none⟩) (block_lt_of_cell oc)).trans oc
                    go_simp
                    exact ⟨rfl, rfl⟩
                  · intro gg w' hw hk
                    go_simp
                    exact ⟨rfl, rfl⟩
                  · intro gg w' hw hk
                    go_simp
                    exact ⟨rfl, rfl⟩
                  · intro gg w' hw hk
                    go_simp
                    exact ⟨rfl, rfl⟩
                  · intro gg w' hw hk
                    have q0 := (hw.cell (p := ⟨w1.heap.size, 0, none⟩) (block_lt_of_cell tc)).trans tc
                    go_simp
                    exact ⟨rfl, rfl⟩
                  · intro gg w' hw hk
                    go_simp
                    exact ⟨rfl, rfl⟩
                  · intro gg w' hw hk
                    have q0 := (hw.cell (p := ⟨b5, 0, none⟩) (block_lt_of_cell hx0)).trans hx0
                    go_simp
                    exact ⟨rfl, rfl⟩
                  · intro gg w' hw hk
                    go_simp
                    exact Hold.stays_call (HPx.out _ (VB.out.trans (hw.mono VB.out.size)))
                  · intro gg w' hw hk
                    have q0 := (hw.cell (p := ⟨X.heap.size, 0, none⟩) (block_lt_of_cell oc)).trans oc
                    go_simp
                    exact ⟨rfl, rfl⟩
                  · intro gg w' hw hk
                    have q0 := (hw.cell (p := ⟨X.heap.size, 0, none⟩) (block_lt_of_cell oc)).trans oc
                    go_simp
                    exact ⟨rfl, rfl⟩
                  · intro gg w' hw hk
                    go_simp
                    exact ⟨rfl, rfl⟩
                  · intro gg w' hw hk
                    go_simp
                    exact ⟨rfl, rfl⟩
                  · intro gg w' hw hk
                    go_simp
                    exact ⟨rfl, rfl⟩
                  · intro gg w' hw hk
                    have q0 := (hw.cell (p := (ad.add m)) (block_lt_of_cell lc)).trans lc
                    go_simp
                    exact ⟨rfl, rfl⟩
                  · intro gg w' hw hk
                    go_simp
                    exact ⟨rfl, rfl⟩
                  · intro gg w' hw hk
                    go_simp
                    exact ⟨rfl, rfl⟩
                · intro gg W2 qq hgg
                  clear hgg
                  simp only [Hold.fill, Hold.Leave.value, List.length_cons, List.length_nil, Nat.reduceAdd, Nat.reduceSub]
                  refine wpAnyIn_ready (rs := [21]) (by kernel_rfl) (by simp) ?_
                  refine AllReadyIn.cons rfl (fun K hK => ?_) AllReadyIn.nil
                  go_simp
                  refine hK _ _ ?_
                  clear hK K
                  refine wpAnyIn_done (by kernel_rfl) ?_ _
                  have hx2 := (qq.cell (p := ⟨b5, 0, none⟩) (block_lt_of_cell hx0)).trans hx0
                  have hgq := grown_of_below qq
                  have o2 := HO.out.kept hgq (by simp)
                  have n2 := HNX.out.kept hgq (by simp)
                  have m2 : Mine W2 w6.heap.size (some ad) l c6 (st.map Int.ofNat) := HM.out.kept hgq (fun _ _ e => by cases e)
                  have b2 := HV.out.trans (ButTwo.of_below qq (by omega))
                  have r2 := b2.box (by omega) (by omega) (by omega) BR6.out
                  have hq2 := qq.size
                  clear hx0 hx1 nc oc tc
                  have hwq : IntKind.i64.wrap ((q : Int) + 1) = (q : Int) + 1 := IntWalk.i64_in _ (by omega)
                  have nc2 := n2.cell
                  have nf2 := n2.frozen
                  gi_upto_region 29 with fail
                  have n3 := n2.set (.int .i64 ((q : Int) + 1))
                  have o3 := o2.other (B' := b11) (by omega) (.int .i64 ((q : Int) + 1))
                  have m3 : Mine (W2.setCell ⟨b11, 0, none⟩ (.int .i64 ((q : Int) + 1))) w6.heap.size (some ad) l c6 (st.map Int.ofNat) := m2.kept (grownBy_setCell' W2 b11 _) (fun g e e2 => by have := (m2.lt g e).1; injection e2 with e2; omega)
                  have b3 := b2.set (k := b11) (.inr rfl) (by omega) (.int .i64 ((q : Int) + 1))
                  have s3 := (StayB.of_below (B := some X.heap.size) (s1 := w1.heap.size) (a := W5.heap.size) (b0 := w6.heap.size) (b := w6.heap.size) qq (by omega) (by omega) (Nat.le_refl _) (fun y e => by injection e with e; omega)).trans (StayB.other (W := W2) (.int .i64 ((q : Int) + 1)) (s1 := w1.heap.size) (a := W5.heap.size) (b := w6.heap.size) (d := w6.heap.size) (show w1.heap.size ≤ b11 by omega) (by omega) (by omega) (by omega))
                  have x3 := (World.cell?_of_block (w := W2) (a := ⟨b5, 0, none⟩) (heap_setCell_other W2 ⟨b11, 0, none⟩ b5 (.int .i64 ((q : Int) + 1)) h5a)).trans hx2
                  have k3 : KeepsFrom w6.heap.size V (W2.setCell ⟨b11, 0, none⟩ (.int .i64 ((q : Int) + 1))) := (below_keeps qq).trans ((KeepsOthers.setCell _ _ _).from _)
                  have z3 : (W2.setCell ⟨b11, 0, none⟩ (.int .i64 ((q : Int) + 1))).heap.size = W2.heap.size := by simp [World.setCell]
                  generalize W2.setCell ⟨b11, 0, none⟩ (.int .i64 ((q : Int) + 1)) = W3 at n3 o3 m3 b3 s3 x3 k3 z3 ⊢
                  have HO3 := Lib.hid o3
                  have HM3 := Lib.hid m3
                  have HN3 := Lib.hid n3
                  have HB3 := Lib.hid b3
                  have HS3 := Lib.hid s3
                  have HK3 := Lib.hid k3
                  have oc3 := o3.cell
                  have hbz : w6.heap.size ≤ W3.heap.size := b3.low.size
                  clear n3 o3 m3 b3 s3 k3 nc2 nf2 hx2 o2 n2 m2 b2 r2 z3
                  gi_wp2_with (first
                    | (gi_at_builtin; refine wpListIn_append_mine _ rfl (.tmp 109) (.tmp 112) rfl w6.heap.size (some ad) l c6 (st.map Int.ofNat) rfl (HM3.out.alloc _) (some ⟨W3.heap.size, 0, none⟩) 1 1 [xa] rfl (one_src W3 xa) (by omega) (by simp; omega) ?_; intro A7 c7 W7 h1; have HAP := Lib.hid h1; obtain ⟨y1, y2, y3, y4⟩ := StayB.more (s1 := w1.heap.size) (a := W5.heap.size) (b := w6.heap.size) (d := w6.heap.size) HO3.out HM3.out (by omega) (by omega) (.inl (by omega)) (by omega) (by omega) (Nat.le_refl _) h1; obtain ⟨z1, z2⟩ := more_keeps (s1 := X.heap.size) (by decide) HO3.out HM3.out (Nat.le_refl _) (by omega) h1; have Y1 := Lib.hid y1; have Y3 := Lib.hid y3; have Y4 := Lib.hid y4; have Z1 := Lib.hid z1; have Z2 := Lib.hid z2; have hc1 := y2.cell; have hf1 := y2.frozen; clear h1 y1 y2 y3 y4 z1 z2))
                  have hst : stkAt ([], 0) (pre ++ [(⟨xa, false⟩ : Ev)]) = (st ++ [q], q + 1) := by rw [stkAt_next, HSQ.out]; simp [stk, C1.out]
                  have hrest := more_rest HM3.out HAP.out
                  have hsx : ∀ j, j ≠ X.heap.size → (W7.setCell ⟨X.heap.size, 0, none⟩ (.slice A7 (l + 1) c7)).heap[j]? = W7.heap[j]? := fun j hj => heap_setCell_other W7 ⟨X.heap.size, 0, none⟩ j _ hj
                  refine ⟨HK3.out.trans (Z1.out.from _), HS3.out.trans Y1.out, ⟨⟨⟨_, Y3.out, ?_⟩, ?_⟩, ⟨HB3.out.low.trans Z2.out, fun i h1 h2 h3 => (hsx i h2).trans ((hrest i (by omega) h1).trans (HB3.out.rest i h1 h2 h3))⟩⟩⟩
                  · first | refine ⟨?_, trivial⟩ | skip
                    rw [hst]
                    try rw [← List.map_map]
                    have hm7 := Y4.out
                    have hl7 : (st ++ [q]).length = l + 1 := by rw [List.length_append, HLl.out]; rfl
                    show World.ownsRow _ _ _ _ _ (st ++ [q]).length (((st ++ [q]).map Int.ofNat).map (Value.int .i64))
                    rw [hl7, List.map_append, show [q].map Int.ofNat = [xa] by rw [C1.out]; rfl]
                    exact hm7
                  · rw [hst]
                    have hn7 : Boxed W3 b11 3 (.int .i64 ((q : Int) + 1)) := HN3.out
                    exact ((hsx b11 (by omega)).trans (hrest b11 (by omega) (by omega))).trans hn7
              · have hpe : (xp != (e : Int)) = true := by simp [c2]
                have hbad : fits (dOf bs) bs.length (st, q) ⟨xa, false⟩ → False := fun r => c2 (HXP.out.symm.trans ((cov_in r).2 e HE.out))
                have HBad := Lib.hid hbad
                clear c2 hbad
                gi_upto_region 26 with fail
                refine wpIn_region_hold2 [.val (.pointer (some ⟨b5, 0, none⟩)), .val (.int .i64 xa), .val (.int .i64 (q : Int)), .val (.bool false), .val (.bool false), .val (.slice (some ad) l c6), .val (.int .i64 (l : Int)), .val (.bool true), .val (.bool true), .val (.pointer (some p)), .val (.pointer (some ⟨b5, 0, none⟩)), .val (.int .i64 xa), .val (.int .i64 xp), .val (.slice (some ad) l c6), .val (.slice (some ad) l c6), .val (.int .i64 (l : Int)), .val (.int .i64 (m : Int)), .val (.pointer (some (ad.add m))), .val (.int .i64 (e : Int)), .val (.bool true), .val (.bool true)] (by kernel_rfl) (by kernel_rfl) (by kernel_rfl) ?_ ?_
                · simp only [Hold.fill, Hold.Leave.value]
                  refine ⟨?_, ?_, ?_, ?_, ?_, ?_, ?_, ?_, ?_, ?_, ?_, ?_, ?_, ?_, ?_, ?_, ?_, ?_, ?_, ?_, ?_, trivial⟩
                  · intro gg w' hw hk
                    go_simp
                    exact ⟨rfl, rfl⟩
                  · intro gg w' hw hk
                    have q0 := (hw.cell (p := ⟨b5, 0, none⟩) (block_lt_of_cell hx0)).trans hx0
                    go_simp
                    exact ⟨rfl, rfl⟩
                  · intro gg w' hw hk
                    have q0 := (hw.cell (p := ⟨b11, 0, none⟩) (block_lt_of_cell nc)).trans nc
                    go_simp
                    exact ⟨rfl, rfl⟩
                  · intro gg w' hw hk
                    go_simp
                    exact ⟨rfl, rfl⟩
                  · intro gg w' hw hk
                    go_simp
                    exact ⟨rfl, rfl⟩
                  · intro gg w' hw hk
                    have q0 := (hw.cell (p := ⟨X.heap.size, 0, none⟩) (block_lt_of_cell oc)).trans oc
                    go_simp
                    exact ⟨rfl, rfl⟩
                  · intro gg w' hw hk
                    go_simp
                    exact ⟨rfl, rfl⟩
                  · intro gg w' hw hk
                    go_simp
                    exact ⟨rfl, rfl⟩
                  · intro gg w' hw hk
                    go_simp
                    exact ⟨rfl, rfl⟩
                  · intro gg w' hw hk
                    have q0 := (hw.cell (p := ⟨w1.heap.size, 0, none⟩) (block_lt_of_cell tc)).trans tc
                    go_simp
                    exact ⟨rfl, rfl⟩
                  · intro gg w' hw hk
                    go_simp
                    exact ⟨rfl, rfl⟩
                  · intro gg w' hw hk
                    have q0 := (hw.cell (p := ⟨b5, 0, none⟩) (block_lt_of_cell hx0)).trans hx0
                    go_simp
                    exact ⟨rfl, rfl⟩
                  · intro gg w' hw hk
                    go_simp
                    exact Hold.stays_call (HPx.out _ (VB.out.trans (hw.mono VB.out.size)))
                  · intro gg w' hw hk
                    have q0 := (hw.cell (p := ⟨X.heap.size, 0, none⟩) (block_lt_of_cell oc)).trans oc
                    go_simp
                    exact ⟨rfl, rfl⟩
                  · intro gg w' hw hk
                    have q0 := (hw.cell (p := ⟨X.heap.size, 0, none⟩) (block_lt_of_cell oc)).trans oc
                    go_simp
                    exact ⟨rfl, rfl⟩
                  · intro gg w' hw hk
                    go_simp
                    exact ⟨rfl, rfl⟩
                  · intro gg w' hw hk
                    go_simp
                    exact ⟨rfl, rfl⟩
                  · intro gg w' hw hk
                    go_simp
                    exact ⟨rfl, rfl⟩
                  · intro gg w' hw hk
                    have q0 := (hw.cell (p := (ad.add m)) (block_lt_of_cell lc)).trans lc
                    go_simp
                    exact ⟨rfl, rfl⟩
                  · intro gg w' hw hk
                    go_simp
                    exact ⟨rfl, rfl⟩
                  · intro gg w' hw hk
                    go_simp
                    exact ⟨rfl, rfl⟩
                · intro gg W2 qq hgg
                  clear hgg
                  simp only [Hold.fill, Hold.Leave.value, List.length_cons, List.length_nil, Nat.reduceAdd, Nat.reduceSub]
                  refine wpAnyIn_ready (rs := [21]) (by kernel_rfl) (by simp) ?_
                  refine AllReadyIn.cons rfl (fun K hK => ?_) AllReadyIn.nil
                  go_simp
                  refine hK _ _ ?_
                  clear hK K
                  refine wpAnyIn_done (by kernel_rfl) ?_ _
                  have hx2 := (qq.cell (p := ⟨b5, 0, none⟩) (block_lt_of_cell hx0)).trans hx0
                  have hgq := grown_of_below qq
                  have o2 := HO.out.kept hgq (by simp)
                  have n2 := HNX.out.kept hgq (by simp)
                  have m2 : Mine W2 w6.heap.size (some ad) l c6 (st.map Int.ofNat) := HM.out.kept hgq (fun _ _ e => by cases e)
                  have b2 := HV.out.trans (ButTwo.of_below qq (by omega))
                  have r2 := b2.box (by omega) (by omega) (by omega) BR6.out
                  have hq2 := qq.size
                  clear hx0 hx1 nc oc tc
                  have rc := r2.cell
                  have rf := r2.frozen
                  gi_wp2_with fail
                  exact ⟨(below_keeps qq).trans ((KeepsOthers.setCell _ _ _).from _), fun h => HBad.out (by have r := cov_at HS.out h; rw [HSQ.out] at r; exact r)⟩
          · have hne : (xa != (q : Int)) = true := by simp [c1]
            have HBad := Lib.hid (fun (r : fits (dOf bs) bs.length (st, q) ⟨xa, false⟩) => c1 (cov_in r).1)
            clear c1
            gi_upto_region 26 with fail
            refine wpIn_region_hold2 [.val (.pointer (some ⟨b5, 0, none⟩)), .val (.int .i64 xa), .val (.int .i64 (q : Int)), .val (.bool true), .val (.bool true), .skip, .skip, .skip, .skip, .skip, .skip, .skip, .skip, .skip, .skip, .skip, .skip, .skip, .skip, .skip, .skip] (by kernel_rfl) (by kernel_rfl) (by kernel_rfl) ?_ ?_
            · simp only [Hold.fill, Hold.Leave.value]
              refine ⟨?_, ?_, ?_, ?_, ?_, ?_, ?_, ?_, ?_, ?_, ?_, ?_, ?_, ?_, ?_, ?_, ?_, ?_, ?_, ?_, ?_, trivial⟩
              · intro gg w' hw hk
                go_simp
                exact ⟨rfl, rfl⟩
              · intro gg w' hw hk
                have q0 := (hw.cell (p := ⟨b5, 0, none⟩) (block_lt_of_cell hx0)).trans hx0
                go_simp
                exact ⟨rfl, rfl⟩
              · intro gg w' hw hk
                have q0 := (hw.cell (p := ⟨b11, 0, none⟩) (block_lt_of_cell nc)).trans nc
                go_simp
                exact ⟨rfl, rfl⟩
              · intro gg w' hw hk
                go_simp
                exact ⟨rfl, rfl⟩
              · intro gg w' hw hk
                go_simp
                exact ⟨rfl, rfl⟩
              · trivial
              · trivial
              · trivial
              · trivial
              · trivial
              · trivial
              · trivial
              · trivial
              · trivial
              · trivial
              · trivial
              · trivial
              · trivial
              · trivial
              · trivial
              · trivial
            · intro gg W2 qq hgg
              clear hgg
              simp only [Hold.fill, Hold.Leave.value, List.length_cons, List.length_nil, Nat.reduceAdd, Nat.reduceSub]
              refine wpAnyIn_ready (rs := [21]) (by kernel_rfl) (by simp) ?_
              refine AllReadyIn.cons rfl (fun K hK => ?_) AllReadyIn.nil
              go_simp
              refine hK _ _ ?_
              clear hK K
              refine wpAnyIn_done (by kernel_rfl) ?_ _
              have hx2 := (qq.cell (p := ⟨b5, 0, none⟩) (block_lt_of_cell hx0)).trans hx0
              have hgq := grown_of_below qq
              have o2 := HO.out.kept hgq (by simp)
              have n2 := HNX.out.kept hgq (by simp)
              have m2 : Mine W2 w6.heap.size A6 l c6 (st.map Int.ofNat) := HM.out.kept hgq (fun _ _ e => by cases e)
              have b2 := HV.out.trans (ButTwo.of_below qq (by omega))
              have r2 := b2.box (by omega) (by omega) (by omega) BR6.out
              have hq2 := qq.size
              clear hx0 hx1 nc oc tc
              have rc := r2.cell
              have rf := r2.frozen
              gi_wp2_with fail
              exact ⟨(below_keeps qq).trans ((KeepsOthers.setCell _ _ _).from _), fun h => HBad.out (by have r := cov_at HS.out h; rw [HSQ.out] at r; exact r)⟩
        · rcases Nat.eq_zero_or_pos l with hz | hz
          · subst hz
            have HBad := Lib.hid (fun (r : fits (dOf bs) bs.length (st, q) ⟨xa, true⟩) => (show False by
              obtain ⟨⟨e, h1, -⟩, -⟩ := cov_out r
              have h2 := HLl.out
              rw [List.length_eq_zero_iff] at h2
              subst h2
              simp at h1))
            gi_upto_region 30 with fail
            refine wpIn_region_hold2 [.val (.slice A6 0 c6), .val (.int .i64 0), .val (.bool true), .val (.bool true), .skip, .skip, .skip, .skip, .skip, .skip, .skip, .skip, .skip, .val (.bool true), .val (.bool true), .skip, .skip, .skip, .skip, .skip, .skip] (by kernel_rfl) (by kernel_rfl) (by kernel_rfl) ?_ ?_
            · simp only [Hold.fill, Hold.Leave.value]
              refine ⟨?_, ?_, ?_, ?_, ?_, ?_, ?_, ?_, ?_, ?_, ?_, ?_, ?_, ?_, ?_, ?_, ?_, ?_, ?_, ?_, ?_, trivial⟩
              · intro gg w' hw hk
                have q0 := (hw.cell (p := ⟨X.heap.size, 0, none⟩) (block_lt_of_cell oc)).trans oc
                go_simp
                exact ⟨rfl, rfl⟩
              · intro gg w' hw hk
                go_simp
                exact ⟨rfl, rfl⟩
              · intro gg w' hw hk
                go_simp
                exact ⟨rfl, rfl⟩
              · intro gg w' hw hk
                go_simp
                exact ⟨rfl, rfl⟩
              · trivial
              · trivial
              · trivial
              · trivial
              · trivial
              · trivial
              · trivial
              · trivial
              · trivial
              · intro gg w' hw hk
                go_simp
                exact ⟨rfl, rfl⟩
              · intro gg w' hw hk
                go_simp
                exact ⟨rfl, rfl⟩
              · trivial
              · trivial
              · trivial
              · trivial
              · trivial
              · trivial
            · intro gg W2 qq hgg
              clear hgg
              simp only [Hold.fill, Hold.Leave.value, List.length_cons, List.length_nil, Nat.reduceAdd, Nat.reduceSub]
              refine wpAnyIn_ready (rs := [21]) (by kernel_rfl) (by simp) ?_
              refine AllReadyIn.cons rfl (fun K hK => ?_) AllReadyIn.nil
              go_simp
              refine hK _ _ ?_
              clear hK K
              refine wpAnyIn_done (by kernel_rfl) ?_ _
              have hx2 := (qq.cell (p := ⟨b5, 0, none⟩) (block_lt_of_cell hx0)).trans hx0
              have hgq := grown_of_below qq
              have o2 := HO.out.kept hgq (by simp)
              have n2 := HNX.out.kept hgq (by simp)
              have m2 : Mine W2 w6.heap.size A6 0 c6 (st.map Int.ofNat) := HM.out.kept hgq (fun _ _ e => by cases e)
              have b2 := HV.out.trans (ButTwo.of_below qq (by omega))
              have r2 := b2.box (by omega) (by omega) (by omega) BR6.out
              have hq2 := qq.size
              clear hx0 hx1 nc oc tc
              have rc := r2.cell
              have rf := r2.frozen
              gi_wp2_with fail
              exact ⟨(below_keeps qq).trans ((KeepsOthers.setCell _ _ _).from _), fun h => HBad.out (by have r := cov_at HS.out h; rw [HSQ.out] at r; exact r)⟩
          · obtain ⟨m, hm1⟩ : ∃ m, l - 1 = m := ⟨_, rfl⟩
            have hlm : IntKind.i64.wrap ((l : Int) - 1) = (m : Int) := by rw [IntWalk.i64_in _ (by omega)]; omega
            have hmi : (m : Int) < (l : Int) := by omega
            have hm0 : ¬ (m : Int) < 0 := by omega
            have hl0 : (0 : Int) < (l : Int) := by omega
            have hle : ((l : Int) == 0) = false := by rw [beq_eq_false_iff_ne]; omega
            obtain ⟨e, he⟩ : ∃ e, st.getLast? = some e := last_some (by rw [HLl.out]; exact hz)
            obtain ⟨g, eA, -, -, hlc⟩ := Mine.cell HM.out m (by rw [List.length_map, HLl.out]; omega)
            obtain ⟨ad, had⟩ : ∃ ad : Addr, ad = ⟨g, 0, none⟩ := ⟨_, rfl⟩
            rw [← had] at eA hlc
            subst eA
            rw [last_at (m := m) (by rw [HLl.out]; omega) he] at hlc
            have hcap : l ≤ c6 := mine_cap HM.out
            have lc : V.cell? (ad.add m) = some (.int .i64 (e : Int)) := hlc
            have HE := Lib.hid he
            have HLM := Lib.hid (show l = m + 1 by omega)
            clear hlc had hm1 he
            by_cases c1 : (e : Int) = xa
            · have hee : ((e : Int) != xa) = false := by simp [c1]
              clear c1
              by_cases c2 : xe = (q : Int)
              · have hxq : (xe != (q : Int)) = false := by simp [c2]
                clear c2
                gi_upto_region 30 with fail
                refine wpIn_region_hold2 [.val (.slice (some ad) l c6), .val (.int .i64 (l : Int)), .val (.bool false), .val (.bool false), .val (.slice (some ad) l c6), .val (.slice (some ad) l c6), .val (.int .i64 (l : Int)), .val (.int .i64 (m : Int)), .val (.pointer (some (ad.add m))), .val (.int .i64 (e : Int)), .val (.pointer (some ⟨b5, 0, none⟩)), .val (.int .i64 xa), .val (.bool false), .val (.bool false), .val (.bool false), .val (.pointer (some p)), .val (.pointer (some ⟨b5, 0, none⟩)), .val (.int .i64 xa), .val (.int .i64 xe), .val (.int .i64 (q : Int)), .val (.bool false)] (by kernel_rfl) (by kernel_rfl) (by kernel_rfl) ?_ ?_
                · simp only [Hold.fill, Hold.Leave.value]
                  refine ⟨?_, ?_, ?_, ?_, ?_, ?_, ?_, ?_, ?_, ?_, ?_, ?_, ?_, ?_, ?_, ?_, ?_, ?_, ?_, ?_, ?_, trivial⟩
                  · intro gg w' hw hk
                    have q0 := (hw.cell (p := ⟨X.heap.size, 0, none⟩) (block_lt_of_cell oc)).trans oc
                    go_simp
                    exact ⟨rfl, rfl⟩
                  · intro gg w' hw hk
                    go_simp
                    exact ⟨rfl, rfl⟩
                  · intro gg w' hw hk
                    go_simp
                    exact ⟨rfl, rfl⟩
                  · intro gg w' hw hk
                    go_simp
                    exact ⟨rfl, rfl⟩
                  · intro gg w' hw hk
                    have q0 := (hw.cell (p := ⟨X.heap.size, 0, none⟩) (block_lt_of_cell oc)).trans oc
                    go_simp
                    exact ⟨rfl, rfl⟩
                  · intro gg w' hw hk
                    have q0 := (hw.cell (p := ⟨X.heap.size, 0, none⟩) (block_lt_of_cell oc)).trans oc
                    go_simp
                    exact ⟨rfl, rfl⟩
                  · intro gg w' hw hk
                    go_simp
                    exact ⟨rfl, rfl⟩
                  · intro gg w' hw hk
                    go_simp
                    exact ⟨rfl, rfl⟩
                  · intro gg w' hw hk
                    go_simp
                    exact ⟨rfl, rfl⟩
                  · intro gg w' hw hk
                    have q0 := (hw.cell (p := (ad.add m)) (block_lt_of_cell lc)).trans lc
                    go_simp
                    exact ⟨rfl, rfl⟩
                  · intro gg w' hw hk
                    go_simp
                    exact ⟨rfl, rfl⟩
                  · intro gg w' hw hk
                    have q0 := (hw.cell (p := ⟨b5, 0, none⟩) (block_lt_of_cell hx0)).trans hx0
                    go_simp
                    exact ⟨rfl, rfl⟩
                  · intro gg w' hw hk
                    go_simp
                    exact ⟨rfl, rfl⟩
                  · intro gg w' hw hk
                    go_simp
                    exact ⟨rfl, rfl⟩
                  · intro gg w' hw hk
                    go_simp
                    exact ⟨rfl, rfl⟩
                  · intro gg w' hw hk
                    have q0 := (hw.cell (p := ⟨w1.heap.size, 0, none⟩) (block_lt_of_cell tc)).trans tc
                    go_simp
                    exact ⟨rfl, rfl⟩
                  · intro gg w' hw hk
                    go_simp
                    exact ⟨rfl, rfl⟩
                  · intro gg w' hw hk
                    have q0 := (hw.cell (p := ⟨b5, 0, none⟩) (block_lt_of_cell hx0)).trans hx0
                    go_simp
                    exact ⟨rfl, rfl⟩
                  · intro gg w' hw hk
                    go_simp
                    exact Hold.stays_call (HEx.out _ (VB.out.trans (hw.mono VB.out.size)))
                  · intro gg w' hw hk
                    have q0 := (hw.cell (p := ⟨b11, 0, none⟩) (block_lt_of_cell nc)).trans nc
                    go_simp
                    exact ⟨rfl, rfl⟩
                  · intro gg w' hw hk
                    go_simp
                    exact ⟨rfl, rfl⟩
                · intro gg W2 qq hgg
                  clear hgg
                  simp only [Hold.fill, Hold.Leave.value, List.length_cons, List.length_nil, Nat.reduceAdd, Nat.reduceSub]
                  refine wpAnyIn_ready (rs := [21]) (by kernel_rfl) (by simp) ?_
                  refine AllReadyIn.cons rfl (fun K hK => ?_) AllReadyIn.nil
                  go_simp
                  refine hK _ _ ?_
                  clear hK K
                  refine wpAnyIn_done (by kernel_rfl) ?_ _
                  have hx2 := (qq.cell (p := ⟨b5, 0, none⟩) (block_lt_of_cell hx0)).trans hx0
                  have hgq := grown_of_below qq
                  have o2 := HO.out.kept hgq (by simp)
                  have n2 := HNX.out.kept hgq (by simp)
                  have m2 : Mine W2 w6.heap.size (some ad) l c6 (st.map Int.ofNat) := HM.out.kept hgq (fun _ _ e => by cases e)
                  have b2 := HV.out.trans (ButTwo.of_below qq (by omega))
                  have r2 := b2.box (by omega) (by omega) (by omega) BR6.out
                  have hq2 := qq.size
                  clear hx0 hx1 nc oc tc
                  have oc2 := o2.cell
                  have of2 := o2.frozen
                  have hmc : (m : Int) ≤ (c6 : Int) := by omega
                  gi_wp2_with fail
                  have hst : stkAt ([], 0) (pre ++ [(⟨xa, true⟩ : Ev)]) = (st.dropLast, q) := by rw [stkAt_next, HSQ.out]; rfl
                  have hdl : st.dropLast.length = m := by rw [List.length_dropLast, HLl.out, HLM.out]; rfl
                  refine ⟨(below_keeps qq).trans ((KeepsOthers.setCell _ _ _).from _), (StayB.of_below qq (by omega) (by omega) (Nat.le_refl _) (fun y e => by injection e with e; omega)).trans (StayB.less o2 (fun g e => by have := m2.lt g e; omega) (by omega) (.inl (by omega)) (by omega) (by omega)), ⟨⟨⟨_, o2.set (.slice (some ad) m c6), ?_⟩, ?_⟩, b2.set (.inl rfl) (Nat.le_refl _) _⟩⟩
                  · first | refine ⟨?_, trivial⟩ | skip
                    rw [hst]
                    try rw [← List.map_map]
                    show World.ownsRow _ _ _ _ _ st.dropLast.length ((st.dropLast.map Int.ofNat).map (Value.int .i64))
                    rw [hdl, List.map_dropLast]
                    exact mine_drop HLM.out (m2.kept (grownBy_setCell' W2 X.heap.size _) (fun g e e2 => by have := (m2.lt g e).1; injection e2 with e2; omega))
                  · rw [hst]
                    exact n2.other (by omega) _
              · have hxq : (xe != (q : Int)) = true := by simp [c2]
                have HBad := Lib.hid (fun (r : fits (dOf bs) bs.length (st, q) ⟨xa, true⟩) => c2 (HXE.out.symm.trans (cov_out r).2))
                clear c2
                gi_upto_region 30 with fail
                refine wpIn_region_hold2 [.val (.slice (some ad) l c6), .val (.int .i64 (l : Int)), .val (.bool false), .val (.bool false), .val (.slice (some ad) l c6), .val (.slice (some ad) l c6), .val (.int .i64 (l : Int)), .val (.int .i64 (m : Int)), .val (.pointer (some (ad.add m))), .val (.int .i64 (e : Int)), .val (.pointer (some ⟨b5, 0, none⟩)), .val (.int .i64 xa), .val (.bool false), .val (.bool false), .val (.bool false), .val (.pointer (some p)), .val (.pointer (some ⟨b5, 0, none⟩)), .val (.int .i64 xa), .val (.int .i64 xe), .val (.int .i64 (q : Int)), .val (.bool true)] (by kernel_rfl) (by kernel_rfl) (by kernel_rfl) ?_ ?_
                · simp only [Hold.fill, Hold.Leave.value]
                  refine ⟨?_, ?_, ?_, ?_, ?_, ?_, ?_, ?_, ?_, ?_, ?_, ?_, ?_, ?_, ?_, ?_, ?_, ?_, ?_, ?_, ?_, trivial⟩
                  · intro gg w' hw hk
                    have q0 := (hw.cell (p := ⟨X.heap.size, 0, none⟩) (block_lt_of_cell oc)).trans oc
                    go_simp
                    exact ⟨rfl, rfl⟩
                  · intro gg w' hw hk
                    go_simp
                    exact ⟨rfl, rfl⟩
                  · intro gg w' hw hk
                    go_simp
                    exact ⟨rfl, rfl⟩
                  · intro gg w' hw hk
                    go_simp
                    exact ⟨rfl, rfl⟩
                  · intro gg w' hw hk
                    have q0 := (hw.cell (p := ⟨X.heap.size, 0, none⟩) (block_lt_of_cell oc)).trans oc
                    go_simp
                    exact ⟨rfl, rfl⟩
                  · intro gg w' hw hk
                    have q0 := (hw.cell (p := ⟨X.heap.size, 0, none⟩) (block_lt_of_cell oc)).trans oc
                    go_simp
                    exact ⟨rfl, rfl⟩
                  · intro gg w' hw hk
                    go_simp
                    exact ⟨rfl, rfl⟩
                  · intro gg w' hw hk
                    go_simp
                    exact ⟨rfl, rfl⟩
                  · intro gg w' hw hk
                    go_simp
                    exact ⟨rfl, rfl⟩
                  · intro gg w' hw hk
                    have q0 := (hw.cell (p := (ad.add m)) (block_lt_of_cell lc)).trans lc
                    go_simp
                    exact ⟨rfl, rfl⟩
                  · intro gg w' hw hk
                    go_simp
                    exact ⟨rfl, rfl⟩
                  · intro gg w' hw hk
                    have q0 := (hw.cell (p := ⟨b5, 0, none⟩) (block_lt_of_cell hx0)).trans hx0
                    go_simp
                    exact ⟨rfl, rfl⟩
                  · intro gg w' hw hk
                    go_simp
                    exact ⟨rfl, rfl⟩
                  · intro gg w' hw hk
                    go_simp
                    exact ⟨rfl, rfl⟩
                  · intro gg w' hw hk
                    go_simp
                    exact ⟨rfl, rfl⟩
                  · intro gg w' hw hk
                    have q0 := (hw.cell (p := ⟨w1.heap.size, 0, none⟩) (block_lt_of_cell tc)).trans tc
                    go_simp
                    exact ⟨rfl, rfl⟩
                  · intro gg w' hw hk
                    go_simp
                    exact ⟨rfl, rfl⟩
                  · intro gg w' hw hk
                    have q0 := (hw.cell (p := ⟨b5, 0, none⟩) (block_lt_of_cell hx0)).trans hx0
                    go_simp
                    exact ⟨rfl, rfl⟩
                  · intro gg w' hw hk
                    go_simp
                    exact Hold.stays_call (HEx.out _ (VB.out.trans (hw.mono VB.out.size)))
                  · intro gg w' hw hk
                    have q0 := (hw.cell (p := ⟨b11, 0, none⟩) (block_lt_of_cell nc)).trans nc
                    go_simp
                    exact ⟨rfl, rfl⟩
                  · intro gg w' hw hk
                    go_simp
                    exact ⟨rfl, rfl⟩
                · intro gg W2 qq hgg
                  clear hgg
                  simp only [Hold.fill, Hold.Leave.value, List.length_cons, List.length_nil, Nat.reduceAdd, Nat.reduceSub]
                  refine wpAnyIn_ready (rs := [21]) (by kernel_rfl) (by simp) ?_
                  refine AllReadyIn.cons rfl (fun K hK => ?_) AllReadyIn.nil
                  go_simp
                  refine hK _ _ ?_
                  clear hK K
                  refine wpAnyIn_done (by kernel_rfl) ?_ _
                  have hx2 := (qq.cell (p := ⟨b5, 0, none⟩) (block_lt_of_cell hx0)).trans hx0
                  have hgq := grown_of_below qq
                  have o2 := HO.out.kept hgq (by simp)
                  have n2 := HNX.out.kept hgq (by simp)
                  have m2 : Mine W2 w6.heap.size (some ad) l c6 (st.map Int.ofNat) := HM.out.kept hgq (fun _ _ e => by cases e)
                  have b2 := HV.out.trans (ButTwo.of_below qq (by omega))
                  have r2 := b2.box (by omega) (by omega) (by omega) BR6.out
                  have hq2 := qq.size
                  clear hx0 hx1 nc oc tc
                  have rc := r2.cell
                  have rf := r2.frozen
                  gi_wp2_with fail
                  exact ⟨(below_keeps qq).trans ((KeepsOthers.setCell _ _ _).from _), fun h => HBad.out (by have r := cov_at HS.out h; rw [HSQ.out] at r; exact r)⟩
            · have hee : ((e : Int) != xa) = true := by simp [c1]
              have HBad := Lib.hid (fun (r : fits (dOf bs) bs.length (st, q) ⟨xa, true⟩) => (show False by
                obtain ⟨⟨e2, h1, h2⟩, -⟩ := cov_out r
                rw [HE.out] at h1
                injection h1 with h1
                subst h1
                exact c1 h2))
              clear c1
              gi_upto_region 30 with fail
              refine wpIn_region_hold2 [.val (.slice (some ad) l c6), .val (.int .i64 (l : Int)), .val (.bool false), .val (.bool false), .val (.slice (some ad) l c6), .val (.slice (some ad) l c6), .val (.int .i64 (l : Int)), .val (.int .i64 (m : Int)), .val (.pointer (some (ad.add m))), .val (.int .i64 (e : Int)), .val (.pointer (some ⟨b5, 0, none⟩)), .val (.int .i64 xa), .val (.bool true), .val (.bool true), .val (.bool true), .skip, .skip, .skip, .skip, .skip, .skip] (by kernel_rfl) (by kernel_rfl) (by kernel_rfl) ?_ ?_
              · simp only [Hold.fill, Hold.Leave.value]
                refine ⟨?_, ?_, ?_, ?_, ?_, ?_, ?_, ?_, ?_, ?_, ?_, ?_, ?_, ?_, ?_, ?_, ?_, ?_, ?_, ?_, ?_, trivial⟩
                · intro gg w' hw hk
                  have q0 := (hw.cell (p := ⟨X.heap.size, 0, none⟩) (block_lt_of_cell oc)).trans oc
                  go_simp
                  exact ⟨rfl, rfl⟩
                · intro gg w' hw hk
                  go_simp
                  exact ⟨rfl, rfl⟩
                · intro gg w' hw hk
                  go_simp
                  exact ⟨rfl, rfl⟩
                · intro gg w' hw hk
                  go_simp
                  exact ⟨rfl, rfl⟩
                · intro gg w' hw hk
                  have q0 := (hw.cell (p := ⟨X.heap.size, 0, none⟩) (block_lt_of_cell oc)).trans oc
                  go_simp
                  exact ⟨rfl, rfl⟩
                · intro gg w' hw hk
                  have q0 := (hw.cell (p := ⟨X.heap.size, 0, none⟩) (block_lt_of_cell oc)).trans oc
                  go_simp
                  exact ⟨rfl, rfl⟩
                · intro gg w' hw hk
                  go_simp
                  exact ⟨rfl, rfl⟩
                · intro gg w' hw hk
                  go_simp
                  exact ⟨rfl, rfl⟩
                · intro gg w' hw hk
                  go_simp
                  exact ⟨rfl, rfl⟩
                · intro gg w' hw hk
                  have q0 := (hw.cell (p := (ad.add m)) (block_lt_of_cell lc)).trans lc
                  go_simp
                  exact ⟨rfl, rfl⟩
                · intro gg w' hw hk
                  go_simp
                  exact ⟨rfl, rfl⟩
                · intro gg w' hw hk
                  have q0 := (hw.cell (p := ⟨b5, 0, none⟩) (block_lt_of_cell hx0)).trans hx0
                  go_simp
                  exact ⟨rfl, rfl⟩
                · intro gg w' hw hk
                  go_simp
                  exact ⟨rfl, rfl⟩
                · intro gg w' hw hk
                  go_simp
                  exact ⟨rfl, rfl⟩
                · intro gg w' hw hk
                  go_simp
                  exact ⟨rfl, rfl⟩
                · trivial
                · trivial
                · trivial
                · trivial
                · trivial
                · trivial
              · intro gg W2 qq hgg
                clear hgg
                simp only [Hold.fill, Hold.Leave.value, List.length_cons, List.length_nil, Nat.reduceAdd, Nat.reduceSub]
                refine wpAnyIn_ready (rs := [21]) (by kernel_rfl) (by simp) ?_
                refine AllReadyIn.cons rfl (fun K hK => ?_) AllReadyIn.nil
                go_simp
                refine hK _ _ ?_
                clear hK K
                refine wpAnyIn_done (by kernel_rfl) ?_ _
                have hx2 := (qq.cell (p := ⟨b5, 0, none⟩) (block_lt_of_cell hx0)).trans hx0
                have hgq := grown_of_below qq
                have o2 := HO.out.kept hgq (by simp)
                have n2 := HNX.out.kept hgq (by simp)
                have m2 : Mine W2 w6.heap.size (some ad) l c6 (st.map Int.ofNat) := HM.out.kept hgq (fun _ _ e => by cases e)
                have b2 := HV.out.trans (ButTwo.of_below qq (by omega))
                have r2 := b2.box (by omega) (by omega) (by omega) BR6.out
                have hq2 := qq.size
                clear hx0 hx1 nc oc tc
                have rc := r2.cell
                have rf := r2.frozen
                gi_wp2_with fail
                exact ⟨(below_keeps qq).trans ((KeepsOthers.setCell _ _ _).from _), fun h => HBad.out (by have r := cov_at HS.out h; rw [HSQ.out] at r; exact r)⟩
      case done =>
        rintro D ys V1 hD rfl ⟨⟨⟨v, i1, i2, -⟩, i3⟩, i4⟩ hK1
        have hz := (all_covs bs HS.out).last
        rw [hz] at i2 i3
        dsimp only [List.length_nil, List.map_nil] at i2 i3
        rw [← HN.out] at i3
        obtain ⟨A6, c6, rfl⟩ := shapeE i2
        have hv1 := i4.low.size
        have MF := Lib.hid (mine_block HMF6.out (i4.rest B4 (by omega) (by omega) (by omega)))
        have BT7 := Lib.hid (i4.box (by omega) (by omega) (by omega) BT6.out)
        have BRV := Lib.hid (i4.box (by omega) (by omega) (by omega) BR6.out)
        have V7 := Lib.hid (V6.out.trans (i4.low.mono (by omega)))
        have HO7 := Lib.hid i1
        have HN7 := Lib.hid i3
        have HK1 := Lib.hid hK1
        have hDV := (Array.getElem?_eq_some_iff.1 hK1).1
        clear i1 i2 i3 i4 hz hK1
        gi_wp2_with fail
        refine wpIn_loop (fun a Y => ∃ (k : Nat) (v13 v14 v144 v145 v146 v147 v148 v149 v150 v151 v152 v153 : Value), k ≤ n ∧ a = { tmps := (Value.slice A n c :: undef :: Value.pointer (some ⟨w.heap.size, 0, none⟩) :: Value.pointer (some ⟨w1.heap.size, 0, none⟩) :: Value.slice (some ⟨B4, 0, none⟩) n n :: u5 :: undef :: u7 :: undef :: u9 :: Value.pointer (some ⟨X.heap.size, 0, none⟩) :: Value.pointer (some ⟨b11, 0, none⟩) :: undef :: v13 :: v14 :: Value.slice A n c :: Value.pointer (some p) :: Value.bool true :: Value.bool false :: Value.bool false :: Value.pointer (some p) :: Value.bool false :: Value.bool false :: undef :: Value.pointer (some p) :: Value.int IntKind.i64 (n : Int) :: Value.slice (some ⟨B4, 0, none⟩) n n :: Value.slice (some ⟨B4, 0, none⟩) n n :: Value.int IntKind.i64 (n : Int) :: Value.int IntKind.i64 (n : Int) :: Value.bool false :: u31 :: u32 :: u33 :: u34 :: u35 :: Value.pointer (some p) :: Value.slice A1 K c1 :: Value.int IntKind.i64 (K : Int) :: Value.int IntKind.i64 (K : Int) :: Value.bool false :: u41 :: u42 :: u43 :: u44 :: u45 :: u46 :: u47 :: u48 :: u49 :: u50 :: u51 :: u52 :: u53 :: u54 :: u55 :: u56 :: u57 :: u58 :: u59 :: u60 :: u61 :: u62 :: u63 :: u64 :: u65 :: u66 :: u67 :: u68 :: u69 :: u70 :: u71 :: u72 :: u73 :: u74 :: u75 :: u76 :: u77 :: u78 :: Value.pointer (some p) :: Value.func (Fn.func f) #[] lb :: undef :: undef :: undef :: undef :: undef :: undef :: undef :: undef :: undef :: undef :: undef :: undef :: undef :: undef :: undef :: undef :: undef :: undef :: undef :: undef :: undef :: undef :: undef :: undef :: undef :: undef :: undef :: undef :: undef :: undef :: undef :: undef :: undef :: undef :: undef :: undef :: undef :: undef :: undef :: undef :: undef :: undef :: undef :: undef :: undef :: undef :: undef :: undef :: undef :: undef :: undef :: undef :: undef :: undef :: undef :: undef :: undef :: undef :: undef :: undef :: Value.slice (some ⟨B4, 0, none⟩) n n :: Value.int IntKind.i64 (n : Int) :: Value.int IntKind.i64 (k : Int) :: v144 :: v145 :: v146 :: v147 :: v148 :: v149 :: v150 :: v151 :: v152 :: v153 :: undef :: undef :: undef :: undef :: undef :: undef :: undef :: undef :: undef :: []).toArray, defers := [{ target := .collected D, args := #[] }] } ∧ Hid (Below V1.heap.size V1 Y))
          (fun a _ => n - (intOf (a.tmps.getD 143 undef)).toNat) ⟨0, _, _, _, _, _, _, _, _, _, _, _, _, by omega, rfl, Lib.hid (Below.refl _ _)⟩ ?_
        rintro a Y ⟨k, v13, v14, v144, v145, v146, v147, v148, v149, v150, v151, v152, v153, hk, rfl, hst⟩
        rcases Nat.lt_or_ge k n with h | h
        · generalize hQQ : Exit.then _ _ = QQ
          have hki : (k : Int) < (n : Int) := by omega
          have hk0 : ¬ (k : Int) < 0 := by omega
          have hwk : IntKind.i64.wrap ((k : Int) + 1) = (k : Int) + 1 := IntWalk.i64_in _ (by omega)
          obtain ⟨g0, eg, -, -, hcell⟩ := Mine.cell MF.out k (by rw [covL_len]; exact h)
          injection eg with eg
          injection eg with eg _ _
          subst eg
          rw [covL_get h, add0] at hcell
          obtain ⟨zz, hzz⟩ : ∃ zz : Nat, ctxB bs k = zz := ⟨_, rfl⟩
          rw [hzz] at hcell
          rcases Nat.eq_zero_or_pos k with hz | hz
          · have hkz : ((k : Int) == 0) = true := by simp [hz]
            rw [if_neg (by simp [hz])] at hcell
            have hc0 := (hst.out.cell (p := ⟨B4, k, none⟩) (block_lt_of_cell hcell)).trans hcell
            clear hcell hzz hz
            gi_wp2_with fail
            rw [← hQQ]
            refine ⟨⟨k + 1, _, _, _, _, _, _, _, _, _, _, _, _, by omega, by push_cast; rfl, hst⟩, ?_⟩
            first | (simp [intOf]; omega) | simp [intOf]
          · have hkz : ((k : Int) == 0) = false := by rw [beq_eq_false_iff_ne]; omega
            have hzm : ((zz : Int) == -1) = false := by rw [beq_eq_false_iff_ne]; omega
            rw [if_pos (by simp [hz])] at hcell
            have hc0 := (hst.out.cell (p := ⟨B4, k, none⟩) (block_lt_of_cell hcell)).trans hcell
            clear hcell hzz
            gi_wp2_with fail
            rw [← hQQ]
            refine ⟨⟨k + 1, _, _, _, _, _, _, _, _, _, _, _, _, by omega, by push_cast; rfl, hst⟩, ?_⟩
            first | (simp [intOf]; omega) | simp [intOf]
        · have hkn : n = k := by omega
          subst hkn
          have hkk : ¬ (n : Int) < (n : Int) := by omega
          have VB := Lib.hid (V7.out.trans (hst.out.mono V7.out.size))
          have oc := (hst.out.cell (p := ⟨X.heap.size, 0, none⟩) (block_lt_of_cell HO7.out.cell)).trans HO7.out.cell
          have nc := (hst.out.cell (p := ⟨b11, 0, none⟩) (block_lt_of_cell HN7.out.cell)).trans HN7.out.cell
          have tc := (hst.out.cell (p := ⟨w1.heap.size, 0, none⟩) (block_lt_of_cell BT7.out.cell)).trans BT7.out.cell
          have BR7 := Lib.hid (BRV.out.kept (grown_of_below hst.out) (by simp))
          have rc0 := BR7.out.cell
          gi_upto_region 39 with fail
          refine wpIn_region_holdW [.val (.int .i64 (n : Int)), .val (.pointer (some p)), .val (.int .i64 (n : Int)), .val (.bool true), .val (.bool true), .val (.slice A6 0 c6), .val (.int .i64 0), .val (.bool true), .val (.bool true)] (by kernel_rfl) (by kernel_rfl) (by kernel_rfl) ?_ ?_
          · simp only [Hold.fill, Hold.Leave.value]
            refine ⟨?_, ?_, ?_, ?_, ?_, ?_, ?_, ?_, ?_, trivial⟩
            · intro gg w' hw hk
              have q0 := (hw.cell (p := ⟨b11, 0, none⟩) (block_lt_of_cell nc)).trans nc
              go_simp
              exact ⟨rfl, rfl⟩
            · intro gg w' hw hk
              have q0 := (hw.cell (p := ⟨w1.heap.size, 0, none⟩) (block_lt_of_cell tc)).trans tc
              go_simp
              exact ⟨rfl, rfl⟩
            · intro gg w' hw hk
              go_simp
              exact Hold.stays_call (HLen.out _ (VB.out.trans (hw.mono VB.out.size)))
            · intro gg w' hw hk
              go_simp
              exact ⟨rfl, rfl⟩
            · intro gg w' hw hk
              go_simp
              exact ⟨rfl, rfl⟩
            · intro gg w' hw hk
              have q0 := (hw.cell (p := ⟨X.heap.size, 0, none⟩) (block_lt_of_cell oc)).trans oc
              go_simp
              exact ⟨rfl, rfl⟩
            · intro gg w' hw hk
              go_simp
              exact ⟨rfl, rfl⟩
            · intro gg w' hw hk
              go_simp
              exact ⟨rfl, rfl⟩
            · intro gg w' hw hk
              go_simp
              exact ⟨rfl, rfl⟩
          · intro gg W2 qq hgg
            clear hgg
            simp only [Hold.fill, Hold.Leave.value, List.length_cons, List.length_nil, Nat.reduceAdd, Nat.reduceSub]
            refine wpAnyIn_ready (rs := [9]) (by kernel_rfl) (by simp) ?_
            refine AllReadyIn.cons rfl (fun K hK => ?_) AllReadyIn.nil
            have rc := (qq.cell (p := ⟨w.heap.size, 0, none⟩) (block_lt_of_cell rc0)).trans rc0
            have rf := (BR7.out.kept (grown_of_below qq) (by simp)).frozen
            go_simp
            refine hK _ _ ?_
            clear hK K
            refine wpAnyIn_done (by kernel_rfl) ?_ _
            have hne : D ≠ w.heap.size := by omega
            have hq2 := hst.out.size
            have hKD : W2.heap[D]? = some (.deferred (some [])) := (qq.block D (by omega)).trans ((hst.out.block D (by omega)).trans HK1.out)
            have hK2 : (W2.setCell ⟨w.heap.size, 0, none⟩ (.bool true)).heap[D]? = some (.deferred (some [])) := by rw [heap_setCell_other _ _ _ _ hne]; exact hKD
            have i5 := (BR7.out.kept (grown_of_below qq) (by simp)).set (.bool true)
            gi_wp2_with fail
            refine ⟨by simp, .inl ⟨_, _, rfl, run_takeDeferred hK2, ?_⟩⟩
            have i6 : Boxed ((W2.setCell ⟨w.heap.size, 0, none⟩ (.bool true)).putObj D (.deferred none)) w.heap.size 4 (.bool true) := i5.kept (grownBy_putObj' _ D _) (fun e => hne (by injection e with e; exact e.symm))
            have cc6 := i6.cell
            have a4 := Try.isAgg4
            have hk0 : Below w.heap.size w W2 := K1.out.trans ((VB.out.trans (qq.mono VB.out.size)).mono (by omega))
            have hk6 : Below w.heap.size w ((W2.setCell ⟨w.heap.size, 0, none⟩ (.bool true)).putObj D (.deferred none)) := (hk0.setCell (p := ⟨w.heap.size, 0, none⟩) (Nat.le_refl _) _).trans (belowK_b (w := w) (by omega) _ D _ _ (by omega) hK2 rfl rfl)
            exact ⟨.bool true, by simp [results, Try.results5, go_sem, cc6], rfl, hk6⟩
      case stop =>
        rintro D c pre W _ hs h _
        exact (h hs).elim

theorem covers_any (hT : TreeOk T) (hW : WalkOk T) (A : Option Addr) (n c : Nat) (bs : List Bx) (w : World) (hn : n = bs.length) (hm : n ≤ 9223372036854775807) (hx : Boxes w w.heap.size A bs) (hb : ∀ b ∈ bs, OkB b) :
    Calls Try.prog 5 #[.slice A n c] w fun e w' => e = .returned (.bool true) ∧ Below w.heap.size w w' := by
  refine (callsIn_wide (n := 6)).1 ?_
  rcases begun_or hT A n c bs w hn hm hx hb with ⟨h, hs, hf, hb⟩ | h
  · exact covers_yes hT hW A n c bs w hs (fine_open (hf 0 (by have := hs.pos; omega))) hn h hb
  · exact covers_no hT hW A n c w h
end

end Go.Proofs.Ytflncnfagoekcaa.Walk
