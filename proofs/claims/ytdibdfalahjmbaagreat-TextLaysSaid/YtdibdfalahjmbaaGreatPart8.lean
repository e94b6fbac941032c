/- Texts of this proof that follow each other, in one file. -/
import Derived.Test.YtdibdfalahjmbaaGreatPart7
import Derived.Lib.SliceRun
import Derived.Laws.NewBlocks
import Derived.Test.YtdibdfalahjmbaaGreatPart1
namespace Go.Proofs.YtdibdfalahjmbaaGreat.Shelf

open Go.RowKit Go.Sort Go.Proofs.YtdibdfalahjmbaaGreat.Rect Go.Proofs.YtdibdfalahjmbaaGreat.More

set_option linter.unusedVariables false

section

variable {β : Type} {F : Int → β}

theorem dw_ge : ∀ (xs : List (Int × β)) (a : Int), DW F a xs → ∀ z ∈ xs, a ≤ z.1
  | [], _, h, _, _ => h.elim
  | [(t, b)], a, h, z, hz => by
    rw [List.mem_singleton.1 hz]
    have := h.1
    dsimp only
    omega
  | (t, b) :: (t2, b2) :: r, a, ⟨h1, h2, h4, h5⟩, z, hz => by
    rcases List.mem_cons.1 hz with e | e
    · rw [e]; dsimp only; omega
    · have := dw_ge ((t2, b2) :: r) t2 h5 z e
      omega

theorem dw_rise : ∀ (xs : List (Int × β)) (a : Int), DW F a xs → ∀ (i j : Nat) (x y : Int × β), i ≤ j → xs[i]? = some x → xs[j]? = some y → x.1 ≤ y.1
  | [], _, h, _, _, _, _, _, _, _ => h.elim
  | (t, b) :: r, a, h, 0, j, x, y, _, hx, hy => by
    have e : (t, b) = x := by simpa using hx
    subst e
    have h1 := dw_head h
    have h2 := dw_ge _ a h y (List.mem_of_getElem? hy)
    omega
  | [(t, b)], a, h, i + 1, j, x, y, _, hx, _ => by simp at hx
  | (t, b) :: (t2, b2) :: r, a, h, i + 1, j, x, y, hij, hx, hy => by
    obtain ⟨k, rfl⟩ : ∃ k, j = k + 1 := ⟨j - 1, by omega⟩
    rw [List.getElem?_cons_succ] at hx hy
    exact dw_rise ((t2, b2) :: r) t2 h.2.2.2 i k x y (by omega) hx hy

theorem thr_of {xs : List (Int × β)} {a : Int} (h : DW F a xs) (y : Int) : ∃ k, Thr xs y k := by
  refine ⟨xs.findIdx (fun x => decide (y < x.1)), List.findIdx_le_length, fun i x hx => ?_⟩
  have hi := (List.getElem?_eq_some_iff.1 hx).1
  by_cases hk : xs.findIdx (fun x => decide (y < x.1)) ≤ i
  · rw [show decide (xs.findIdx (fun x => decide (y < x.1)) ≤ i) = true by simp [hk]]
    have hlt : xs.findIdx (fun x => decide (y < x.1)) < xs.length := by omega
    have h1 := List.findIdx_getElem (w := hlt)
    have h2 := dw_rise xs a h _ i _ x hk (List.getElem?_eq_getElem hlt) hx
    have h3 := of_decide_eq_true h1
    simp only [decide_eq_true_eq]
    omega
  · rw [show decide (xs.findIdx (fun x => decide (y < x.1)) ≤ i) = false by simp [hk]]
    have h1 := List.not_of_lt_findIdx (p := fun x : Int × β => decide (y < x.1)) (xs := xs) (i := i) (by omega)
    rw [(List.getElem?_eq_some_iff.1 hx).2] at h1
    simpa using h1

theorem thr_find {xs : List (Int × β)} {y : Int} {k : Nat} (h : Thr xs y k) : xs.find? (fun x => decide (y < x.1)) = xs[k]? := by
  have hno : (xs.take k).find? (fun x => decide (y < x.1)) = none := by
    rw [List.find?_eq_none]
    intro z hz
    obtain ⟨j, hj⟩ := List.getElem?_of_mem hz
    rw [List.getElem?_take] at hj
    split at hj
    · rename_i hjk
      rw [h.2 j z hj]
      simp; omega
    · cases hj
  have e : xs = xs.take k ++ xs.drop k := (List.take_append_drop k xs).symm
  cases hx : xs[k]? with
  | none =>
    have hk := List.getElem?_eq_none_iff.1 hx
    rw [e, List.find?_append, hno, List.drop_of_length_le hk]
    rfl
  | some x =>
    have hk := (List.getElem?_eq_some_iff.1 hx)
    obtain ⟨hk1, hk2⟩ := hk
    rw [e, List.find?_append, hno, List.drop_eq_getElem_cons hk1, hk2]
    have hp : decide (y < x.1) = true := by rw [h.2 k x hx]; simp
    simp [hp]

end

def InL (w : World) (B : Nat) (p : Addr) (fs : List Fl) : Prop := fs.length ≤ 1000 ∧ ∃ pb g n c, p = ⟨pb, 0, none⟩ ∧ Lst w B pb g n c (shelvesD fs)

theorem infoPs : InfoE encSh 116 117 24 :=
  ⟨Tryz.underlying117, .agg #[.int .i64 0, .int .i64 0, .int .i64 0], rfl, by kernel_rfl⟩

theorem inL_keep {w w' : World} {B : Nat} {p : Addr} {fs : List Fl} (h : InL w B p fs) (k : Below w.heap.size w w') : InL w' B p fs := by
  obtain ⟨hf, pb, g, n, c, e, hl⟩ := h
  exact ⟨hf, pb, g, n, c, e, hl.below k⟩

set_option maxRecDepth 100000 in
set_option maxHeartbeats 1000000 in
theorem new_any (w : World) : Calls Tryz.prog 29 #[] w fun r w' => (∃ p, r = .returned (.pointer (some p)) ∧ InL w' w.heap.size p []) ∧ Below w.heap.size w w' := by
  go_enter Tryz.func29, Tryz.ntmps29
  go_wp2_with fail
  go_ret
  refine ⟨⟨_, rfl, Nat.zero_le _, w.heap.size + 1, w.heap.size, 1, 1, rfl, by omega, by simp [go_sem], by simp [go_sem], by omega, ?_⟩, ba2 _ _ _⟩
  have := World.ownsRow_lit (e := 116) (size := 3) (base := w.heap.size) w #[.int .i64 (-4503599627370496), .int .i64 (-4503599627370496), .int .i64 4503599627370496] 1 (Nat.le_refl _) (by unfold maxLen; omega) rfl
  have h1 : MineE encSh 116 (w.alloc (.cells #[.int .i64 (-4503599627370496), .int .i64 (-4503599627370496), .int .i64 4503599627370496] 116)) w.heap.size (some ⟨w.heap.size, 0, none⟩) 1 1 (shelvesD []) := by
    simpa [MineE, encSh, shelvesD, far, nextF] using this
  exact MineE.alloc h1 _

set_option maxHeartbeats 1000000 in
theorem pafter_any (w : World) (B : Nat) (p : Addr) (fs : List Fl) (y : Int) (h : InL w B p fs) (hs : fs.all nearF = true) :
    Calls Tryz.prog 88 #[.pointer (some p), .int .i64 y] w fun r w' => r = .returned (.tuple #[.int .i64 (afterD fs y).1, .bool (afterD fs y).2]) ∧ Below w.heap.size w w' := by
  obtain ⟨hf, pb, g, n, c, rfl, hl⟩ := h
  have hlen := shelvesD_len fs
  have hn := hl.len
  have hd := (draws_dw _ _ (shelvesD_draws (near_of hs))).1
  obtain ⟨k, hk⟩ := thr_of hd y
  have ha : afterD fs y = match (shelvesD fs)[k]? with | some x => (x.1, true) | none => (0, false) := by
    unfold afterD; rw [thr_find hk]; cases (shelvesD fs)[k]? <;> rfl
  rw [ha]
  have HB := Lib.hid (below_any pb g n c B k _ y w hl (by omega) hk)
  generalize shelvesD fs = xs at hl hlen hn hk ha ⊢
  have hkn : k ≤ n := by have := hk.1; omega
  have HL := Lib.hid hl
  clear ha hk hd hl hlen
  cases hx : xs[k]? with
  | none =>
    have hk2 : k = n := by have := List.getElem?_eq_none_iff.1 hx; omega
    subst hk2
    clear hx hkn hn
    go_enter Tryz.func88, Tryz.ntmps88
    go_upto_region 2 with (first
      | (go_at_call 97; refine HB.out.mono ?_; rintro e w1 ⟨rfl, k1⟩; have hp := (HL.out.below k1).cell; have K1 := Lib.hid k1; clear k1))
    go_wp2_with fail
    exact bodyPost_ret (v := .tuple #[.int .i64 0, .bool false]) (by simp [results, Tryz.results88, go_sem]) rfl ⟨rfl, K1.out⟩
  | some x =>
    have hk2 : k < n := by have := (List.getElem?_eq_some_iff.1 hx).1; omega
    have hk3 : (k : Int) < (n : Int) := by omega
    have hk4 : ¬ (k : Int) = (n : Int) := by omega
    have HX := Lib.hid hx
    clear hx hkn hn hk2
    go_enter Tryz.func88, Tryz.ntmps88
    go_upto_region 2 with (first
      | (go_at_call 97; refine HB.out.mono ?_; rintro e w1 ⟨rfl, k1⟩; have hp := (HL.out.below k1).cell; have c0 := ((HL.out.below k1).at k x HX.out).1; have K1 := Lib.hid k1; clear k1))
    go_wp2_with fail
    exact bodyPost_ret (v := .tuple #[.int .i64 x.1, .bool true]) (by simp [results, Tryz.results88, go_sem]) rfl ⟨rfl, K1.out⟩

end Go.Proofs.YtdibdfalahjmbaaGreat.Shelf

namespace Go.Proofs.YtdibdfalahjmbaaGreat.Shelf

open Go.RowKit Go.Sort Go.Proofs.YtdibdfalahjmbaaGreat.Rect Go.Proofs.YtdibdfalahjmbaaGreat.More

set_option linter.unusedVariables false

theorem wpList_append_at (w : World) {ops : Array Oper} {rest : List Oper} {o : Oper} {a : Act} {Q : Exit → Act → World → Prop} (hgd : o.guard = none) (d s : Operand) (t t' : TypeId)
    (ho : o.op = .call { callee := .builtin .append, args := #[d, s], argTypes := #[t, t'] }) (v u : Value) (hd : a.eval d = v) (hs : a.eval s = u) {v' : Value} {w' : World}
    (hr : (Builtin.append_ #[t, t'] o.type #[v, u]).run Tryz.prog w = .ok v' w') (h : wpList Tryz.prog ops Q rest (a.put o.dst v') w') : wpList Tryz.prog ops Q (o :: rest) a w := by
  refine wpList_plain hgd fun _ hK => ?_
  unfold Oper.wp execOp
  simp only [ho, resolve, invoke, builtin, Sem.run_bind, Sem.run_pure, Result.andThen_ok, List.map_toArray, List.map_cons, List.map_nil, hd, hs, hr]
  exact hK _ _ h

theorem overlaps_no (w : World) (g vb o l1 c1 l2 c2 B n c : Nat) (xs : List Sh) (x : Sh) (h : MineE encSh 116 w B (some ⟨g, 0, none⟩) n c xs) (hc : 0 < c) (hv : w.heap[vb]? = some (.cells (encSh.cells x).toArray 116 (0, 0))) (hne : vb ≠ g) :
    (callFunc 98 #[.slice (some ⟨vb, 0, none⟩) l1 c1, .slice (some ⟨g, o, none⟩) l2 c2]).run Tryz.prog w = .ok (.value (.bool false)) w := by
  obtain ⟨cur, h1, h2, h3, h4, h5, h6⟩ := mine_block h
  have hsa : w.shape? vb = some (116, 3) := by unfold World.shape?; rw [hv]; rfl
  have hsb : w.shape? g = some (116, cur.size) := by unfold World.shape?; rw [h1]
  have hz : cur.size ≠ 0 := by
    have : encSh.size = 3 := rfl
    rw [h5, this]; omega
  have hfa : w.frozen? ⟨vb, 0, none⟩ = false := frozen_of_row w vb 0 _ _ hv
  have hfe : w.frozen? ⟨vb, 3, none⟩ = false := frozen_of_row w vb 3 _ _ hv
  rw [run_callFunc_extern Tryz.func98 (by kernel_rfl) (by kernel_rfl) (by kernel_rfl) (e := Extern.SlicesOverlaps.overlaps #[117, 117] #[4]) (by kernel_rfl),
    Lib.run_overlaps_apart w 117 4 116 Tryz.underlying117 3 (fun w => Tryz.sizeOf116 w) ⟨vb, 0, none⟩ ⟨g, o, none⟩ l1 c1 l2 c2 hne _ _ _ _ hsa hsb hz hfa hfe]
  rfl

def Inserted (w : World) (B g n : Nat) (ys : List Sh) (r : Ending) (w' : World) : Prop :=
  ∃ g' c', r = .returned (.slice (some ⟨g', 0, none⟩) (n + 1) c') ∧ MineE encSh 116 w' B (some ⟨g', 0, none⟩) (n + 1) c' ys ∧ w.grownBy w' (some g) ∧ (g' = g ∨ g' = w.heap.size)

set_option maxRecDepth 100000 in
set_option maxHeartbeats 1000000 in
theorem insert_end (g n c B vb : Nat) (xs : List Sh) (x : Sh) (w : World) (h : MineE encSh 116 w B (some ⟨g, 0, none⟩) n c xs) (hn : n < 1000000) (hB : B ≤ w.heap.size) (hv : w.heap[vb]? = some (.cells (encSh.cells x).toArray 116 (0, 0))) :
    Calls Tryz.prog 84 #[.slice (some ⟨g, 0, none⟩) n c, .int .i64 (n : Int), .slice (some ⟨vb, 0, none⟩) 1 1] w (Inserted w B g n (xs ++ [x])) := by
  have hsrc := Lib.hid (srcE_of (E := encSh) w x 116 vb hv)
  have HM := Lib.hid h
  have HB := Lib.hid hB
  clear h hv hB
  go_enter Tryz.func84, Tryz.ntmps84
  go_wp2_with (first
    | (at_builtin; refine wpList_append_E (bytes := 24) (by omega) infoPs _ rfl _ _ rfl B (some ⟨g, 0, none⟩) n c xs rfl HM.out (some ⟨vb, 0, none⟩) 1 1 [x] rfl hsrc.out (by omega) HB.out ?_; intro A' c' w1 hA; have HA := Lib.hid hA; clear hA))
  all_goals
    obtain ⟨g', rfl, -, -, -, -⟩ := MineE.form HA.out.1 (by omega)
    go_ret
    have h3 := HA.out.2.2
    simp only [blk, Option.some.injEq] at h3
    exact ⟨g', c', rfl, HA.out.1, HA.out.2.1, h3⟩

theorem mine_src {α : Type} {E : Enc α} {T : TypeId} {w : World} {B g n c : Nat} {xs : List α} (h : MineE E T w B (some ⟨g, 0, none⟩) n c xs) (k : Nat) :
    ∀ j u, ((xs.drop k).flatMap E.cells)[j]? = some u → w.cell? ((⟨g, k * E.size, none⟩ : Addr).add j) = some u := by
  intro j u hu
  rw [flat_drop, List.getElem?_drop] at hu
  have hlt := (List.getElem?_eq_some_iff.1 hu).1
  rw [E.flat_len, MineE.len h] at hlt
  rw [Addr.add_lit, World.ownsRow.cellAt h _ hlt]
  exact hu

theorem src_one {α : Type} {E : Enc α} {T : TypeId} {w : World} {vb : Nat} {x : α} (hv : w.heap[vb]? = some (.cells (E.cells x).toArray T (0, 0))) :
    ∀ j u, (([x] : List α).flatMap E.cells)[j]? = some u → w.cell? ((⟨vb, 0, none⟩ : Addr).add j) = some u := by
  intro j u hu
  obtain ⟨ad, e, hc⟩ := (srcE_of (E := E) w x T vb hv).2.2 j u hu
  injection e with e
  subst e
  exact hc

theorem ins_list {α : Type} (xs : List α) (x : α) (i : Nat) (hi : i < xs.length) :
    (xs.take (i + 1) ++ xs.drop i ++ xs.drop (i + 1 + (xs.drop i).length)).take i ++ [x] ++ (xs.take (i + 1) ++ xs.drop i ++ xs.drop (i + 1 + (xs.drop i).length)).drop (i + 1) = xs.take i ++ x :: xs.drop i := by
  have e1 : xs.drop (i + 1 + (xs.drop i).length) = [] := List.drop_of_length_le (by rw [List.length_drop]; omega)
  have e2 : (xs.take (i + 1)).length = i + 1 := by rw [List.length_take]; omega
  rw [e1, List.append_nil, List.take_append_of_le_length (by omega), List.take_take, Nat.min_eq_left (by omega), List.drop_append_of_le_length (by omega), List.drop_of_length_le (by omega), List.nil_append, List.append_assoc, List.singleton_append]

theorem ins_list2 {α : Type} (xs zs : List α) (x : α) (i : Nat) (hi : i < xs.length) (hz : zs.length = xs.length + 1 - i) :
    ((xs.take i ++ zs).take i ++ [x] ++ (xs.take i ++ zs).drop (i + 1)).take (i + 1) ++ xs.drop i ++ ((xs.take i ++ zs).take i ++ [x] ++ (xs.take i ++ zs).drop (i + 1)).drop (i + 1 + (xs.drop i).length) = xs.take i ++ x :: xs.drop i := by
  have e2 : (xs.take i).length = i := by rw [List.length_take]; omega
  have e3 : (xs.take i ++ zs).take i = xs.take i := by rw [List.take_append_of_le_length (by omega), List.take_of_length_le (by omega)]
  rw [e3]
  have e4 : (xs.take i ++ [x] ++ (xs.take i ++ zs).drop (i + 1)).length = xs.length + 1 := by
    simp only [List.length_append, List.length_drop, e2, hz, List.length_singleton]; omega
  have e5 : (xs.take i ++ [x] ++ (xs.take i ++ zs).drop (i + 1)).drop (i + 1 + (xs.drop i).length) = [] := List.drop_of_length_le (by rw [e4, List.length_drop]; omega)
  rw [e5, List.append_nil, List.take_append_of_le_length (by simp [e2]), List.take_of_length_le (by simp [e2]), List.append_assoc, List.singleton_append]

set_option maxRecDepth 100000 in
set_option maxHeartbeats 600000 in
theorem insert_shift (g n c B i vb : Nat) (xs : List Sh) (x : Sh) (w : World) (h : MineE encSh 116 w B (some ⟨g, 0, none⟩) n c xs) (hi : i < n) (hc : n + 1 ≤ c) (hn : n < 1000000) (hB : B ≤ w.heap.size) (hv : w.heap[vb]? = some (.cells (encSh.cells x).toArray 116 (0, 0))) (hne : vb ≠ g) :
    Calls Tryz.prog 84 #[.slice (some ⟨g, 0, none⟩) n c, .int .i64 (i : Int), .slice (some ⟨vb, 0, none⟩) 1 1] w (Inserted w B g n (xs.take i ++ x :: xs.drop i)) := by
  have hov : ∀ lb cb, (callFunc 98 #[.slice (some ⟨vb, 0, none⟩) 1 1, .slice (some ⟨g, (i + 1) * 3, none⟩) lb cb]).run Tryz.prog w = .ok (.value (.bool false)) w := fun lb cb => overlaps_no w g vb _ _ _ _ _ B n c xs x h (by omega) hv hne
  have hcm : c ≤ 9223372036854775807 := by obtain ⟨cur, h1, h2, h3, h4, h5, h6⟩ := mine_block h; unfold maxLen at h4; omega
  have HM := Lib.hid h
  have HV := Lib.hid hv
  have hz2 : ¬ ((i : Int) = (n : Int)) := by omega
  have hin : i ≤ n := by omega
  have hb3 : (i : Int) ≤ (n : Int) := by omega
  have hb5 : (i : Int) ≤ (n : Int) + 1 := by omega
  have hb6 : (i : Int) + 1 ≤ (n : Int) + 1 := by omega
  have hw1 : IntKind.i64.wrap ((i : Int) + 1) = (i : Int) + 1 := IntWalk.i64_in _ (by omega)
  have htn : ((i : Int) + 1).toNat = i + 1 := by omega
  have htn2 : ((n : Int) + 1).toNat = n + 1 := by omega
  have hb1 : (0 : Int) ≤ (i : Int) + 1 := by omega
  have hb2 : ¬ (c = i + 1) := by omega
  have hb4 : ¬ (c = i) := by omega
  have HI := Lib.hid (⟨hi, hc, hB, hne⟩ : i < n ∧ n + 1 ≤ c ∧ B ≤ w.heap.size ∧ vb ≠ g)
  clear h hv hB hne
  go_enter Tryz.func84, Tryz.ntmps84
  go_upto_region 15 with (simp only [hov])
  refine Hold.wp_region_hold [.val (.slice (some ⟨g, 0, none⟩) (n + 1) c), .val (.int .i64 (i : Int)), .val (.int .i64 1), .val (.int .i64 ((i : Int) + 1)), .val (.slice (some ⟨g, (i + 1) * 3, none⟩) (n + 1 - (i + 1)) (c - (i + 1))), .val (.slice (some ⟨g, 0, none⟩) (n + 1) c), .val (.int .i64 (i : Int)), .val (.slice (some ⟨g, i * 3, none⟩) (n + 1 - i) (c - i))] (by kernel_rfl) (by kernel_rfl) (by kernel_rfl) ?_ ?_
  · simp only [Hold.fill, Hold.Leave.value]
    refine ⟨?_, ?_, ?_, ?_, ?_, ?_, ?_, ?_, trivial⟩ <;> (intro gg w' hw hk; go_simp; first | exact ⟨rfl, rfl⟩ | skip)
  intro gg w2 k2 hgg
  clear hgg
  simp only [Hold.fill, Hold.Leave.value, List.length_cons, List.length_nil, List.drop_succ_cons, List.drop_zero]
  have m2 := MineE.below HM.out k2
  have hl := MineE.len m2
  have hdl : (xs.drop i).length = n - i := by rw [List.length_drop, hl]
  obtain ⟨w3, r3, m3, g3⟩ := run_copy_E infoPs 3 m2 (i + 1) (xs.drop i) (by omega) (by omega) (n + 1 - (i + 1)) (c - (i + 1)) (n + 1 - i) (c - i) ⟨g, i * 3, none⟩ (by rw [hdl]; simp only [Nat.min_def]; split <;> omega) (mine_src m2 i)
  rw [show max n (i + 1 + (xs.drop i).length) = n + 1 by omega] at m3
  have hv3 : w3.heap[vb]? = some (.cells (encSh.cells x).toArray 116 (0, 0)) := by
    have hlt := (Array.getElem?_eq_some_iff.1 HV.out).1
    rw [g3.block vb (by have := k2.size; omega) (by simp; exact HI.out.2.2.2), k2.block vb hlt]
    exact HV.out
  obtain ⟨w4, r4, m4, g4⟩ := run_copy_E infoPs 3 m3 i [x] (by omega) (by simp; omega) (n + 1 - i) (c - i) 1 1 ⟨vb, 0, none⟩ (by simp only [Nat.min_def, List.length_singleton]; split <;> omega) (src_one hv3)
  rw [show max (n + 1) (i + ([x] : List Sh).length) = n + 1 by simp; omega, show i + ([x] : List Sh).length = i + 1 from rfl, ins_list xs x i (by omega)] at m4
  have R3 : (Builtin.copy_ #[117, 117] 3 #[.slice (some ⟨g, (i + 1) * 3, none⟩) (n + 1 - (i + 1)) (c - (i + 1)), .slice (some ⟨g, i * 3, none⟩) (n + 1 - i) (c - i)]).run Tryz.prog w2 = .ok (.int .i64 ((xs.drop i).length : Int)) w3 := r3
  have R3b := R3
  rw [show n + 1 - (i + 1) = n - i by omega] at R3b
  generalize ((xs.drop i).length : Int) = q3 at R3 R3b
  have R4 : (Builtin.copy_ #[117, 117] 3 #[.slice (some ⟨g, i * 3, none⟩) (n + 1 - i) (c - i), .slice (some ⟨vb, 0, none⟩) 1 1]).run Tryz.prog w3 = .ok (.int .i64 1) w4 := r4
  have HE := Lib.hid (⟨m4, ((grown_of_below k2).but _).trans (g3.trans g4)⟩ : MineE encSh 116 w4 B (some ⟨g, 0, none⟩) (n + 1) c (xs.take i ++ x :: xs.drop i) ∧ w.grownBy w4 (some g))
  clear m2 hl hdl m3 r3 r4 m4 g3 g4 k2 hov hv3
  go_wp2_with fail
  go_ret
  exact ⟨g, c, rfl, HE.out.1, HE.out.2, .inl rfl⟩

end Go.Proofs.YtdibdfalahjmbaaGreat.Shelf

namespace Go.Proofs.YtdibdfalahjmbaaGreat.Shelf

open Go.RowKit Go.Sort Go.Proofs.YtdibdfalahjmbaaGreat.Rect Go.Proofs.YtdibdfalahjmbaaGreat.More

set_option linter.unusedVariables false

set_option maxRecDepth 100000 in
set_option maxHeartbeats 600000 in
theorem insert_grow (g n c B i vb : Nat) (xs : List Sh) (x : Sh) (w : World) (h : MineE encSh 116 w B (some ⟨g, 0, none⟩) n c xs) (hi : i < n) (hc : c < n + 1) (hn : n < 1000000) (hB : B ≤ w.heap.size) (hv : w.heap[vb]? = some (.cells (encSh.cells x).toArray 116 (0, 0))) :
    Calls Tryz.prog 84 #[.slice (some ⟨g, 0, none⟩) n c, .int .i64 (i : Int), .slice (some ⟨vb, 0, none⟩) 1 1] w (Inserted w B g n (xs.take i ++ x :: xs.drop i)) := by
  obtain ⟨cur, hb1, hb2, hb3, hb4, hb5, hb6⟩ := mine_block h
  obtain rfl : c = n := by omega
  have hl := MineE.len h
  obtain ⟨i0, hi0, hz0, hz1, hz2⟩ := info_parts (show (Tryz.prog.info? 116).map (fun i => (i.zero, i.size, i.bytes)) = some (some (.agg #[.int .i64 0, .int .i64 0, .int .i64 0]), 3, 24) by kernel_rfl)
  have hold : (Builtin.firstCells i0.size i (.slice (some ⟨g, 0, none⟩) i c)).run Tryz.prog w.drew = .ok ((xs.take i).flatMap encSh.cells).toArray w.drew := by
    rw [hz1]
    refine run_firstCells_some w.drew 3 i ⟨g, 0, none⟩ i c _ (by rw [encSh.flat_len, List.length_take, Nat.min_eq_left (by omega)]; rfl) (fun j v hj => ?_)
    have := mine_src (MineE.drew (mine_trunc h (show i ≤ c by omega))) 0 j v (by rw [List.drop_zero]; exact hj)
    rwa [Nat.zero_mul] at this
  have hrz := Lib.run_append_grow_zeros w 117 3 117 116 i0 _ .i64 .i64 Tryz.underlying117 Tryz.underlying3 hi0 hz0 (some ⟨g, 0, none⟩) i c _ hold (c + 1 - i) (by omega) (by rw [hz1]; omega) (by omega) (by omega) (by rw [hz2]; omega) (by rw [hz2]; exact growslice_fits (by omega) (by omega))
  rw [show i + (c + 1 - i) = c + 1 by omega] at hrz
  obtain ⟨G, hG⟩ : ∃ G, grownCap w (c + 1) c 116 = G := ⟨_, rfl⟩
  have hGn : c + 1 ≤ G := by rw [← hG]; exact grownCap_ge w _ _ _
  have hGm : G ≤ maxLen := by rw [← hG]; exact grownCap_le_maxLen w _ _ _ (by unfold maxLen; omega)
  have hG63 : G ≤ 9223372036854775807 := by unfold maxLen at hGm; omega
  rw [hG] at hrz
  obtain ⟨W, hW⟩ : ∃ W, w.heap.size = W := ⟨_, rfl⟩
  obtain ⟨w1, hw1⟩ : ∃ w1, (w.drew.alloc (.cells (((xs.take i).flatMap encSh.cells).toArray ++ Builtin.zeroCells (Value.agg #[.int .i64 0, .int .i64 0, .int .i64 0]).cells (c + 1 - i) ++ Builtin.zeroCells (Value.agg #[.int .i64 0, .int .i64 0, .int .i64 0]).cells (G - (c + 1))) 116)) = w1 := ⟨_, rfl⟩
  rw [hw1, hW] at hrz
  have hz : ∀ m, (Builtin.zeroCells (Value.agg #[.int .i64 0, .int .i64 0, .int .i64 0]).cells m).toList = (List.replicate m ((0, (0, 0)) : Sh)).flatMap encSh.cells := fun m => zeroCells_flat encSh (0, (0, 0)) _ rfl m
  have m1 : MineE encSh 116 w1 B (some ⟨W, 0, none⟩) (c + 1) G (xs.take i ++ List.replicate (c + 1 - i) ((0, (0, 0)) : Sh)) := by
    have hg1 := heap_alloc_new w.drew (.cells (((xs.take i).flatMap encSh.cells).toArray ++ Builtin.zeroCells (Value.agg #[.int .i64 0, .int .i64 0, .int .i64 0]).cells (c + 1 - i) ++ Builtin.zeroCells (Value.agg #[.int .i64 0, .int .i64 0, .int .i64 0]).cells (G - (c + 1))) 116)
    rw [hw1, show w.drew.heap.size = W from hW] at hg1
    have e0 : (((xs.take i).flatMap encSh.cells).toArray ++ Builtin.zeroCells (Value.agg #[.int .i64 0, .int .i64 0, .int .i64 0]).cells (c + 1 - i) ++ Builtin.zeroCells (Value.agg #[.int .i64 0, .int .i64 0, .int .i64 0]).cells (G - (c + 1))).toList
        = (xs.take i ++ List.replicate (c + 1 - i) ((0, (0, 0)) : Sh) ++ List.replicate (G - (c + 1)) ((0, (0, 0)) : Sh)).flatMap encSh.cells := by
      rw [Array.toList_append, Array.toList_append, hz, hz, List.flatMap_append, List.flatMap_append]
    have e1 : (xs.take i ++ List.replicate (c + 1 - i) ((0, (0, 0)) : Sh)).length = c + 1 := by
      rw [List.length_append, List.length_take, List.length_replicate, hl]; omega
    refine mine_of hg1 (by omega) hGn hGm ?_ ?_ e1
    · rw [← Array.length_toList, e0, encSh.flat_len, List.length_append, e1, List.length_replicate]
      congr 1; omega
    · rw [e0, ← flat_take, List.take_append_of_le_length (by omega), List.take_of_length_le (by omega)]
  have hWg : g ≠ W := by have := (MineE.lt h g rfl).2; omega
  have g1 : w.grownBy w1 (some g) := by
    rw [← hw1]
    exact World.grownBy.trans (b := w.drew) ⟨rfl, rfl, rfl, Nat.le_refl _, fun _ _ _ => rfl⟩ (World.grownBy_alloc _ _ _)
  have hv1 : w1.heap[vb]? = some (.cells (encSh.cells x).toArray 116 (0, 0)) := by
    rw [← hw1]
    exact ((World.grownBy_alloc w.drew _ none).block vb (Array.getElem?_eq_some_iff.1 hv).1 (by simp)).trans hv
  obtain ⟨w2, r2, m2, g2⟩ := run_copy_E infoPs 3 m1 i [x] (by omega) (by simp; omega) (c + 1 - i) (G - i) 1 1 ⟨vb, 0, none⟩ (by simp only [Nat.min_def, List.length_singleton]; split <;> omega) (src_one hv1)
  rw [show max (c + 1) (i + ([x] : List Sh).length) = c + 1 by simp; omega, show i + ([x] : List Sh).length = i + 1 from rfl] at m2
  have mg2 : MineE encSh 116 w2 B (some ⟨g, 0, none⟩) c c xs := by
    have := MineE.alloc (MineE.drew h) (.cells (((xs.take i).flatMap encSh.cells).toArray ++ Builtin.zeroCells (Value.agg #[.int .i64 0, .int .i64 0, .int .i64 0]).cells (c + 1 - i) ++ Builtin.zeroCells (Value.agg #[.int .i64 0, .int .i64 0, .int .i64 0]).cells (G - (c + 1))) 116)
    rw [hw1] at this
    exact MineE.kept this g2 (fun k e q => by simp [blk] at e q; omega)
  have RZ := Lib.hid (fun ty => (show (Builtin.append_ #[117, 3] ty #[.slice (some ⟨g, 0, none⟩) i c, .int .i64 ((c : Int) + 1 - (i : Int))]).run Tryz.prog w = .ok (.slice (some ⟨W, 0, none⟩) (c + 1) G) w1 by
    rw [show (c : Int) + 1 - (i : Int) = ((c + 1 - i : Nat) : Int) by omega]; exact hrz))
  have R2 : (Builtin.copy_ #[117, 117] 3 #[.slice (some ⟨W, i * 3, none⟩) (c + 1 - i) (G - i), .slice (some ⟨vb, 0, none⟩) 1 1]).run Tryz.prog w1 = .ok (.int .i64 1) w2 := r2
  have HE := Lib.hid (⟨m2, mg2, g1, g2, hWg, hW, hl, hi, hGn⟩ : MineE encSh 116 w2 B (some ⟨W, 0, none⟩) (c + 1) G _ ∧ MineE encSh 116 w2 B (some ⟨g, 0, none⟩) c c xs ∧ w.grownBy w1 (some g) ∧ w1.grownBy w2 (some W) ∧ g ≠ W ∧ w.heap.size = W ∧ xs.length = c ∧ i < c ∧ c + 1 ≤ G)
  clear hb1 hb2 hb3 hb4 hb5 hb6 hi0 hz0 hz1 hz2 hold hrz hz m1 g1 hv1 r2 m2 mg2 g2 hv hw1 hG hGm hl h cur hWg hB
  have hz2 : ¬ ((i : Int) = (c : Int)) := by omega
  have hin : i ≤ c := by omega
  have hb3 : (i : Int) ≤ (c : Int) := by omega
  have hb5 : (i : Int) ≤ (c : Int) + 1 := by omega
  have hb6 : (i : Int) + 1 ≤ (c : Int) + 1 := by omega
  have hw1 : IntKind.i64.wrap ((i : Int) + 1) = (i : Int) + 1 := IntWalk.i64_in _ (by omega)
  have htn : ((i : Int) + 1).toNat = i + 1 := by omega
  have hb1 : (0 : Int) ≤ (i : Int) + 1 := by omega
  have hb2 : ¬ (G = i + 1) := by omega
  have hb4 : ¬ (c = i) := by omega
  have hb7 : ¬ (G = i) := by omega
  clear hW hi
  go_enter Tryz.func84, Tryz.ntmps84
  go_upto_region 11 with (first
    | (at_builtin; refine wpList_append_at _ rfl _ _ 117 3 rfl _ _ rfl rfl (RZ.out _) ?_))
  refine Hold.wp_region_hold [.val (.slice (some ⟨W, 0, none⟩) (c + 1) G), .val (.int .i64 (i : Int)), .val (.int .i64 1), .val (.int .i64 ((i : Int) + 1)), .val (.slice (some ⟨W, (i + 1) * 3, none⟩) (c + 1 - (i + 1)) (G - (i + 1))), .val (.slice (some ⟨g, 0, none⟩) c c), .val (.int .i64 (i : Int)), .val (.slice (some ⟨g, i * 3, none⟩) (c - i) (c - i))] (by kernel_rfl) (by kernel_rfl) (by kernel_rfl) ?_ ?_
  · simp only [Hold.fill, Hold.Leave.value]
    refine ⟨?_, ?_, ?_, ?_, ?_, ?_, ?_, ?_, trivial⟩ <;> (intro gg w' hw hk; go_simp; first | exact ⟨rfl, rfl⟩ | skip)
  intro gg w3 k3 hgg
  clear hgg
  simp only [Hold.fill, Hold.Leave.value, List.length_cons, List.length_nil, List.drop_succ_cons, List.drop_zero]
  obtain ⟨q1, q2, q3, q4, q5, q6, q7, q8, q9⟩ := HE.out
  have m3 := MineE.below q1 k3
  have mg3 := MineE.below q2 k3
  have hdl : (xs.drop i).length = c - i := by rw [List.length_drop, q7]
  obtain ⟨w4, r4, m4, g4⟩ := run_copy_E infoPs 3 m3 (i + 1) (xs.drop i) (by omega) (by omega) (c + 1 - (i + 1)) (G - (i + 1)) (c - i) (c - i) ⟨g, i * 3, none⟩ (by rw [hdl]; simp only [Nat.min_def]; split <;> omega) (mine_src mg3 i)
  rw [show max (c + 1) (i + 1 + (xs.drop i).length) = c + 1 by omega, ins_list2 xs _ x i (by omega) (by rw [List.length_replicate, q7])] at m4
  have R4 : (Builtin.copy_ #[117, 117] 3 #[.slice (some ⟨W, (i + 1) * 3, none⟩) (c + 1 - (i + 1)) (G - (i + 1)), .slice (some ⟨g, i * 3, none⟩) (c - i) (c - i)]).run Tryz.prog w3 = .ok (.int .i64 ((xs.drop i).length : Int)) w4 := r4
  have R4b := R4
  rw [show c + 1 - (i + 1) = c - i by omega] at R4b
  generalize ((xs.drop i).length : Int) = qz at R4 R4b
  have HX := Lib.hid (⟨m4, q3.andThen (q4.trans (((grown_of_below k3).but _).trans g4)) (fun j e => .inl (by injection e with e; omega)), q6⟩ : MineE encSh 116 w4 B (some ⟨W, 0, none⟩) (c + 1) G (xs.take i ++ x :: xs.drop i) ∧ w.grownBy w4 (some g) ∧ w.heap.size = W)
  clear q1 q2 q3 q4 q5 q6 q7 q8 q9 m3 mg3 hdl r4 m4 g4 k3
  go_wp2_with fail
  go_ret
  exact ⟨W, G, rfl, HX.out.1, HX.out.2.1, .inr HX.out.2.2.symm⟩

theorem insert_any (g n c B i vb : Nat) (xs : List Sh) (x : Sh) (w : World) (h : MineE encSh 116 w B (some ⟨g, 0, none⟩) n c xs) (hi : i ≤ n) (hn : n < 1000000) (hB : B ≤ w.heap.size) (hv : w.heap[vb]? = some (.cells (encSh.cells x).toArray 116 (0, 0))) (hne : vb ≠ g) :
    Calls Tryz.prog 84 #[.slice (some ⟨g, 0, none⟩) n c, .int .i64 (i : Int), .slice (some ⟨vb, 0, none⟩) 1 1] w (Inserted w B g n (xs.take i ++ x :: xs.drop i)) := by
  by_cases h1 : i < n
  · by_cases h2 : n + 1 ≤ c
    · exact insert_shift g n c B i vb xs x w h h1 h2 hn hB hv hne
    · exact insert_grow g n c B i vb xs x w h h1 (by omega) hn hB hv
  · obtain rfl : i = n := by omega
    have hl := MineE.len h
    have := insert_end g i c B vb xs x w h hn hB hv
    rwa [List.take_of_length_le (by omega), List.drop_of_length_le (by omega)]

end Go.Proofs.YtdibdfalahjmbaaGreat.Shelf

namespace Go.Proofs.YtdibdfalahjmbaaGreat

open Go.RowKit Go.Sort

namespace Told

inductive Leave where
  | val (v : Value)
  | box (o : Obj)
  | row (o : Obj) (n c : Nat)
  | skip

def Leave.value (y : Leave) (g : Nat) : Value := match y with
  | .val v => v
  | .box _ => .pointer (some ⟨g, 0, none⟩)
  | .row _ n c => .slice (some ⟨g, 0, none⟩) n c
  | .skip => undef

def Leave.obj : Leave → Option Obj
  | .val _ => none
  | .box o => some o
  | .row o _ _ => some o
  | .skip => none

def Leave.isSkip : Leave → Bool
  | .skip => true
  | _ => false

section

variable {P : Program}

def stays (P : Program) (w : World) (v : Value) : Result Next → Prop
  | .ok (.value u) w' => w' = w ∧ u = v
  | .ok (.enter f args) w' => w' = w ∧ Calls P f args w (fun e w'' => e = .returned v ∧ Below w.heap.size w w'')
  | _ => False

def fill (g : Nat → Nat) : Nat → List Oper → List Leave → Act → Act
  | k, o :: os, y :: ys, a => fill g (k + 1) os ys (a.put o.dst (y.value (g k)))
  | _, _, _, a => a

def known (ys : List Leave) (o : Oper) (W : World) (g : Nat → Nat) (w : World) : Prop :=
  ∀ e ∈ o.after, Region.binds .any e = true → ∀ y b, ys[e.on]? = some y → y.obj = some b → W.heap.size ≤ g e.on ∧ w.heap[g e.on]? = some b

def leaves (P : Program) (o : Oper) (F : (Nat → Nat) → Act) (ys : List Leave) (W : World) : Leave → Prop
  | .val v => ∀ g w, Below W.heap.size W w → known ys o W g w → stays P w v ((execOp (F g).eval o).run P w)
  | .box b => ∀ g w, Below W.heap.size W w → known ys o W g w → (execOp (F g).eval o).run P w = .ok (.value (.pointer (some ⟨w.heap.size, 0, none⟩))) (w.alloc b)
  | .row b n c => ∀ g w, Below W.heap.size W w → known ys o W g w → (execOp (F g).eval o).run P w = .ok (.value (.slice (some ⟨w.heap.size, 0, none⟩) n c)) (w.alloc b)
  | .skip => True

def allLeave (P : Program) (F : (Nat → Nat) → Act) (all : List Leave) (W : World) : List Oper → List Leave → Prop
  | o :: os, y :: ys => leaves P o F all W y ∧ allLeave P F all W os ys
  | _, _ => True

theorem allLeave_at {F : (Nat → Nat) → Act} {all : List Leave} {W : World} : ∀ {os : List Oper} {ys : List Leave} {i : Nat} {o : Oper} {y : Leave}, allLeave P F all W os ys → os[i]? = some o → ys[i]? = some y → leaves P o F all W y
  | o :: os, y :: ys, 0, _, _, h, h1, h2 => by
    simp only [List.getElem?_cons_zero, Option.some.injEq] at h1 h2; subst h1 h2; exact h.1
  | o :: os, y :: ys, i + 1, _, _, h, h1, h2 => by
    simp only [List.getElem?_cons_succ] at h1 h2; exact allLeave_at h.2 h1 h2
  | [], _, _, _, _, _, h1, _ => by simp at h1
  | _ :: _, [], _, _, _, _, _, h2 => by simp at h2

theorem put_size (a : Act) (d : Option Tmp) (v : Value) : (a.put d v).tmps.size = a.tmps.size := by cases d <;> simp [Act.put]

theorem put_defers (a : Act) (d : Option Tmp) (v : Value) : (a.put d v).defers = a.defers := by cases d <;> rfl

theorem put_slot (a : Act) (d : Tmp) (v : Value) (h : d < a.tmps.size) : (a.put (some d) v).tmps.getD d undef = v := by simp [Act.put, h]

theorem put_other (a : Act) (d : Option Tmp) (v : Value) (t : Tmp) (h : d ≠ some t) : (a.put d v).tmps.getD t undef = a.tmps.getD t undef := by
  cases d with
  | none => rfl
  | some d =>
    have hne : d ≠ t := fun e => h (by rw [e])
    simp [Act.put, Array.getElem?_setIfInBounds_ne hne]

theorem fill_size (g : Nat → Nat) : ∀ (k : Nat) (os : List Oper) (ys : List Leave) (a : Act), (fill g k os ys a).tmps.size = a.tmps.size
  | k, o :: os, y :: ys, a => by rw [fill, fill_size g (k + 1) os ys, put_size]
  | _, [], _, _ => rfl
  | _, _ :: _, [], _ => rfl

theorem fill_defers (g : Nat → Nat) : ∀ (k : Nat) (os : List Oper) (ys : List Leave) (a : Act), (fill g k os ys a).defers = a.defers
  | k, o :: os, y :: ys, a => by rw [fill, fill_defers g (k + 1) os ys, put_defers]
  | _, [], _, _ => rfl
  | _, _ :: _, [], _ => rfl

theorem fill_other (g : Nat → Nat) (t : Tmp) : ∀ (k : Nat) (os : List Oper) (ys : List Leave) (a : Act), (∀ i o, i < ys.length → os[i]? = some o → o.dst ≠ some t) → (fill g k os ys a).tmps.getD t undef = a.tmps.getD t undef
  | k, o :: os, y :: ys, a, h => by
    rw [fill, fill_other g t (k + 1) os ys _ (fun i o hi ho => h (i + 1) o (by simp; omega) (by simpa using ho)), put_other _ _ _ _ (h 0 o (by simp) rfl)]
  | _, [], _, _, _ => rfl
  | _, _ :: _, [], _, _ => rfl

theorem fill_slot (g : Nat → Nat) (d : Tmp) : ∀ (k : Nat) (os : List Oper) (ys : List Leave) (a : Act) (i : Nat) (o : Oper) (y : Leave), d < a.tmps.size → os[i]? = some o → ys[i]? = some y → o.dst = some d →
    (∀ j p, j < ys.length → j ≠ i → os[j]? = some p → p.dst ≠ some d) → (fill g k os ys a).tmps.getD d undef = y.value (g (k + i))
  | k, o :: os, y :: ys, a, 0, _, _, hd, ho, hy, hdst, hne => by
    simp only [List.getElem?_cons_zero, Option.some.injEq] at ho hy
    subst ho hy
    rw [fill, fill_other g d (k + 1) os ys _ (fun i p hi hp => hne (i + 1) p (by simp; omega) (by omega) (by simpa using hp)), hdst, put_slot _ _ _ hd]
    rfl
  | k, o :: os, y :: ys, a, i + 1, o', y', hd, ho, hy, hdst, hne => by
    simp only [List.getElem?_cons_succ] at ho hy
    rw [fill, fill_slot g d (k + 1) os ys _ i o' y' (by rw [put_size]; exact hd) ho hy hdst (fun j p hj hji hp => hne (j + 1) p (by simp; omega) (by omega) (by simpa using hp))]
    congr 2
    omega
  | _, [], _, _, _, _, _, _, ho, _, _, _ => by simp at ho
  | _, _ :: _, [], _, _, _, _, _, _, hy, _, _ => by simp at hy

def headB (l : List Oper) (n size : Nat) : Bool :=
  (List.range n).all fun i => match l[i]? with
    | none => false
    | some o => (match o.dst with | none => false | some d => decide (d < size)) && (o.after.all fun e => !Region.binds .any e || decide (e.on < i)) &&
      (List.range n).all fun j => match l[j]? with
        | none => false
        | some p => (decide (i = j) || p.dst != o.dst) &&
          (match p.dst with | none => false | some d => !(o.looksAt l.toArray).contains d || o.after.any (fun e => Region.binds .any e && e.on == j))

def guardsB : List Oper → List Leave → List Leave → Bool
  | o :: os, y :: ys, all => (match o.guard with
    | none => !y.isSkip
    | some (k, b) => o.after.any (fun e => Region.binds .any e && e.on == k) && (match all[k]? with
      | some (.val (.bool c)) => (c == b) == !y.isSkip
      | _ => false)) && guardsB os ys all
  | _, _, _ => true

structure HeadOk (l : List Oper) (n size : Nat) : Prop where
  dst : ∀ i o, i < n → l[i]? = some o → ∃ d, o.dst = some d ∧ d < size
  back : ∀ i o, i < n → l[i]? = some o → ∀ e ∈ o.after, Region.binds .any e = true → e.on < i
  apart : ∀ i j o p, i < n → j < n → l[i]? = some o → l[j]? = some p → i ≠ j → p.dst ≠ o.dst
  looks : ∀ i j o p d, i < n → j < n → l[i]? = some o → l[j]? = some p → p.dst = some d → d ∈ o.looksAt l.toArray → ∃ e ∈ o.after, Region.binds .any e = true ∧ e.on = j
  there : ∀ i, i < n → ∃ o, l[i]? = some o

theorem headOk {l : List Oper} {n size : Nat} (h : headB l n size = true) : HeadOk l n size := by
  have key : ∀ i, i < n → ∃ o, l[i]? = some o ∧ (∃ d, o.dst = some d ∧ d < size) ∧ (∀ e ∈ o.after, Region.binds .any e = true → e.on < i) ∧
      ∀ j, j < n → ∃ p, l[j]? = some p ∧ (i ≠ j → p.dst ≠ o.dst) ∧ ∀ d, p.dst = some d → d ∈ o.looksAt l.toArray → ∃ e ∈ o.after, Region.binds .any e = true ∧ e.on = j := by
    intro i hi
    have h1 := List.all_eq_true.1 h i (List.mem_range.2 hi)
    cases ho : l[i]? with
    | none => rw [ho] at h1; cases h1
    | some o =>
      simp only [ho, Bool.and_eq_true] at h1
      obtain ⟨⟨h3, h4⟩, h5⟩ := h1
      refine ⟨o, rfl, ?_, ?_, ?_⟩
      · cases hd : o.dst with
        | none => rw [hd] at h3; cases h3
        | some d => rw [hd] at h3; exact ⟨d, rfl, by simpa using h3⟩
      · intro e he hb
        have := Array.all_eq_true'.1 h4 e he
        simpa [hb] using this
      · intro j hj
        have h6 := List.all_eq_true.1 h5 j (List.mem_range.2 hj)
        cases hp : l[j]? with
        | none => rw [hp] at h6; cases h6
        | some p =>
          simp only [hp, Bool.and_eq_true] at h6
          obtain ⟨h7, h8⟩ := h6
          refine ⟨p, rfl, fun hij => ?_, fun d hd hm => ?_⟩
          · have : (p.dst != o.dst) = true := by simpa [hij] using h7
            simpa using this
          · rw [hd] at h8
            have hc : (o.looksAt l.toArray).contains d = true := by simpa using hm
            simp only [hc, Bool.not_true, Bool.false_or] at h8
            obtain ⟨e, he, he2⟩ := Array.any_eq_true'.1 h8
            simp only [Bool.and_eq_true, beq_iff_eq] at he2
            exact ⟨e, he, he2⟩
  refine ⟨?_, ?_, ?_, ?_, ?_⟩
  · intro i o hi ho; obtain ⟨o', ho', h1, _⟩ := key i hi; rw [ho] at ho'; cases ho'; exact h1
  · intro i o hi ho; obtain ⟨o', ho', _, h1, _⟩ := key i hi; rw [ho] at ho'; cases ho'; exact h1
  · intro i j o p hi hj ho hp hij; obtain ⟨o', ho', _, _, h1⟩ := key i hi; rw [ho] at ho'; cases ho'
    obtain ⟨p', hp', h2, _⟩ := h1 j hj; rw [hp] at hp'; cases hp'; exact h2 hij
  · intro i j o p d hi hj ho hp hd hm; obtain ⟨o', ho', _, _, h1⟩ := key i hi; rw [ho] at ho'; cases ho'
    obtain ⟨p', hp', _, h2⟩ := h1 j hj; rw [hp] at hp'; cases hp'; exact h2 d hd hm
  · intro i hi; obtain ⟨o', ho', _⟩ := key i hi; exact ⟨o', ho'⟩

theorem guards_at : ∀ {os : List Oper} {ys all : List Leave} {i : Nat} {o : Oper} {y : Leave}, guardsB os ys all = true → os[i]? = some o → ys[i]? = some y →
    (o.guard = none ∧ y.isSkip = false) ∨ ∃ k b c, o.guard = some (k, b) ∧ (∃ e ∈ o.after, Region.binds .any e = true ∧ e.on = k) ∧ all[k]? = some (.val (.bool c)) ∧ ((c == b) = !y.isSkip)
  | o :: os, y :: ys, all, 0, _, _, h, h1, h2 => by
    simp only [List.getElem?_cons_zero, Option.some.injEq] at h1 h2
    subst h1 h2
    simp only [guardsB, Bool.and_eq_true] at h
    obtain ⟨h, _⟩ := h
    cases hg : o.guard with
    | none => rw [hg] at h; left; exact ⟨rfl, by simpa using h⟩
    | some kb =>
      obtain ⟨k, b⟩ := kb
      rw [hg] at h
      simp only [Bool.and_eq_true] at h
      obtain ⟨h3, h4⟩ := h
      obtain ⟨e, he, he2⟩ := Array.any_eq_true'.1 h3
      simp only [Bool.and_eq_true, beq_iff_eq] at he2
      right
      split at h4
      · rename_i c hc
        exact ⟨k, b, c, rfl, ⟨e, he, he2⟩, hc, by simpa using h4⟩
      · cases h4
  | o :: os, y :: ys, all, i + 1, _, _, h, h1, h2 => by
    simp only [List.getElem?_cons_succ] at h1 h2
    simp only [guardsB, Bool.and_eq_true] at h
    exact guards_at h.2 h1 h2
  | [], _, _, _, _, _, _, h1, _ => by simp at h1
  | _ :: _, [], _, _, _, _, _, _, h2 => by simp at h2

structure Telling (l : List Oper) (ys : List Leave) (a0 : Act) (W : World) (g : Nat → Nat) (listed : Array Bool) (a : Act) (w : World) : Prop where
  size : a.tmps.size = a0.tmps.size
  defers : a.defers = a0.defers
  below : Below W.heap.size W w
  other : ∀ t, (∀ i o, i < ys.length → l[i]? = some o → listed.getD i false = true → o.dst ≠ some t) → a.tmps.getD t undef = a0.tmps.getD t undef
  slot : ∀ i o y d, l[i]? = some o → ys[i]? = some y → listed.getD i false = true → o.dst = some d → a.tmps.getD d undef = y.value (g i)
  boxes : ∀ i y b, ys[i]? = some y → y.obj = some b → listed.getD i false = true → W.heap.size ≤ g i ∧ w.heap[g i]? = some b
  apart : ∀ i j y z b c, i ≠ j → ys[i]? = some y → ys[j]? = some z → y.obj = some b → z.obj = some c → listed.getD i false = true → listed.getD j false = true → g i ≠ g j

theorem getD_set_cases {listed : Array Bool} {i j : Nat} (h : (listed.setIfInBounds i true).getD j false = true) : j = i ∨ listed.getD j false = true := by
  by_cases hji : i = j
  · exact .inl hji.symm
  · rw [getD_set_ne false hji] at h; exact .inr h

variable {l : List Oper} {ys : List Leave} {a0 : Act} {W : World}

theorem eval_tmp (a : Act) (t : Tmp) : a.eval (.tmp t) = a.tmps.getD t undef := rfl

theorem Telling.same {g : Nat → Nat} {listed : Array Bool} {a : Act} {w : World} (ok : HeadOk l ys.length a0.tmps.size) (h : Telling l ys a0 W g listed a w) (hs : Region.noSelect l.toArray = true) {i : Nat} {o : Oper} (hi : i < ys.length) (ho : l[i]? = some o)
    (hd : ∀ e ∈ o.after, Region.binds .any e = true → listed.getD e.on false = true) : execOp a.eval o = execOp (fill g 0 l ys a0).eval o := by
  have hsel : ∀ cs b, o.op ≠ .select cs b := fun cs b => Region.noSelect_spec hs i o cs b (by simpa using ho)
  refine execOp_congr o hsel fun x hx => ?_
  cases x with
  | tmp t =>
    have hm : t ∈ o.looksAt l.toArray := List.mem_append_left _ (List.mem_filterMap.2 ⟨.tmp t, by simpa using hx, rfl⟩)
    rw [eval_tmp, eval_tmp]
    by_cases hex : ∃ j p, j < ys.length ∧ l[j]? = some p ∧ p.dst = some t
    · obtain ⟨j, p, hj, hp, hpt⟩ := hex
      obtain ⟨e, he, hb, hon⟩ := ok.looks i j o p t hi hj ho hp hpt hm
      have hlj : listed.getD j false = true := by rw [← hon]; exact hd e he hb
      have hy : ys[j]? = some ys[j] := by simp [hj]
      obtain ⟨d, hd1, hd2⟩ := ok.dst j p hj hp
      have htd : t = d := by rw [hd1] at hpt; exact (Option.some.inj hpt).symm
      rw [h.slot j p _ t hp hy hlj hpt, fill_slot g t 0 l ys a0 j p _ (by rw [htd]; exact hd2) hp hy hpt (fun k q hk hkj hq e => ok.apart j k p q hj hk hp hq (Ne.symm hkj) (by rw [e, hpt])), Nat.zero_add]
    · rw [h.other t (fun j p hj hp _ e => hex ⟨j, p, hj, hp, e⟩), fill_other g t 0 l ys a0 (fun j p hj hp e => hex ⟨j, p, hj, hp, e⟩)]
  | _ => rfl

theorem Telling.plain {g : Nat → Nat} {listed : Array Bool} {a : Act} {w w' : World} {i : Nat} {o : Oper} {y : Leave} {v : Value} (ok : HeadOk l ys.length a0.tmps.size) (h : Telling l ys a0 W g listed a w) (hi : i < ys.length) (ho : l[i]? = some o) (hy : ys[i]? = some y)
    (hin : i < listed.size) (hun : listed.getD i false = false) (hv : v = y.value (g i)) (hno : y.obj = none) (hb : Below w.heap.size w w') : Telling l ys a0 W g (listed.setIfInBounds i true) (a.put o.dst v) w' := by
  obtain ⟨d, hd1, hd2⟩ := ok.dst i o hi ho
  have hset : (listed.setIfInBounds i true).getD i false = true := by simp [hin]
  refine ⟨by rw [put_size, h.size], by rw [put_defers, h.defers], h.below.trans (hb.mono h.below.size), ?_, ?_, ?_, ?_⟩
  · intro t ht
    rw [put_other _ _ _ _ (ht i o hi ho hset)]
    refine h.other t fun j p hj hp hl => ht j p hj hp ?_
    by_cases hij : i = j
    · subst hij; rw [hun] at hl; cases hl
    · rw [getD_set_ne false hij]; exact hl
  · intro j p z t hp hyj hl ht
    by_cases hij : j = i
    · subst hij
      rw [ho] at hp; cases hp
      rw [hy] at hyj; cases hyj
      rw [hd1] at ht; cases ht
      rw [hd1, put_slot _ _ _ (by rw [h.size]; exact hd2), hv]
    · rcases getD_set_cases hl with e | hl'
      · exact absurd e hij
      · have hj : j < ys.length := (List.getElem?_eq_some_iff.1 hyj).1
        rw [put_other _ _ _ _ (fun e => ok.apart j i p o hj hi hp ho hij (by rw [e, ht])), h.slot j p z t hp hyj hl' ht]
  · intro j z b hyj hz hl
    rcases getD_set_cases hl with e | hl'
    · subst e; rw [hy] at hyj; cases hyj; rw [hno] at hz; cases hz
    · obtain ⟨h1, h2⟩ := h.boxes j z b hyj hz hl'
      exact ⟨h1, by rw [hb.block _ (lt_of_block h2)]; exact h2⟩
  · intro j k z u b c hjk hj hk hz hu hlj hlk
    rcases getD_set_cases hlj with e | hlj'
    · subst e; rw [hy] at hj; cases hj; rw [hno] at hz; cases hz
    · rcases getD_set_cases hlk with e | hlk'
      · subst e; rw [hy] at hk; cases hk; rw [hno] at hu; cases hu
      · exact h.apart j k z u b c hjk hj hk hz hu hlj' hlk'

theorem Telling.block {g : Nat → Nat} {listed : Array Bool} {a : Act} {w : World} {i : Nat} {o : Oper} {y : Leave} {b : Obj} (ok : HeadOk l ys.length a0.tmps.size) (h : Telling l ys a0 W g listed a w) (hi : i < ys.length) (ho : l[i]? = some o) (hy : ys[i]? = some y)
    (hin : i < listed.size) (hun : listed.getD i false = false) (hob : y.obj = some b) : ∃ g', Telling l ys a0 W g' (listed.setIfInBounds i true) (a.put o.dst (y.value w.heap.size)) (w.alloc b) := by
  obtain ⟨d, hd1, hd2⟩ := ok.dst i o hi ho
  have hset : (listed.setIfInBounds i true).getD i false = true := by simp [hin]
  obtain ⟨gg, hgi, hgj⟩ : ∃ gg : Nat → Nat, gg i = w.heap.size ∧ ∀ j, j ≠ i → gg j = g j := ⟨fun j => if j = i then w.heap.size else g j, by simp, fun j hj => by simp [hj]⟩
  refine ⟨gg, by rw [put_size, h.size], by rw [put_defers, h.defers], h.below.alloc h.below.size b, ?_, ?_, ?_, ?_⟩
  · intro t ht
    rw [put_other _ _ _ _ (ht i o hi ho hset)]
    refine h.other t fun j p hj hp hl => ht j p hj hp ?_
    by_cases hij : i = j
    · subst hij; rw [hun] at hl; cases hl
    · rw [getD_set_ne false hij]; exact hl
  · intro j p z t hp hyj hl ht
    by_cases hij : j = i
    · subst hij
      rw [ho] at hp; cases hp
      rw [hy] at hyj; cases hyj
      rw [hd1] at ht; cases ht
      rw [hd1, put_slot _ _ _ (by rw [h.size]; exact hd2), hgi]
    · rcases getD_set_cases hl with e | hl'
      · exact absurd e hij
      · have hj : j < ys.length := (List.getElem?_eq_some_iff.1 hyj).1
        rw [put_other _ _ _ _ (fun e => ok.apart j i p o hj hi hp ho hij (by rw [e, ht])), h.slot j p z t hp hyj hl' ht, hgj j hij]
  · intro j z c hj hz hl
    by_cases hji : j = i
    · subst hji
      rw [hy] at hj; cases hj
      rw [hob] at hz; cases hz
      rw [hgi]
      exact ⟨h.below.size, by show (w.heap.push b)[w.heap.size]? = some b; simp⟩
    · rcases getD_set_cases hl with e | hl'
      · exact absurd e hji
      · obtain ⟨h1, h2⟩ := h.boxes j z c hj hz hl'
        rw [hgj j hji]
        exact ⟨h1, by rw [Below.heap_alloc _ _ _ (lt_of_block h2)]; exact h2⟩
  · intro j k z u c1 c2 hjk hj hk hz hu hlj hlk
    by_cases hji : j = i
    · have hki : k ≠ i := fun e => hjk (hji.trans e.symm)
      rcases getD_set_cases hlk with e | hlk'
      · exact absurd e hki
      · have := lt_of_block (h.boxes k u c2 hk hu hlk').2
        rw [hgj k hki, hji, hgi]; omega
    · rcases getD_set_cases hlj with e | hlj'
      · exact absurd e hji
      · by_cases hki : k = i
        · have := lt_of_block (h.boxes j z c1 hj hz hlj').2
          rw [hgj j hji, hki, hgi]; omega
        · rcases getD_set_cases hlk with e | hlk'
          · exact absurd e hki
          · rw [hgj j hji, hgj k hki]; exact h.apart j k z u c1 c2 hjk hj hk hz hu hlj' hlk'

theorem Telling.step {g : Nat → Nat} {listed : Array Bool} {a : Act} {w : World} {Q : Exit → Act → World → Prop} (ok : HeadOk l ys.length a0.tmps.size) (h : Telling l ys a0 W g listed a w) (hs : Region.noSelect l.toArray = true)
    (hgd : guardsB l ys ys = true) (hall : allLeave P (fun g => fill g 0 l ys a0) ys W l ys) (hsz : listed.size = l.toArray.size) {i : Nat} (hi : i < ys.length) (hr : i ∈ Region.ready .any l.toArray listed) :
    wpOp P l.toArray Q i (fun a' w' => ∃ g, Telling l ys a0 W g (listed.setIfInBounds i true) a' w') a w := by
  obtain ⟨hun, o, ho, hdep⟩ := mem_ready.1 hr
  have ho' : l[i]? = some o := by simpa using ho
  have hy : ys[i]? = some ys[i] := by simp [hi]
  have hsame := h.same ok hs hi ho' hdep
  have hY := allLeave_at hall ho' hy
  have hun' : listed.getD i false = false := getD_both hun
  have hin : i < listed.size := by
    rw [hsz]; simpa using (List.getElem?_eq_some_iff.1 ho').1
  have hkn : known ys o W g w := fun e he hb y b hye hyb => h.boxes e.on y b hye hyb (hdep e he hb)
  have hw : Region.wanted o (yielded l.toArray a.tmps) = !(ys[i]).isSkip := by
    rcases guards_at hgd ho' hy with ⟨hg, hsk⟩ | ⟨k, b, c, hg, ⟨e, he, hb, hon⟩, hk, hcb⟩
    · simp [Region.wanted, hg, hsk]
    · have hlk : listed.getD k false = true := by rw [← hon]; exact hdep e he hb
      have hkl : k < ys.length := (List.getElem?_eq_some_iff.1 hk).1
      obtain ⟨p, hp⟩ := ok.there k hkl
      obtain ⟨d, hd1, hd2⟩ := ok.dst k p hkl hp
      have hsl := h.slot k p _ d hp hk hlk hd1
      have hda : d < a.tmps.size := by rw [h.size]; exact hd2
      have hyl : yielded l.toArray a.tmps k = some c := by
        unfold yielded
        simp only [List.getElem?_toArray, hp, Option.bind_some, hd1]
        have : a.tmps[d]? = some (.bool c) := by
          rw [Array.getElem?_eq_getElem hda]
          simpa [Leave.value, hda] using hsl
        rw [this]
      simp only [Region.wanted, hg, hyl]
      rw [← hcb]
      cases c <;> cases b <;> rfl
  unfold wpOp
  simp only [ho, hw]
  revert hY
  generalize hyi : ys[i] = y at *
  cases y with
  | skip =>
    intro _
    simp only [Leave.isSkip, Bool.not_true, Bool.false_eq_true, if_false]
    exact ⟨g, h.plain ok hi ho' hy hin hun' rfl rfl (Below.refl _ _)⟩
  | val v =>
    intro hY
    simp only [Leave.isSkip, Bool.not_false, if_true]
    left
    unfold Oper.wp
    rw [hsame]
    have h3 := hY g w h.below hkn
    generalize (execOp (fill g 0 l ys a0).eval o).run P w = r at *
    cases r with
    | ok nx w' =>
      cases nx <;> simp only [stays] at h3 <;> simp only [Oper.upon]
      case value u =>
        obtain ⟨rfl, rfl⟩ := h3
        exact ⟨g, h.plain ok hi ho' hy hin hun' rfl rfl (Below.refl _ _)⟩
      case enter f args =>
        obtain ⟨rfl, hc⟩ := h3
        refine hc.mono fun e w'' ⟨he, hb⟩ => ?_
        subst he
        exact ⟨g, h.plain ok hi ho' hy hin hun' rfl rfl hb⟩
    | halt x w' => simp only [stays] at h3
  | box b =>
    intro hY
    simp only [Leave.isSkip, Bool.not_false, if_true]
    left
    unfold Oper.wp
    rw [hsame, hY g w h.below hkn]
    simp only [Oper.upon]
    exact h.block ok hi ho' hy hin hun' rfl
  | row b n c =>
    intro hY
    simp only [Leave.isSkip, Bool.not_false, if_true]
    left
    unfold Oper.wp
    rw [hsame, hY g w h.below hkn]
    simp only [Oper.upon]
    exact h.block ok hi ho' hy hin hun' rfl

theorem Telling.full {g : Nat → Nat} {listed : Array Bool} {a : Act} {w : World} (ok : HeadOk l ys.length a0.tmps.size) (h : Telling l ys a0 W g listed a w) (hl : ∀ i, i < ys.length → listed.getD i false = true) : a = fill g 0 l ys a0 := by
  have hsz : a.tmps.size = (fill g 0 l ys a0).tmps.size := by rw [fill_size, h.size]
  have hslot : ∀ t, a.tmps.getD t undef = (fill g 0 l ys a0).tmps.getD t undef := by
    intro t
    by_cases hex : ∃ j p, j < ys.length ∧ l[j]? = some p ∧ p.dst = some t
    · obtain ⟨j, p, hj, hp, hpt⟩ := hex
      have hy : ys[j]? = some ys[j] := by simp [hj]
      obtain ⟨d, hd1, hd2⟩ := ok.dst j p hj hp
      have htd : t = d := by rw [hd1] at hpt; exact (Option.some.inj hpt).symm
      rw [h.slot j p _ t hp hy (hl j hj) hpt, fill_slot g t 0 l ys a0 j p _ (by rw [htd]; exact hd2) hp hy hpt (fun k q hk hkj hq e => ok.apart j k p q hj hk hp hq (Ne.symm hkj) (by rw [e, hpt])), Nat.zero_add]
    · rw [h.other t (fun j p hj hp _ e => hex ⟨j, p, hj, hp, e⟩), fill_other g t 0 l ys a0 (fun j p hj hp e => hex ⟨j, p, hj, hp, e⟩)]
  have ht : a.tmps = (fill g 0 l ys a0).tmps := by
    refine Array.ext hsz fun t h1 h2 => ?_
    have := hslot t
    simpa [h1, h2] using this
  have hdf : a.defers = (fill g 0 l ys a0).defers := by rw [fill_defers, h.defers]
  generalize fill g 0 l ys a0 = F at *
  cases a; cases F
  simp only at ht hdf
  subst ht hdf
  rfl

end

end Told

end Go.Proofs.YtdibdfalahjmbaaGreat
