/- slices.Insert of one shelf: at the end, in place, or into a new row. -/
import Derived.Test.YtfomhdhiibcdfaaGreatPart24
import Derived.Laws.NewBlocks
namespace Go.Proofs.YtfomhdhiibcdfaaGreat.Shelf
open Go.RowKit Go.Sort Go.Proofs.YtfomhdhiibcdfaaGreat.Rect Go.Proofs.YtfomhdhiibcdfaaGreat.More
set_option linter.unusedVariables false

theorem wpList_copy_run (w : World) {ops : Array Oper} {rest : List Oper} {o : Oper} {a : Act} {Q : Exit → Act → World → Prop} (hgd : o.guard = none) (d s : Operand) (t t' : TypeId)
    (ho : o.op = .call { callee := .builtin .copy, args := #[d, s], argTypes := #[t, t'] }) (v u : Value) (hd : a.eval d = v) (hs : a.eval s = u) {v' : Value} {w' : World}
    (hr : (Builtin.copy_ #[t, t'] o.type #[v, u]).run Tryz.prog w = .ok v' w') (h : wpList Tryz.prog ops Q rest (a.put o.dst v') w') : wpList Tryz.prog ops Q (o :: rest) a w := by
  refine wpList_plain hgd fun _ hK => ?_
  unfold Oper.wp execOp
  simp only [ho, resolve, invoke, builtin, Sem.run_bind, Sem.run_pure, Result.andThen_ok, List.map_toArray, List.map_cons, List.map_nil, hd, hs, hr]
  exact hK _ _ h

theorem wpList_append_at (w : World) {ops : Array Oper} {rest : List Oper} {o : Oper} {a : Act} {Q : Exit → Act → World → Prop} (hgd : o.guard = none) (d s : Operand) (t t' : TypeId)
    (ho : o.op = .call { callee := .builtin .append, args := #[d, s], argTypes := #[t, t'] }) (v u : Value) (hd : a.eval d = v) (hs : a.eval s = u) {v' : Value} {w' : World}
    (hr : (Builtin.append_ #[t, t'] o.type #[v, u]).run Tryz.prog w = .ok v' w') (h : wpList Tryz.prog ops Q rest (a.put o.dst v') w') : wpList Tryz.prog ops Q (o :: rest) a w := by
  refine wpList_plain hgd fun _ hK => ?_
  unfold Oper.wp execOp
  simp only [ho, resolve, invoke, builtin, Sem.run_bind, Sem.run_pure, Result.andThen_ok, List.map_toArray, List.map_cons, List.map_nil, hd, hs, hr]
  exact hK _ _ h

theorem wpList_clear_run (w : World) {ops : Array Oper} {rest : List Oper} {o : Oper} {a : Act} {Q : Exit → Act → World → Prop} (hgd : o.guard = none) (s : Operand) (t : TypeId)
    (ho : o.op = .call { callee := .builtin .clear, args := #[s], argTypes := #[t] }) (u : Value) (hs : a.eval s = u) {v' : Value} {w' : World}
    (hr : (Builtin.clear_ #[t] o.type #[u]).run Tryz.prog w = .ok v' w') (h : wpList Tryz.prog ops Q rest (a.put o.dst v') w') : wpList Tryz.prog ops Q (o :: rest) a w := by
  refine wpList_plain hgd fun _ hK => ?_
  unfold Oper.wp execOp
  simp only [ho, resolve, invoke, builtin, Sem.run_bind, Sem.run_pure, Result.andThen_ok, List.map_toArray, List.map_cons, List.map_nil, hs, hr]
  exact hK _ _ h

theorem below_grows {B : Nat} {w w' : World} {row : Option Nat} (h : w.grownBy w' row) (hB : B ≤ w.heap.size) (hr : ∀ k, row = some k → B ≤ k) : Below B w w' := (Below.refl B w).grown h hB hr

theorem overlaps_no (w : World) (g vb o l1 c1 l2 c2 B n c : Nat) (xs : List Sh) (x : Sh) (h : MineE encSh 120 w B (some ⟨g, 0, none⟩) n c xs) (hc : 0 < c) (hv : w.heap[vb]? = some (.cells (encSh.cells x).toArray 120 (0, 0))) (hne : vb ≠ g) :
    (callFunc 102 #[.slice (some ⟨vb, 0, none⟩) l1 c1, .slice (some ⟨g, o, none⟩) l2 c2]).run Tryz.prog w = .ok (.value (.bool false)) w := by
  obtain ⟨cur, h1, h2, h3, h4, h5, h6⟩ := mine_block h
  have hsa : w.shape? vb = some (120, 3) := by unfold World.shape?; rw [hv]; rfl
  have hsb : w.shape? g = some (120, cur.size) := by unfold World.shape?; rw [h1]
  have hz : cur.size ≠ 0 := by
    have : encSh.size = 3 := rfl
    rw [h5, this]; omega
  have hfa : w.frozen? ⟨vb, 0, none⟩ = false := frozen_of_row w vb 0 _ _ hv
  have hfe : w.frozen? ⟨vb, 3, none⟩ = false := frozen_of_row w vb 3 _ _ hv
  rw [run_callFunc_extern Tryz.func102 (by kernel_rfl) (by kernel_rfl) (by kernel_rfl) (e := Extern.SlicesOverlaps.overlaps #[121, 121] #[4]) (by kernel_rfl),
    Lib.run_overlaps_apart w 121 4 120 Tryz.underlying121 3 (fun w => Tryz.sizeOf120 w) ⟨vb, 0, none⟩ ⟨g, o, none⟩ l1 c1 l2 c2 hne _ _ _ _ hsa hsb hz hfa hfe]
  rfl

/-- What Insert leaves. -/
def Inserted (w : World) (B g n : Nat) (ys : List Sh) (r : Ending) (w' : World) : Prop :=
  ∃ g' c', r = .returned (.slice (some ⟨g', 0, none⟩) (n + 1) c') ∧ MineE encSh 120 w' B (some ⟨g', 0, none⟩) (n + 1) c' ys ∧ w.grownBy w' (some g) ∧ (g' = g ∨ g' = w.heap.size)

set_option maxRecDepth 100000 in
set_option maxHeartbeats 1000000 in
theorem insert_end (g n c B vb : Nat) (xs : List Sh) (x : Sh) (w : World) (h : MineE encSh 120 w B (some ⟨g, 0, none⟩) n c xs) (hn : n < 1000000) (hB : B ≤ w.heap.size) (hv : w.heap[vb]? = some (.cells (encSh.cells x).toArray 120 (0, 0))) :
    Calls Tryz.prog 95 #[.slice (some ⟨g, 0, none⟩) n c, .int .i64 (n : Int), .slice (some ⟨vb, 0, none⟩) 1 1] w (Inserted w B g n (xs ++ [x])) := by
  have hsrc := Lib.hid (srcE_of (E := encSh) w x 120 vb hv)
  have HM := Lib.hid h
  have HB := Lib.hid hB
  clear h hv hB
  go_enter Tryz.func95, Tryz.ntmps95
  go_wp2_with (first
    | (at_builtin; refine wpList_append_E (bytes := 24) (by omega) infoPs _ rfl _ _ rfl B (some ⟨g, 0, none⟩) n c xs rfl HM.out (some ⟨vb, 0, none⟩) 1 1 [x] rfl hsrc.out (by omega) HB.out ?_; intro A' c' w1 hA; have HA := Lib.hid hA; clear hA))
  all_goals
    obtain ⟨g', rfl, -, -, -, -⟩ := MineE.form HA.out.1 (by omega)
    go_ret
    have h3 := HA.out.2.2
    simp only [blk, Option.some.injEq] at h3
    exact ⟨g', c', rfl, HA.out.1, HA.out.2.1, h3⟩

/-- What lies in a row from a place on. -/
theorem mine_src {α : Type} {E : Enc α} {T : TypeId} {w : World} {B g n c : Nat} {xs : List α} (h : MineE E T w B (some ⟨g, 0, none⟩) n c xs) (k : Nat) :
    ∀ j u, ((xs.drop k).flatMap E.cells)[j]? = some u → w.cell? ((⟨g, k * E.size, none⟩ : Addr).add j) = some u := by
  intro j u hu
  rw [flat_drop, List.getElem?_drop] at hu
  have hlt := (List.getElem?_eq_some_iff.1 hu).1
  rw [E.flat_len, MineE.len h] at hlt
  rw [Addr.add_lit, World.ownsRow.cellAt h _ hlt]
  exact hu

theorem src_one {α : Type} {E : Enc α} {T : TypeId} {w : World} {vb : Nat} {x : α} (hv : w.heap[vb]? = some (.cells (E.cells x).toArray T (0, 0))) :
    ∀ j u, (([x] : List α).flatMap E.cells)[j]? = some u → w.cell? ((⟨vb, 0, none⟩ : Addr).add j) = some u := by
  intro j u hu
  obtain ⟨ad, e, hc⟩ := (srcE_of (E := E) w x T vb hv).2.2 j u hu
  injection e with e
  subst e
  exact hc

theorem ins_list {α : Type} (xs : List α) (x : α) (i : Nat) (hi : i < xs.length) :
    (xs.take (i + 1) ++ xs.drop i ++ xs.drop (i + 1 + (xs.drop i).length)).take i ++ [x] ++ (xs.take (i + 1) ++ xs.drop i ++ xs.drop (i + 1 + (xs.drop i).length)).drop (i + 1) = xs.take i ++ x :: xs.drop i := by
  have e1 : xs.drop (i + 1 + (xs.drop i).length) = [] := List.drop_of_length_le (by rw [List.length_drop]; omega)
  have e2 : (xs.take (i + 1)).length = i + 1 := by rw [List.length_take]; omega
  rw [e1, List.append_nil, List.take_append_of_le_length (by omega), List.take_take, Nat.min_eq_left (by omega), List.drop_append_of_le_length (by omega), List.drop_of_length_le (by omega), List.nil_append, List.append_assoc, List.singleton_append]

theorem ins_list2 {α : Type} (xs zs : List α) (x : α) (i : Nat) (hi : i < xs.length) (hz : zs.length = xs.length + 1 - i) :
    ((xs.take i ++ zs).take i ++ [x] ++ (xs.take i ++ zs).drop (i + 1)).take (i + 1) ++ xs.drop i ++ ((xs.take i ++ zs).take i ++ [x] ++ (xs.take i ++ zs).drop (i + 1)).drop (i + 1 + (xs.drop i).length) = xs.take i ++ x :: xs.drop i := by
  have e2 : (xs.take i).length = i := by rw [List.length_take]; omega
  have e3 : (xs.take i ++ zs).take i = xs.take i := by rw [List.take_append_of_le_length (by omega), List.take_of_length_le (by omega)]
  rw [e3]
  have e4 : (xs.take i ++ [x] ++ (xs.take i ++ zs).drop (i + 1)).length = xs.length + 1 := by
    simp only [List.length_append, List.length_drop, e2, hz, List.length_singleton]; omega
  have e5 : (xs.take i ++ [x] ++ (xs.take i ++ zs).drop (i + 1)).drop (i + 1 + (xs.drop i).length) = [] := List.drop_of_length_le (by rw [e4, List.length_drop]; omega)
  rw [e5, List.append_nil, List.take_append_of_le_length (by simp [e2]), List.take_of_length_le (by simp [e2]), List.append_assoc, List.singleton_append]

set_option maxRecDepth 100000 in
set_option maxHeartbeats 600000 in
theorem insert_shift (g n c B i vb : Nat) (xs : List Sh) (x : Sh) (w : World) (h : MineE encSh 120 w B (some ⟨g, 0, none⟩) n c xs) (hi : i < n) (hc : n + 1 ≤ c) (hn : n < 1000000) (hB : B ≤ w.heap.size) (hv : w.heap[vb]? = some (.cells (encSh.cells x).toArray 120 (0, 0))) (hne : vb ≠ g) :
    Calls Tryz.prog 95 #[.slice (some ⟨g, 0, none⟩) n c, .int .i64 (i : Int), .slice (some ⟨vb, 0, none⟩) 1 1] w (Inserted w B g n (xs.take i ++ x :: xs.drop i)) := by
  have hov : ∀ lb cb, (callFunc 102 #[.slice (some ⟨vb, 0, none⟩) 1 1, .slice (some ⟨g, (i + 1) * 3, none⟩) lb cb]).run Tryz.prog w = .ok (.value (.bool false)) w := fun lb cb => overlaps_no w g vb _ _ _ _ _ B n c xs x h (by omega) hv hne
  have hcm : c ≤ 9223372036854775807 := by obtain ⟨cur, h1, h2, h3, h4, h5, h6⟩ := mine_block h; unfold maxLen at h4; omega
  have HM := Lib.hid h
  have HV := Lib.hid hv
  have hz2 : ¬ ((i : Int) = (n : Int)) := by omega
  have hin : i ≤ n := by omega
  have hb3 : (i : Int) ≤ (n : Int) := by omega
  have hb5 : (i : Int) ≤ (n : Int) + 1 := by omega
  have hb6 : (i : Int) + 1 ≤ (n : Int) + 1 := by omega
  have hw1 : IntKind.i64.wrap ((i : Int) + 1) = (i : Int) + 1 := IntWalk.i64_in _ (by omega)
  have htn : ((i : Int) + 1).toNat = i + 1 := by omega
  have htn2 : ((n : Int) + 1).toNat = n + 1 := by omega
  have hb1 : (0 : Int) ≤ (i : Int) + 1 := by omega
  have hb2 : ¬ (c = i + 1) := by omega
  have hb4 : ¬ (c = i) := by omega
  have HI := Lib.hid (⟨hi, hc, hB, hne⟩ : i < n ∧ n + 1 ≤ c ∧ B ≤ w.heap.size ∧ vb ≠ g)
  clear h hv hB hne
  go_enter Tryz.func95, Tryz.ntmps95
  go_upto_region 15 with (simp only [hov])
  refine Hold.wp_region_hold [.val (.slice (some ⟨g, 0, none⟩) (n + 1) c), .val (.int .i64 (i : Int)), .val (.int .i64 1), .val (.int .i64 ((i : Int) + 1)), .val (.slice (some ⟨g, (i + 1) * 3, none⟩) (n + 1 - (i + 1)) (c - (i + 1))), .val (.slice (some ⟨g, 0, none⟩) (n + 1) c), .val (.int .i64 (i : Int)), .val (.slice (some ⟨g, i * 3, none⟩) (n + 1 - i) (c - i))] (by kernel_rfl) (by kernel_rfl) (by kernel_rfl) ?_ ?_
  · simp only [Hold.fill, Hold.Leave.value]
    refine ⟨?_, ?_, ?_, ?_, ?_, ?_, ?_, ?_, trivial⟩ <;> (intro gg w' hw hk; go_simp; first | exact ⟨rfl, rfl⟩ | skip)
  intro gg w2 k2 hgg
  clear hgg
  simp only [Hold.fill, Hold.Leave.value, List.length_cons, List.length_nil, List.drop_succ_cons, List.drop_zero]
  have m2 := MineE.below HM.out k2
  have hl := MineE.len m2
  have hdl : (xs.drop i).length = n - i := by rw [List.length_drop, hl]
  obtain ⟨w3, r3, m3, g3⟩ := run_copy_E infoPs 3 m2 (i + 1) (xs.drop i) (by omega) (by omega) (n + 1 - (i + 1)) (c - (i + 1)) (n + 1 - i) (c - i) ⟨g, i * 3, none⟩ (by rw [hdl]; simp only [Nat.min_def]; split <;> omega) (mine_src m2 i)
  rw [show max n (i + 1 + (xs.drop i).length) = n + 1 by omega] at m3
  have hv3 : w3.heap[vb]? = some (.cells (encSh.cells x).toArray 120 (0, 0)) := by
    have hlt := (Array.getElem?_eq_some_iff.1 HV.out).1
    rw [g3.block vb (by have := k2.size; omega) (by simp; exact HI.out.2.2.2), k2.block vb hlt]
    exact HV.out
  obtain ⟨w4, r4, m4, g4⟩ := run_copy_E infoPs 3 m3 i [x] (by omega) (by simp; omega) (n + 1 - i) (c - i) 1 1 ⟨vb, 0, none⟩ (by simp only [Nat.min_def, List.length_singleton]; split <;> omega) (src_one hv3)
  rw [show max (n + 1) (i + ([x] : List Sh).length) = n + 1 by simp; omega, show i + ([x] : List Sh).length = i + 1 from rfl, ins_list xs x i (by omega)] at m4
  have R3 : (Builtin.copy_ #[121, 121] 3 #[.slice (some ⟨g, (i + 1) * 3, none⟩) (n + 1 - (i + 1)) (c - (i + 1)), .slice (some ⟨g, i * 3, none⟩) (n + 1 - i) (c - i)]).run Tryz.prog w2 = .ok (.int .i64 ((xs.drop i).length : Int)) w3 := r3
  have R3b := R3
  rw [show n + 1 - (i + 1) = n - i by omega] at R3b
  generalize ((xs.drop i).length : Int) = q3 at R3 R3b
  have R4 : (Builtin.copy_ #[121, 121] 3 #[.slice (some ⟨g, i * 3, none⟩) (n + 1 - i) (c - i), .slice (some ⟨vb, 0, none⟩) 1 1]).run Tryz.prog w3 = .ok (.int .i64 1) w4 := r4
  have HE := Lib.hid (⟨m4, ((grown_of_below k2).but _).trans (g3.trans g4)⟩ : MineE encSh 120 w4 B (some ⟨g, 0, none⟩) (n + 1) c (xs.take i ++ x :: xs.drop i) ∧ w.grownBy w4 (some g))
  clear m2 hl hdl m3 r3 r4 m4 g3 g4 k2 hov hv3
  go_wp2_with fail
  go_ret
  exact ⟨g, c, rfl, HE.out.1, HE.out.2, .inl rfl⟩

end Go.Proofs.YtfomhdhiibcdfaaGreat.Shelf
