/-
  For every two rectangles and every four numbers, the law RectTells answers true: of numbers from -2^60 to 2^60, what rect tells of the two rectangles, and makes of them, is what the document's own text tells and makes; no condition.
-/
import Derived.Test.YtcmfflmclammcaaTells
import Derived.ProofKit
import Derived.OpenShut
import Derived.Laws.IdiomArrays
import Derived.Lib.SmallJoins
namespace Go.Proofs.Ytcmfflmclammcaa
open Go.RowKit Go.Sort

section
open Go.ChangeShapes Go.WideShapes Go.ChangeAt
variable {H : Type} {enc : TypeId × Value → H} {P : Program}

/-- The end of a call that leaves all old memory as it was, and may lay what it likes behind it. -/
theorem ends_low {f : Func} {s : ChangeSpec} {apart fresh handsOn again : Bool} {W V : World} {args : Array Value} {v : Value} {ds gs : List (DataW H)} {places pa pv : List MemPlace}
    (whole : DataW.Whole enc P f.params.toList s.vars apart W args.toList ds gs places)
    (results : ∀ (b : Nat) (sp : Nat → Bool) (hd : Bool), DataW.TrodAll enc P V b sp hd f.resultTypes.toList (v.resultList f.resultTypes.size) (s.fn H (ds ++ gs)).results [])
    (arguments : ∀ sp : Nat → Bool, (∀ p ∈ places, sp p.block = true) → DataW.TrodAll enc P V 0 sp true f.params.toList args.toList (s.fn H (ds ++ gs)).args pa)
    (variables : ∀ sp : Nat → Bool, (∀ p ∈ places, sp p.block = true) → DataW.TrodVars enc P V sp s.vars (s.fn H (ds ++ gs)).vars pv)
    (parts : places = pa ++ pv) (low : Below W.heap.size W V)
    (forms : ∀ (j : Nat) (t : TypeId) (r : Value), f.resultTypes[j]? = some t → (v.resultList f.resultTypes.size)[j]? = some r → Value.okWide P V .any 0 t r) :
    s.post enc P f apart fresh handsOn again W args v V := by
  have old : ∀ p ∈ places, p.block < W.heap.size := fun p h => whole.lt p h
  have mark : ∀ p ∈ places, (fun b => decide (b < W.heap.size)) p.block = true := fun p h => by simpa using old p h
  subst parts
  obtain ⟨_, _, _, _, _, thawed, once⟩ := id whole
  refine ⟨ds, gs, pa ++ pv, [], pa, pv, whole, results _ _ _, arguments _ mark, variables _ mark, ?_, fun _ => ⟨forms, _, _, ([] ++ pa) ++ pv, ⟨[] ++ pa, pv, trodAll_append (arguments _ (fun _ _ => rfl)) (results _ _ _), variables _ (fun _ _ => rfl), rfl, ?_, ?_⟩, ?_⟩⟩
  · exact World.keptBut_mono (fun p h => ⟨h, Or.inr (List.mem_append.1 h)⟩) (low.frame (· ∈ pa ++ pv))
  · intro b off h
    have h' : MemPlace.cell b off ∈ pa ++ pv := by simpa using h
    rw [low.frozen (old _ h')]
    exact thawed b off h'
  · intro h
    simpa using once h
  · intro p h _
    simpa using h
end

section
variable {H : Type} {enc : TypeId × Value → H} {P : Program} {w : World} {base : Nat} {spare : Nat → Bool} {held : Bool}

/-- An array of four ints that came in. -/
theorem open_ints4 {r : Reach} {b0 : Nat} {t e : TypeId} {v : Value} {d : DataW H} {p : List MemPlace} (ht : P.underlying t = some (.array 4 e)) (he : P.underlying e = some (.int .i64)) (hce : P.cellsOf e = 1) (hct : P.cellsOf t = 4)
    (hv : Value.okWide P w r b0 t v) (h : DataW.Trod enc P w base spare held t v d p) :
    ∃ x0 x1 x2 x3 : Int, v = .agg #[.int .i64 x0, .int .i64 x1, .int .i64 x2, .int .i64 x3] ∧ d = .agg [.lit (.int .i64 x0), .lit (.int .i64 x1), .lit (.int .i64 x2), .lit (.int .i64 x3)] ∧ p = [] ∧
      (Lit.int .i64 x0).wf = true ∧ (Lit.int .i64 x1).wf = true ∧ (Lit.int .i64 x2).wf = true ∧ (Lit.int .i64 x3).wf = true := by
  obtain ⟨cs, rfl, hsz⟩ : ∃ cs, v = .agg cs ∧ cs.size = P.cellsOf t := by
    simp only [Value.okWide, ht] at hv
    obtain ⟨cs, h1, h2, _⟩ := hv
    exact ⟨cs, h1, h2⟩
  obtain ⟨c0, c1, c2, c3, rfl⟩ := Joins.array4 (hsz.trans hct)
  obtain ⟨fuel, hf⟩ := h
  obtain ⟨y0, y1, y2, y3, n, hx, h0, h1, h2, h3⟩ := ChangeShapes.trod_array4 ht hce (by simpa [Value.cells] using hf)
  obtain ⟨x0, e0, rfl, g0⟩ := DataW.trod_int he h0
  obtain ⟨x1, e1, rfl, g1⟩ := DataW.trod_int he h1
  obtain ⟨x2, e2, rfl, g2⟩ := DataW.trod_int he h2
  obtain ⟨x3, e3, rfl, g3⟩ := DataW.trod_int he h3
  simp only [List.cons.injEq, and_true] at e0 e1 e2 e3
  subst e0 e1 e2 e3
  simp only [Prod.mk.injEq] at hx
  exact ⟨x0, x1, x2, x3, rfl, hx.1, by simpa using hx.2, g0, g1, g2, g3⟩

theorem shut_ints4 {t e : TypeId} (ht : P.underlying t = some (.array 4 e)) (he : P.underlying e = some (.int .i64)) (hce : P.cellsOf e = 1) (hct : P.cellsOf t = 4) {x0 x1 x2 x3 : Int}
    (g0 : (Lit.int .i64 x0).wf = true) (g1 : (Lit.int .i64 x1).wf = true) (g2 : (Lit.int .i64 x2).wf = true) (g3 : (Lit.int .i64 x3).wf = true) :
    DataW.Trod enc P w base spare held t (.agg #[.int .i64 x0, .int .i64 x1, .int .i64 x2, .int .i64 x3]) (.agg [.lit (.int .i64 x0), .lit (.int .i64 x1), .lit (.int .i64 x2), .lit (.int .i64 x3)]) [] := by
  have r4 : List.range 4 = [0, 1, 2, 3] := rfl
  refine ⟨2, ?_⟩
  simp [DataW.trod, ht, he, Value.cells, hce, hct, r4, g0, g1, g2, g3]
end

set_option maxRecDepth 100000 in
set_option maxHeartbeats 400000 in
theorem tells_no_a (a0 a1 a2 a3 b0 b1 b2 b3 p q s u : Int) (w : World) (ha : [a0, a1, a2, a3].all inB = false) :
    Calls Try.prog 3 #[.agg #[.int .i64 a0, .int .i64 a1, .int .i64 a2, .int .i64 a3], .agg #[.int .i64 b0, .int .i64 b1, .int .i64 b2, .int .i64 b3], .agg #[.int .i64 p, .int .i64 q, .int .i64 s, .int .i64 u]] w
      fun e w' => e = .returned (.bool true) ∧ Below w.heap.size w w' := by
  have HA := Lib.hid ha
  clear ha
  go_enter Try.func3, Try.ntmps3
  go_wp2_with fail
  refine (speaks_any _).mono ?_; rintro e w1 ⟨rfl, k1⟩
  obtain ⟨ra, rb, ry, kw⟩ := boxed3 w a0 a1 a2 a3 b0 b1 b2 b3 p q s u 23 23 22 w1 k1
  clear k1
  have RA := Lib.hid ra
  have RB := Lib.hid rb
  have RY := Lib.hid ry
  have KW := Lib.hid kw
  clear ra rb ry kw
  go_wp2_with fail
  refine (RA.out.small _ HA.out).mono ?_; rintro e w' ⟨rfl, rfl⟩
  go_wp2_with fail
  refine (speaks_any _).mono ?_; rintro e w2 ⟨rfl, k2⟩
  go_wp2_with fail
  go_ret
  exact ⟨rfl, thru KW.out k2⟩

set_option maxRecDepth 100000 in
set_option maxHeartbeats 400000 in
theorem tells_no_b (a0 a1 a2 a3 b0 b1 b2 b3 p q s u : Int) (w : World) (ha : [a0, a1, a2, a3].all inB = true) (hb : [b0, b1, b2, b3].all inB = false) :
    Calls Try.prog 3 #[.agg #[.int .i64 a0, .int .i64 a1, .int .i64 a2, .int .i64 a3], .agg #[.int .i64 b0, .int .i64 b1, .int .i64 b2, .int .i64 b3], .agg #[.int .i64 p, .int .i64 q, .int .i64 s, .int .i64 u]] w
      fun e w' => e = .returned (.bool true) ∧ Below w.heap.size w w' := by
  have HA := Lib.hid ha
  have HB := Lib.hid hb
  clear ha hb
  go_enter Try.func3, Try.ntmps3
  go_wp2_with fail
  refine (speaks_any _).mono ?_; rintro e w1 ⟨rfl, k1⟩
  obtain ⟨ra, rb, ry, kw⟩ := boxed3 w a0 a1 a2 a3 b0 b1 b2 b3 p q s u 23 23 22 w1 k1
  clear k1
  have RA := Lib.hid ra
  have RB := Lib.hid rb
  have RY := Lib.hid ry
  have KW := Lib.hid kw
  clear ra rb ry kw
  go_wp2_with fail
  refine (RA.out.small _ HA.out).mono ?_; rintro e w' ⟨rfl, rfl⟩
  go_wp2_with fail
  refine (RB.out.small _ HB.out).mono ?_; rintro e w' ⟨rfl, rfl⟩
  go_wp2_with fail
  refine (speaks_any _).mono ?_; rintro e w2 ⟨rfl, k2⟩
  go_wp2_with fail
  go_ret
  exact ⟨rfl, thru KW.out k2⟩

set_option maxRecDepth 100000 in
set_option maxHeartbeats 400000 in
theorem tells_no_y (a0 a1 a2 a3 b0 b1 b2 b3 p q s u : Int) (w : World) (ha : [a0, a1, a2, a3].all inB = true) (hb : [b0, b1, b2, b3].all inB = true) (hy : [p, q, s, u].all inB = false) :
    Calls Try.prog 3 #[.agg #[.int .i64 a0, .int .i64 a1, .int .i64 a2, .int .i64 a3], .agg #[.int .i64 b0, .int .i64 b1, .int .i64 b2, .int .i64 b3], .agg #[.int .i64 p, .int .i64 q, .int .i64 s, .int .i64 u]] w
      fun e w' => e = .returned (.bool true) ∧ Below w.heap.size w w' := by
  have HA := Lib.hid ha
  have HB := Lib.hid hb
  have HY := Lib.hid hy
  clear ha hb hy
  go_enter Try.func3, Try.ntmps3
  go_wp2_with fail
  refine (speaks_any _).mono ?_; rintro e w1 ⟨rfl, k1⟩
  obtain ⟨ra, rb, ry, kw⟩ := boxed3 w a0 a1 a2 a3 b0 b1 b2 b3 p q s u 23 23 22 w1 k1
  clear k1
  have RA := Lib.hid ra
  have RB := Lib.hid rb
  have RY := Lib.hid ry
  have KW := Lib.hid kw
  clear ra rb ry kw
  go_wp2_with fail
  refine (RA.out.small _ HA.out).mono ?_; rintro e w' ⟨rfl, rfl⟩
  go_wp2_with fail
  refine (RB.out.small _ HB.out).mono ?_; rintro e w' ⟨rfl, rfl⟩
  go_wp2_with fail
  refine (RY.out.small _ HY.out).mono ?_; rintro e w' ⟨rfl, rfl⟩
  go_wp2_with fail
  refine (speaks_any _).mono ?_; rintro e w2 ⟨rfl, k2⟩
  go_wp2_with fail
  go_ret
  exact ⟨rfl, thru KW.out k2⟩

theorem tells_any (a0 a1 a2 a3 b0 b1 b2 b3 p q s u : Int) (w : World) :
    Calls Try.prog 3 #[.agg #[.int .i64 a0, .int .i64 a1, .int .i64 a2, .int .i64 a3], .agg #[.int .i64 b0, .int .i64 b1, .int .i64 b2, .int .i64 b3], .agg #[.int .i64 p, .int .i64 q, .int .i64 s, .int .i64 u]] w
      fun e w' => e = .returned (.bool true) ∧ Below w.heap.size w w' := by
  cases ha : [a0, a1, a2, a3].all inB with
  | false => exact tells_no_a _ _ _ _ _ _ _ _ _ _ _ _ w ha
  | true =>
    cases hb : [b0, b1, b2, b3].all inB with
    | false => exact tells_no_b _ _ _ _ _ _ _ _ _ _ _ _ w ha hb
    | true =>
      cases hy : [p, q, s, u].all inB with
      | false => exact tells_no_y _ _ _ _ _ _ _ _ _ _ _ _ w ha hb hy
      | true => exact tells_all _ _ _ _ _ _ _ _ _ _ _ _ w ha hb hy

theorem cells22 : Try.prog.cellsOf 22 = 4 := by kernel_rfl
theorem cells23 : Try.prog.cellsOf 23 = 4 := by kernel_rfl
theorem cells3 : Try.prog.cellsOf 3 = 1 := by kernel_rfl

theorem own : ownKnob Try.prog.godebug = none := by kernel_rfl

namespace rectTells
open Go.ChangeShapes Go.WideShapes Go.ChangeAt
set_option linter.unusedVariables false

set_option maxRecDepth 100000 in
theorem lifted (os : Os) (started : os.Started) (H : Type) (enc : TypeId × Value → H) :
    ReturnsInHanded {} Try.checked os 3 .any (Rows.rectTellsSpec.pre6 enc Try.prog Try.f3 Rows.rectTellsRow.domain false) (Rows.rectTellsSpec.post enc Try.prog Try.f3 false true false false) := by
  refine returnsInHanded_of_change (C := Try.checked) own started (by kernel_rfl) Try.func3
    (ChangeSpec.witness6 (enc := enc) (C := Try.checked) false ⟨#[], #[.agg #[.int .i64 0, .int .i64 0, .int .i64 0, .int .i64 0], .agg #[.int .i64 0, .int .i64 0, .int .i64 0, .int .i64 0], .agg #[.int .i64 0, .int .i64 0, .int .i64 0, .int .i64 0]], []⟩ 8 (by kernel_rfl) (by kernel_rfl) (by kernel_rfl) (by kernel_rfl)) ?_
  intro W base args ds gs before hval0 hW hcnd _
  have hval : ∀ (j : Nat) t v, Try.f3.params[j]? = some t → args[j]? = some v → Value.okWide Try.prog W .any base t v := hval0
  have hW' := hW
  obtain ⟨p, q, hA0, hV, rfl, hfz, hnd⟩ := hW
  have hA : DataW.TrodAll enc Try.prog W 0 (fun _ => true) true Try.f3.params.toList args.toList ds p := hA0
  rw [Try.params3] at hA hval
  obtain ⟨v0, vs0, d0, ds0, p0, q0, hargs, rfl, rfl, h0, r0⟩ := trodAll_cons hA
  obtain ⟨v1, vs1, d1, ds1, p1, q1, rfl, rfl, rfl, h1, r1⟩ := trodAll_cons r0
  obtain ⟨v2, vs2, d2, ds2, p2, q2, rfl, rfl, rfl, h2, r2⟩ := trodAll_cons r1
  obtain ⟨rfl, rfl, rfl⟩ := trodAll_nil r2
  obtain rfl : args = #[v0, v1, v2] := by cases args; simp_all
  obtain ⟨rfl, rfl⟩ := trodVars_none hV
  obtain ⟨a0, a1, a2, a3, rfl, rfl, rfl, wa0, wa1, wa2, wa3⟩ := open_ints4 Try.underlying23 Try.underlying3 cells3 cells23 (hval 0 23 v0 rfl rfl) h0
  obtain ⟨b0, b1, b2, b3, rfl, rfl, rfl, wb0, wb1, wb2, wb3⟩ := open_ints4 Try.underlying23 Try.underlying3 cells3 cells23 (hval 1 23 v1 rfl rfl) h1
  obtain ⟨y0, y1, y2, y3, rfl, rfl, rfl, wy0, wy1, wy2, wy3⟩ := open_ints4 Try.underlying22 Try.underlying3 cells3 cells22 (hval 2 22 v2 rfl rfl) h2
  clear hA0 hval0
  simp only [List.append_nil] at hW'
  refine (tells_any a0 a1 a2 a3 b0 b1 b2 b3 y0 y1 y2 y3 W).mono fun e W' ⟨he, hg⟩ => ?_
  subst he
  exact ⟨_, rfl, ends_low (pa := []) (pv := []) hW' (fun _ _ _ => (trodAll_cons_mk (shut_bool Try.underlying4 _) trodAll_mk0))
    (fun sp _ => (trodAll_cons_mk (shut_ints4 Try.underlying23 Try.underlying3 cells3 cells23 wa0 wa1 wa2 wa3) (trodAll_cons_mk (shut_ints4 Try.underlying23 Try.underlying3 cells3 cells23 wb0 wb1 wb2 wb3) (trodAll_cons_mk (shut_ints4 Try.underlying22 Try.underlying3 cells3 cells22 wy0 wy1 wy2 wy3) trodAll_mk0)))) (fun _ _ => rfl) rfl
    hg (ok_one (by kernel_rfl) rfl (okWide_bool_mk Try.underlying4 _))⟩

theorem over : Rows.rectTellsRow.holds Try.pinned (OpenSpec.ofChange Rows.rectTellsSpec) :=
  OpenClaim.holds_of_wide 3 Try.f3 rfl rfl rfl rfl rfl rfl rfl ⟨rfl, rfl, rfl, rfl, rfl⟩ rfl rfl rfl rfl rfl (by kernel_rfl) Try.func3 (by kernel_rfl)
    (of_decide_eq_true (by kernel_rfl)) (by unfold Func.isWrapper; first | (rw [if_pos (by decide +kernel)]; kernel_rfl) | (rw [if_neg (by decide +kernel)]; exact ⟨rfl, rfl⟩))
    (fun os started H enc _ => lifted os started H enc)

/-- The statement. -/
theorem proved : Rows.RectTellsSaid :=
  over
#print axioms proved
end rectTells
end Go.Proofs.Ytcmfflmclammcaa
