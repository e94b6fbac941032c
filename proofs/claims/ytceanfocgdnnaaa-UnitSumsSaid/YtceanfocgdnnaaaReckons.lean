/-
  For every two numbers and every list of numbers, the law UnitReckons answers true: Add, Sub and Sum answer as the document says; no condition.
-/
import Derived.Test.YtceanfocgdnnaaaSum
import Derived.ProofKit
import Derived.OpenShut
import Derived.Carry
namespace Go.Proofs.Ytceanfocgdnnaaa.unitReckons
open Go.ChangeShapes Go.WideShapes Go.ChangeAt Go.RowKit

def addN (a b : Int) : Int := if sumFits a b then a + b else 0
def addB (a b : Int) : Bool := decide (sumFits a b)
def subN (a b : Int) : Int := if diffFits a b then a - b else 0
def subB (a b : Int) : Bool := decide (diffFits a b)
def sumN (xs : List Int) : Int := if (sumFrom 0 xs).1 then (sumFrom 0 xs).2 else 0
def sumB (xs : List Int) : Bool := (sumFrom 0 xs).1
theorem addV_eq (a b : Int) : addV a b = .tuple #[.int .i64 (addN a b), .bool (addB a b)] := rfl
theorem subV_eq (a b : Int) : subV a b = .tuple #[.int .i64 (subN a b), .bool (subB a b)] := rfl
theorem sumV_eq (xs : List Int) : sumV xs = .tuple #[.int .i64 (sumN xs), .bool (sumB xs)] := rfl

set_option maxHeartbeats 800000 in
theorem walk (a b : Int) (hb : -9223372036854775808 ≤ b ∧ b ≤ 9223372036854775807) (A : Option Addr) (len cap : Nat) (xs : List Int) (w : World) (hlen : len = xs.length)
    (hm : len ≤ 9223372036854775807) (hx : Nums w w.heap.size A xs) :
    Calls Try.prog 3 #[.int .i64 a, .int .i64 b, .slice A len cap] w fun e w' => e = .returned (.bool true) ∧ Kp w.heap.size w w' := by
  have HB := Lib.hid hb
  have HL := Lib.hid hlen
  have HX := Lib.hid hx
  clear hb hlen hx
  by_cases h60 : len ≤ 60
  · go_enter Try.func3, Try.ntmps3
    go_wp2_with fail
    refine (speaks_any _).mono ?_; rintro e w' ⟨rfl, rfl⟩
    go_wp2_with fail
    refine (add_any _ _ _).mono ?_; rw [addV_eq]; rintro e w' ⟨rfl, rfl⟩
    go_wp2_with fail
    refine (radd_any _ _ _).mono ?_; rw [addV_eq]; rintro e w' ⟨rfl, rfl⟩
    go_wp2_with fail
    refine (sub_any _ _ HB.out _).mono ?_; rw [subV_eq]; rintro e w' ⟨rfl, rfl⟩
    go_wp2_with fail
    refine (rsub_any _ _ _).mono ?_; rw [subV_eq]; rintro e w' ⟨rfl, rfl⟩
    go_wp2_with fail
    refine (sum_any A len cap xs _ HL.out hm HX.out).mono ?_; rw [sumV_eq]; rintro e w1 ⟨rfl, hk⟩
    have K := Lib.hid hk
    have HX1 := Lib.hid ((HX.out.kp hk).more hk.size)
    clear hk
    go_wp2_with fail
    refine (rsum_any A len cap xs _ HL.out hm HX1.out).mono ?_; rw [sumV_eq]; rintro e w2 ⟨rfl, rfl⟩
    go_wp2_with fail
    go_ret
    exact ⟨rfl, K.out⟩
  · go_enter Try.func3, Try.ntmps3
    go_wp2_with fail
    refine (speaks_any _).mono ?_; rintro e w' ⟨rfl, rfl⟩
    go_wp2_with fail
    refine (speaks_any _).mono ?_; rintro e w' ⟨rfl, rfl⟩
    go_wp2_with fail
    go_ret
    exact ⟨rfl, Kp.refl _ _⟩

theorem own : ownKnob Try.prog.godebug = none := by kernel_rfl
theorem laidOut : laidOutB Try.prog = true := by kernel_rfl
theorem cells3 : Try.prog.cellsOf 3 = 1 := by kernel_rfl

/-- A slice of numbers that came in. -/
theorem open_nums {H : Type} {enc : TypeId × Value → H} {W : World} {v : Value} {d : DataW H} {ps : List MemPlace} (hv : ∃ a len cap, v = .slice a len cap)
    (h : DataW.Trod enc Try.prog W 0 (fun _ => true) true 22 v d ps) :
    ∃ A len cap xs, v = .slice A len cap ∧ len = xs.length ∧ len ≤ 9223372036854775807 ∧ Nums W W.heap.size A xs ∧ (∀ n ∈ xs, -9223372036854775808 ≤ n ∧ n ≤ 9223372036854775807) := by
  obtain ⟨a0, len, cap, rfl⟩ := hv
  obtain ⟨fuel, hf⟩ := h
  rcases open_ints Try.underlying22 Try.underlying3 cells3 hf with ⟨hcs, hx⟩ | ⟨a, len', cap', zs, hcs, _, hl, hm, hz, hx, hcell, hwz⟩
  · simp [Value.cells] at hcs
    obtain ⟨rfl, rfl, rfl⟩ := hcs
    exact ⟨none, 0, 0, [], rfl, rfl, by omega, fun k hk => by simp at hk, fun n hn => by simp at hn⟩
  · simp [Value.cells] at hcs
    obtain ⟨rfl, rfl, rfl⟩ := hcs
    simp only [if_true] at hz
    unfold maxLen at hm
    refine ⟨some a, len, cap, zs.take len, rfl, by rw [List.length_take]; omega, by omega, fun k hk => ?_, fun n hn => ?_⟩
    · rw [List.length_take] at hk
      have hc := hcell k (by omega)
      have hb := World.block_lt_of_cell? _ _ hc
      rw [block_of_add] at hb
      refine ⟨a, rfl, hb, ?_⟩
      rw [hc]
      simp only [List.getD, List.getElem?_take]
      rw [if_pos (by omega)]
    · have := hwz n (List.mem_of_mem_take hn)
      simpa [Lit.wf, IntKind.min, IntKind.max, IntKind.signed, IntKind.bits] using this

theorem bounds {a : Int} (w : (Lit.int .i64 a).wf = true) : -9223372036854775808 ≤ a ∧ a ≤ 9223372036854775807 := by
  simpa [Lit.wf, IntKind.min, IntKind.max, IntKind.signed, IntKind.bits] using w

set_option maxRecDepth 100000 in
theorem lifted (os : Os) (started : os.Started) (H : Type) (enc : TypeId × Value → H) :
    ReturnsInHanded {} Try.checked os 3 .any (Rows.unitReckonsSpec.pre6 enc Try.prog Try.f3 Rows.unitReckonsRow.domain false) (Rows.unitReckonsSpec.post enc Try.prog Try.f3 false true false false) := by
  refine returnsInHanded_of_change (C := Try.checked) own started (by kernel_rfl) Try.func3
    (ChangeSpec.witness6 (enc := enc) (C := Try.checked) false ⟨#[], #[.int .i64 0, .int .i64 0, .slice none 0 0], []⟩ 8 (by kernel_rfl) (by kernel_rfl) (by kernel_rfl) (by kernel_rfl)) ?_
  intro W base args ds gs before hval0 hW hcnd _
  have hval : ∀ (j : Nat) t v, Try.f3.params[j]? = some t → args[j]? = some v → Value.okWide Try.prog W .any base t v := hval0
  have hW' := hW
  obtain ⟨p, q, hA0, hV, rfl, hfz, hnd⟩ := hW
  have hA : DataW.TrodAll enc Try.prog W 0 (fun _ => true) true Try.f3.params.toList args.toList ds p := hA0
  rw [Try.params3] at hA hval
  obtain ⟨v0, vs0, d0, ds0, p0, q0, hargs, rfl, rfl, h0, r0⟩ := trodAll_cons hA
  obtain ⟨v1, vs1, d1, ds1, p1, q1, rfl, rfl, rfl, h1, r1⟩ := trodAll_cons r0
  obtain ⟨v2, vs2, d2, ds2, p2, q2, rfl, rfl, rfl, h2, r2⟩ := trodAll_cons r1
  obtain ⟨rfl, rfl, rfl⟩ := trodAll_nil r2
  obtain rfl : args = #[v0, v1, v2] := by cases args; simp_all
  obtain ⟨rfl, rfl⟩ := trodVars_none hV
  obtain ⟨a0, rfl, rfl, rfl, w0⟩ := open_int Try.underlying3 (hval 0 3 v0 rfl rfl) h0
  obtain ⟨a1, rfl, rfl, rfl, w1⟩ := open_int Try.underlying3 (hval 1 3 v1 rfl rfl) h1
  obtain ⟨A, len, cap, xs, rfl, hlen, hm, hx, _⟩ := open_nums (okWide_slice Try.underlying22 (hval 2 22 v2 rfl rfl)) h2
  clear hA0 hval0
  simp only [List.append_nil, List.nil_append] at hW'
  have hlt : ∀ x ∈ p2, x.block < W.heap.size := fun x hx => by simpa using hW'.lt x hx
  refine (walk a0 a1 (bounds w1) A len cap xs W hlen hm hx).mono fun e W' ⟨he, hg⟩ => ?_
  subst he
  exact ⟨_, rfl, post_of_same (pa := [] ++ ([] ++ (p2 ++ []))) (pv := []) hW' (fun _ _ _ => (trodAll_cons_mk (shut_bool Try.underlying4 _) trodAll_mk0))
    (fun sp hsp => (trodAll_cons_mk (shut_int Try.underlying3 w0) (trodAll_cons_mk (shut_int Try.underlying3 w1)
      (trodAll_cons_mk (WideElems.Trod_stays laidOut (by kernel_rfl) (of_decide_eq_true (by kernel_rfl)) h2 (fun x hx => hg.1.same (hlt x hx)) hsp) trodAll_mk0)))) (fun _ _ => rfl) (by simp)
    (hg.1.frame _) hg.2 (ok_one (by kernel_rfl) rfl (okWide_bool_mk Try.underlying4 _))⟩

theorem over : Rows.unitReckonsRow.holds Try.pinned (OpenSpec.ofChange Rows.unitReckonsSpec) :=
  OpenClaim.holds_of_wide 3 Try.f3 rfl rfl rfl rfl rfl rfl rfl ⟨rfl, rfl, rfl, rfl, rfl⟩ rfl rfl rfl rfl rfl (by kernel_rfl) Try.func3 (by kernel_rfl)
    (of_decide_eq_true (by kernel_rfl)) (by unfold Func.isWrapper; first | (rw [if_pos (by decide +kernel)]; kernel_rfl) | (rw [if_neg (by decide +kernel)]; exact ⟨rfl, rfl⟩))
    (fun os started H enc _ => lifted os started H enc)

theorem proved : Rows.UnitReckonsSaid :=
  over
#print axioms proved
end Go.Proofs.Ytceanfocgdnnaaa.unitReckons
