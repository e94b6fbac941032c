/- The contracts of Plus, Minus and Try. -/
import Derived.Test.YtceanfocgdnnaaaSub
import Derived.Defers
import Derived.Recover
namespace Go.Proofs.Ytceanfocgdnnaaa
open Go.RowKit

/-- What goes over panics so. -/
def overEntry : PanicEntry := { v := .iface 39 (.agg #[]), recovered := false }

set_option maxHeartbeats 400000 in
theorem orEnd_yes (n : Int) (w : World) :
    Calls Try.prog 25 #[.int .i64 n, .bool true] w fun e w' => e = .returned (.int .i64 n) ∧ w = w' := by
  go_enter Try.func25, Try.ntmps25
  go_wp2
  go_ret
  exact ⟨rfl, rfl⟩

set_option maxHeartbeats 400000 in
theorem orEnd_no (n : Int) (w : World) :
    Calls Try.prog 25 #[.int .i64 n, .bool false] w fun e w' => e = .panicked [overEntry] ∧ w = w' := by
  go_enter Try.func25, Try.ntmps25
  go_wp2
  exact ⟨rfl, rfl, rfl⟩

theorem assert_over (w : World) : (Instr.typeAssert (.iface 39 (.agg #[])) 20 39 true).run Try.prog w = .ok (.tuple #[.agg #[], .bool true]) w := by kernel_rfl

theorem catch_over (b : Nat) (x : Int) (older : List PanicEntry) (w : World) (hb : b < w.heap.size) (hc : w.cell? ⟨b, 0, none⟩ = some (.int .i64 x)) (hz : w.frozen? ⟨b, 0, none⟩ = false) :
    CallsD Try.prog 24 #[.pointer (some ⟨b, 0, none⟩)] (.panicking (overEntry :: older)) w fun e u' w' =>
      e = .returned (.tuple #[]) ∧ u' = .panicking ({ overEntry with recovered := true } :: older) ∧ w' = (w.setCell ⟨b, 0, none⟩ (.int .i64 13)).alloc (.cells #[] 39) := by
  have hc2 : (w.alloc (.cells #[] 39)).cell? ⟨b, 0, none⟩ = some (.int .i64 x) := by rw [World.cell?_alloc_past _ _ _ hb]; exact hc
  have hz2 : (w.alloc (.cells #[] 39)).frozen? ⟨b, 0, none⟩ = false := by rw [World.frozen?_alloc_past _ _ _ hb]; exact hz
  refine callsD_of_wpS Try.func24 rfl fun c₀ cs hu => ?_
  unfold overEntry at hu
  have hta := assert_over
  apply wpS_seq
  apply wpS_region
  simp [wpOpsS, go_sem, recoverD, hu, Try.ntmps24, Exit.thenS]
  refine wpS_of_wp ?_
  go_wp2
  cases c₀
  simp_all [bodyPostS, results, Try.results24, overEntry]

theorem catch_idle (p : Addr) (w : World) :
    CallsD Try.prog 24 #[.pointer (some p)] .returning w fun e u' w' => e = .returned (.tuple #[]) ∧ u' = .returning ∧ w' = w := by
  refine callsD_of_wpS Try.func24 rfl fun c₀ cs hu => ?_
  apply wpS_seq
  apply wpS_region
  simp [wpOpsS, go_sem, recoverD, hu, Try.ntmps24, Exit.thenS]
  refine wpS_of_wp ?_
  go_wp2
  cases c₀
  simp_all [bodyPostS, results, Try.results24]

/-- How what Try does may end, seen from the world in which Try began. -/
def DoEnds (w : World) (Q : Bool → World → Prop) (e : Ending) (w' : World) : Prop :=
  ∃ ok, Q ok w' ∧ e = (if ok then .returned (.tuple #[]) else .panicked [overEntry]) ∧ w.heap.size < w'.heap.size ∧
    w'.cell? ⟨w.heap.size, 0, none⟩ = some (.int .i64 0) ∧ w'.frozen? ⟨w.heap.size, 0, none⟩ = false

/-- How Try ends. -/
def TryEnds (w : World) (Q : Bool → World → Prop) (e : Ending) (w' : World) : Prop :=
  ∃ ok w1, Q ok w1 ∧ e = .returned (.int .i64 (if ok then 0 else 13)) ∧
    w' = (if ok then w1.setCell ⟨w.heap.size, 0, none⟩ (.int .i64 0) else (w1.setCell ⟨w.heap.size, 0, none⟩ (.int .i64 13)).alloc (.cells #[] 39))

set_option maxHeartbeats 400000 in
theorem try_any (f : Nat) (cap : Array Value) (w : World) (Q : Bool → World → Prop)
    (hcf : ∀ w, (callFunc f cap).run Try.prog w = .ok (.enter f cap) w)
    (hdo : Calls Try.prog f cap (w.alloc (.cells #[.int .i64 0] 29)) (DoEnds w Q)) :
    Calls Try.prog 15 #[.func (.func f) #[] cap] w (TryEnds w Q) := by
  have hmf : ∀ (fn : Fn) (first cap : Array Value) (w : World), (Instr.makeFunc fn first cap).run Try.prog w = .ok (.func fn first cap) w := fun _ _ _ _ => rfl
  have HD := Lib.hid hdo
  clear hdo
  go_enter_defers Try.func15, Try.ntmps15
  go_wp2_with fail
  refine HD.out.mono ?_
  rintro e w1 ⟨ok, hq, rfl, hs, hc, hz⟩
  cases ok
  · go_wp2
    refine leaves_cons (f := 24) (args := #[.pointer (some ⟨w.heap.size, 0, none⟩)]) (by simp) (by simp [go_sem]) ?_
    refine (catch_over _ 0 [] _ hs hc hz).mono ?_
    rintro e u' w'' ⟨rfl, rfl, rfl⟩
    simp [Leaves, settle, results, Try.results15, go_sem, hs, hc]
    exact ⟨false, w1, hq, rfl, rfl⟩
  · go_wp2
    refine leaves_cons (f := 24) (args := #[.pointer (some ⟨w.heap.size, 0, none⟩)]) (by simp) (by simp [go_sem]) ?_
    refine (catch_idle ⟨w.heap.size, 0, none⟩ _).mono ?_
    rintro e u' w'' ⟨rfl, rfl, rfl⟩
    simp [Leaves, settle, results, Try.results15, go_sem, hc]
    exact ⟨true, w1, hq, rfl, rfl⟩

/-! Plus and Minus. -/
set_option maxHeartbeats 400000 in
theorem plus_yes (a b : Int) (h : sumFits a b) (w : World) :
    Calls Try.prog 18 #[.int .i64 a, .int .i64 b] w fun e w' => e = .returned (.int .i64 (a + b)) ∧ w = w' := by
  go_enter Try.func18, Try.ntmps18
  go_wp2_with fail
  refine (add_any _ _ _).mono ?_; rw [addV_yes h]; rintro e w' ⟨rfl, rfl⟩
  go_wp2_with fail
  refine (orEnd_yes _ _).mono ?_; rintro e w' ⟨rfl, rfl⟩
  go_wp2_with fail
  go_ret
  exact ⟨rfl, rfl⟩

set_option maxHeartbeats 400000 in
theorem plus_no (a b : Int) (h : ¬ sumFits a b) (w : World) :
    Calls Try.prog 18 #[.int .i64 a, .int .i64 b] w fun e w' => e = .panicked [overEntry] ∧ w = w' := by
  go_enter Try.func18, Try.ntmps18
  go_wp2_with fail
  refine (add_any _ _ _).mono ?_; rw [addV_no h]; rintro e w' ⟨rfl, rfl⟩
  go_wp2_with fail
  refine (orEnd_no _ _).mono ?_; rintro e w' ⟨rfl, rfl⟩
  go_wp2_with fail
  exact ⟨rfl, rfl, rfl⟩

set_option maxHeartbeats 400000 in
theorem minus_yes (a b : Int) (h : diffFits a b) (w : World) :
    Calls Try.prog 17 #[.int .i64 a, .int .i64 b] w fun e w' => e = .returned (.int .i64 (a - b)) ∧ w = w' := by
  go_enter Try.func17, Try.ntmps17
  go_wp2_with fail
  refine (sub_yes _ _ h _).mono ?_; rintro e w' ⟨rfl, rfl⟩
  go_wp2_with fail
  refine (orEnd_yes _ _).mono ?_; rintro e w' ⟨rfl, rfl⟩
  go_wp2_with fail
  go_ret
  exact ⟨rfl, rfl⟩

set_option maxHeartbeats 400000 in
theorem minus_no (a b : Int) (hm : -9223372036854775808 ≤ b ∧ b ≤ 9223372036854775807) (h : ¬ diffFits a b) (w : World) :
    Calls Try.prog 17 #[.int .i64 a, .int .i64 b] w fun e w' => e = .panicked [overEntry] ∧ w = w' := by
  have HM := Lib.hid hm
  clear hm
  go_enter Try.func17, Try.ntmps17
  go_wp2_with fail
  refine (sub_no _ _ HM.out h _).mono ?_; rintro e w' ⟨rfl, rfl⟩
  go_wp2_with fail
  refine (orEnd_no _ _).mono ?_; rintro e w' ⟨rfl, rfl⟩
  go_wp2_with fail
  exact ⟨rfl, rfl, rfl⟩
end Go.Proofs.Ytceanfocgdnnaaa
