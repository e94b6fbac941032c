/- The contracts of the closures that look at lists of a box's numbers. -/
import Derived.Test.YtnmfgcdenngpfaaRecordBox
namespace Go.Proofs.Ytnmfgcdenngpfaa.Record
open Go.RowKit Go.Sort

theorem nums2 (w : World) (x y : Int) (T : TypeId) : Nums (w.alloc (.cells #[.int .i64 x, .int .i64 y] T)) (w.heap.size + 1) (some ⟨w.heap.size, 0, none⟩) [x, y] := fun k hk => by
  simp at hk
  refine ⟨_, rfl, by simp, ?_⟩
  obtain rfl | rfl : k = 0 ∨ k = 1 := by omega
  all_goals simp [go_sem, Addr.add]

set_option maxHeartbeats 1000000 in
theorem r2_is (g : Nat) (b : Bx) (w : World) (ha : At w g b) (x y z : Bool) (hx : [b.w, b.h].any bigB = x) (hy : [b.m0, b.m1, b.m2, b.m3].any bigB = y) (hz : [b.e0, b.e1, b.e2, b.e3].any bigB = z) :
    Calls Try.prog 50 #[.pointer (some ⟨g, 0, none⟩)] w fun e w' => e = .returned (.bool (x || y || z)) ∧ Below w.heap.size w w' := by
  have hm := (ha.margins.below (ba1 w (.cells #[.int .i64 b.w, .int .i64 b.h] 3)))
  have he := (ha.edges.below (ba1 w (.cells #[.int .i64 b.w, .int .i64 b.h] 3)))
  obtain ⟨-, -, -, -, c4, c5, -⟩ := ha
  have HM := Lib.hid hm
  have HE := Lib.hid he
  have HX := Lib.hid hx
  have HY := Lib.hid hy
  have HZ := Lib.hid hz
  clear hx hy hz hm he
  cases x
  · cases y
    · go_enter Try.func50, Try.ntmps50
      go_wp2_with fail
      refine (toobig_is _ 2 2 [b.w, b.h] _ rfl (by omega) _ (nums2 _ _ _ _) _ HX.out).mono ?_; rintro e w' ⟨rfl, rfl⟩
      go_wp2_with fail
      refine (toobig_is _ 4 4 [b.m0, b.m1, b.m2, b.m3] _ rfl (by omega) _ HM.out _ HY.out).mono ?_; rintro e w' ⟨rfl, rfl⟩
      go_wp2_with fail
      refine (toobig_is _ 4 4 [b.e0, b.e1, b.e2, b.e3] _ rfl (by omega) _ HE.out _ HZ.out).mono ?_; rintro e w' ⟨rfl, rfl⟩
      go_wp2_with fail
      go_ret
      exact ⟨rfl, ba1 _ _⟩
    · go_enter Try.func50, Try.ntmps50
      go_wp2_with fail
      refine (toobig_is _ 2 2 [b.w, b.h] _ rfl (by omega) _ (nums2 _ _ _ _) _ HX.out).mono ?_; rintro e w' ⟨rfl, rfl⟩
      go_wp2_with fail
      refine (toobig_is _ 4 4 [b.m0, b.m1, b.m2, b.m3] _ rfl (by omega) _ HM.out _ HY.out).mono ?_; rintro e w' ⟨rfl, rfl⟩
      go_wp2_with fail
      go_ret
      exact ⟨rfl, ba1 _ _⟩
  · go_enter Try.func50, Try.ntmps50
    go_wp2_with fail
    refine (toobig_is _ 2 2 [b.w, b.h] _ rfl (by omega) _ (nums2 _ _ _ _) _ HX.out).mono ?_; rintro e w' ⟨rfl, rfl⟩
    go_wp2_with fail
    go_ret
    exact ⟨rfl, ba1 _ _⟩

theorem eq22 (a b c d x y z u : Int) (w : World) : (Op.equalIn 10000 22 (.agg #[.int .i64 a, .int .i64 b, .int .i64 c, .int .i64 d]) (.agg #[.int .i64 x, .int .i64 y, .int .i64 z, .int .i64 u])).run Try.prog w = .ok (a == x && b == y && c == z && d == u) w := by
  have u3 := Try.underlying3
  have a3 := Try.isAgg3
  have z3 := Try.sizeOf3
  rw [show (10000 : Nat) = 9999 + 1 from rfl, Op.equalIn]
  simp only [Sem.run_bind, run_underlying Try.underlying22, Result.andThen_ok]
  simp only [Std.Legacy.Range.forIn_eq_forIn_range', Std.Legacy.Range.size, Nat.sub_zero, Nat.add_sub_cancel, Nat.div_one, List.range'_succ, List.range'_zero, List.forIn_cons, List.forIn_nil]
  go_simp
  by_cases h1 : a = x <;> by_cases h2 : b = y <;> by_cases h3 : c = z <;> by_cases h4 : d = u <;> simp [h1, h2, h3, h4]

set_option maxHeartbeats 400000 in
theorem r6_is (g a : Nat) (b : Bx) (w : World) (ha : At w g b) (u : Bool) (hb : w.cell? ⟨a, 0, none⟩ = some (.bool u)) :
    Calls Try.prog 58 #[.pointer (some ⟨a, 0, none⟩), .pointer (some ⟨g, 0, none⟩)] w fun e w' => e = .returned (.bool (u && !(b.m0 == 0 && b.m1 == 0 && b.m2 == 0 && b.m3 == 0))) ∧ Below w.heap.size w w' := by
  obtain ⟨-, -, -, -, -, -, c6, c7, c8, c9, -⟩ := ha
  have E := eq22
  cases u
  all_goals
    go_enter Try.func58, Try.ntmps58
    go_wp2_with fail
    all_goals (go_ret; refine ⟨?_, Below.refl _ _⟩; first | rfl | exact ret_bool (by simp))

set_option maxHeartbeats 400000 in
theorem r7_is (g a : Nat) (b : Bx) (w : World) (ha : At w g b) (u : Bool) (hb : w.cell? ⟨a, 0, none⟩ = some (.bool u)) (v : Bool) (hv : decide (minOf [b.e0, b.e1, b.e2, b.e3] < 0) = v) :
    Calls Try.prog 59 #[.pointer (some ⟨g, 0, none⟩), .pointer (some ⟨a, 0, none⟩)] w fun e w' => e = .returned (.bool (v || (u && !(b.e0 == 0 && b.e1 == 0 && b.e2 == 0 && b.e3 == 0)))) ∧ Below w.heap.size w w' := by
  have HE := Lib.hid ha.edges
  obtain ⟨-, -, -, -, -, -, -, -, -, -, c6, c7, c8, c9⟩ := ha
  obtain ⟨n, hn⟩ : ∃ n, n = minOf [b.e0, b.e1, b.e2, b.e3] := ⟨_, rfl⟩
  rw [← hn] at hv
  have HN := Lib.hid hn
  have HV := Lib.hid hv
  clear hn
  have E := eq22
  cases v <;> cases u
  all_goals
    go_enter Try.func59, Try.ntmps59
    go_wp2_with fail
    refine (min_any _ 4 4 [b.e0, b.e1, b.e2, b.e3] _ rfl (by omega) (by omega) _ HE.out).mono ?_; rw [← HN.out]; rintro e w' ⟨rfl, rfl⟩
    go_wp2_with fail
    all_goals (go_ret; refine ⟨?_, Below.refl _ _⟩; first | rfl | exact ret_bool (by simp))

end Go.Proofs.Ytnmfgcdenngpfaa.Record
