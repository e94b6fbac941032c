/- The walk of StrutTells. -/
import Derived.Test.YtfiagopmolegjaaRaw
namespace Go.Proofs.Ytfiagopmolegjaa
open Go.RowKit Go.Sort

theorem calls_same_below {P : Program} {f : FuncId} {args : Array Value} {w : World} {v : Value} (h : Calls P f args w fun e w' => e = .returned v ∧ w = w') :
    Calls P f args w fun e w' => e = .returned v ∧ Below w.heap.size w w' := h.mono fun _ _ ⟨he, hw⟩ => ⟨he, by subst hw; exact Below.refl _ _⟩

theorem most_is {A : Option Addr} {n c : Nat} {xs : List Int} {w W : World} {p : Int} {d : Nat} {os : Array Obj} (hp : mostOf xs = p) (hn : n = xs.length) (h60 : n ≤ 60) (hx : Nums w w.heap.size A xs) (hb : Below w.heap.size w W) :
    Calls Try.prog 11 #[.slice A n c] (grow (redrawn W d) os) fun e w' => e = .returned (.int .i64 p) ∧ Below (grow (redrawn W d) os).heap.size (grow (redrawn W d) os) w' := by
  subst hp; exact calls_same_below (most_any A n c xs _ hn (by omega) _ ((hx.thru hb).below (below_regrown _ _ _)))
theorem least_is {A : Option Addr} {n c : Nat} {xs : List Int} {w W : World} {p : Int} {d : Nat} {os : Array Obj} (hp : leastOf xs = p) (hn : n = xs.length) (h60 : n ≤ 60) (hx : Nums w w.heap.size A xs) (hb : Below w.heap.size w W) :
    Calls Try.prog 12 #[.slice A n c] (grow (redrawn W d) os) fun e w' => e = .returned (.int .i64 p) ∧ Below (grow (redrawn W d) os).heap.size (grow (redrawn W d) os) w' := by
  subst hp; exact calls_same_below (least_any A n c xs _ hn (by omega) _ ((hx.thru hb).below (below_regrown _ _ _)))
theorem rsum_is {A : Option Addr} {n c : Nat} {xs : List Int} {w W : World} {p q : Int} {d : Nat} {os : Array Obj} (hp : mostOf xs = p) (hq : leastOf xs = q) (hn : n = xs.length) (h60 : n ≤ 60) (hx : Nums w w.heap.size A xs) (hs : xs.all inB = true) (hb : Below w.heap.size w W) :
    Calls Try.prog 14 #[.slice A n c] (grow (redrawn W d) os) fun e w' => e = .returned (.int .i64 (p + q)) ∧ Below (grow (redrawn W d) os).heap.size (grow (redrawn W d) os) w' := by
  subst hp hq; exact calls_same_below (rsum_any A n c xs _ hn (by omega) _ ((hx.thru hb).below (below_regrown _ _ _)) hs)
theorem sum_is {p q : Int} (hb : (0 ≤ p ∧ p ≤ 1152921504606846976) ∧ (-1152921504606846976 ≤ q ∧ q ≤ 0)) (w : World) :
    Calls Try.prog 13 #[.agg #[.int .i64 p, .int .i64 q]] w fun e w' => e = .returned (.int .i64 (p + q)) ∧ Below w.heap.size w w' :=
  sum_any p q (by omega) (by omega) w

set_option maxRecDepth 100000 in
set_option maxHeartbeats 1000000 in
theorem tells_yes (A : Option Addr) (n c : Nat) (xs : List Int) (w : World) (hn : n = xs.length) (h60 : n ≤ 60) (hx : Nums w w.heap.size A xs) (hs : xs.all inB = true) :
    Calls Try.prog 3 #[.slice A n c] w fun e w' => e = .returned (.bool true) ∧ Below w.heap.size w w' := by
  obtain ⟨p, hp⟩ : ∃ p, mostOf xs = p := ⟨_, rfl⟩
  obtain ⟨q, hq⟩ : ∃ q, leastOf xs = q := ⟨_, rfl⟩
  have hb := bounds_of xs hs
  rw [hp, hq] at hb
  have HX := Lib.hid hx
  have HN := Lib.hid hn
  have HS := Lib.hid hs
  have HP := Lib.hid hp
  have HQ := Lib.hid hq
  have HB := Lib.hid hb
  have HR := Lib.hid (show (decide (q ≤ 0) && decide (0 ≤ p)) = true by simp; omega)
  clear hx hn hs hp hq hb
  go_enter Try.func3, Try.ntmps3
  go_wp2_with fail
  refine (speaks_any _).mono ?_; rintro e w1 ⟨rfl, b1⟩
  go_wp2_with fail
  refine (small_is _ _ _ xs _ HN.out (by omega) _ (HX.out.thru b1) _ HS.out).mono ?_; rintro e w2 ⟨rfl, rfl⟩
  go_wp2_with fail
  refine (of_any _ _ _ xs _ HN.out (by omega) (HX.out.thru b1)).mono ?_; rintro e w3 ⟨rfl, b3⟩
  rw [HP.out, HQ.out]
  replace b3 := Lib.hid (thru b1 b3)
  clear b1
  go_upto_region 4 with fail
  generalize hW : World.alloc w3 _ = W
  have k0 := cell_regrown (w := W) (a := ⟨w3.heap.size, 0, none⟩) (v := .int .i64 p) (by rw [← hW]; simp [go_sem])
  have k1 := cell_regrown (w := W) (a := ⟨w3.heap.size, 1, none⟩) (v := .int .i64 q) (by rw [← hW]; simp [go_sem])
  have B3 : Hid (Below w.heap.size w W) := Lib.hid (by rw [← hW]; exact thru b3.out (ba1 w3 _))
  clear hW b3
  refine wp_region_quiet_below (by kernel_rfl) (by kernel_rfl) ?_
  repeat (quiet_step (first
    | (go_at_call 11; with_reducible exact Calls.regrown_of (most_is HP.out HN.out h60 HX.out B3.out))
    | (go_at_call 12; with_reducible exact Calls.regrown_of (least_is HQ.out HN.out h60 HX.out B3.out))
    | (go_at_call 13; with_reducible exact Calls.regrown_of (sum_is HB.out _))
    | (go_at_call 14; with_reducible exact Calls.regrown_of (rsum_is HP.out HQ.out HN.out h60 HX.out HS.out B3.out))
    | (go_at_call 15; with_reducible exact Calls.regrown_of (right_is _ _ true HR.out _))))
  refine wpQuiet_nil ?_
  intro _ hw'
  obtain ⟨⟨dq4, os4⟩, hw''⟩ := hw'
  subst hw''
  have q4 := below_regrown W dq4 os4
  generalize grow (redrawn W dq4) os4 = w4 at q4 ⊢
  clear k0 k1
  go_wp2_with fail
  go_ret
  exact ⟨rfl, thru B3.out q4⟩

set_option maxRecDepth 100000 in
set_option maxHeartbeats 400000 in
theorem tells_no (A : Option Addr) (n c : Nat) (xs : List Int) (w : World) (hn : n = xs.length) (h60 : n ≤ 60) (hx : Nums w w.heap.size A xs) (hs : xs.all inB = false) :
    Calls Try.prog 3 #[.slice A n c] w fun e w' => e = .returned (.bool true) ∧ Below w.heap.size w w' := by
  have HX := Lib.hid hx
  have HN := Lib.hid hn
  have HS := Lib.hid hs
  clear hx hn hs
  go_enter Try.func3, Try.ntmps3
  go_wp2_with fail
  refine (speaks_any _).mono ?_; rintro e w1 ⟨rfl, b1⟩
  go_wp2_with fail
  refine (small_is _ _ _ xs _ HN.out (by omega) _ (HX.out.thru b1) _ HS.out).mono ?_; rintro e w2 ⟨rfl, rfl⟩
  go_wp2_with fail
  refine (speaks_any _).mono ?_; rintro e w3 ⟨rfl, b3⟩
  go_wp2_with fail
  go_ret
  exact ⟨rfl, thru b1 b3⟩

set_option maxRecDepth 100000 in
set_option maxHeartbeats 400000 in
theorem tells_long (A : Option Addr) (n c : Nat) (w : World) (h60 : ¬ n ≤ 60) :
    Calls Try.prog 3 #[.slice A n c] w fun e w' => e = .returned (.bool true) ∧ Below w.heap.size w w' := by
  go_enter Try.func3, Try.ntmps3
  go_wp2_with fail
  refine (speaks_any _).mono ?_; rintro e w1 ⟨rfl, b1⟩
  go_wp2_with fail
  refine (speaks_any _).mono ?_; rintro e w3 ⟨rfl, b3⟩
  go_wp2_with fail
  go_ret
  exact ⟨rfl, thru b1 b3⟩

theorem tells_any (A : Option Addr) (n c : Nat) (xs : List Int) (w : World) (hn : n = xs.length) (hx : Nums w w.heap.size A xs) :
    Calls Try.prog 3 #[.slice A n c] w fun e w' => e = .returned (.bool true) ∧ Below w.heap.size w w' := by
  by_cases h60 : n ≤ 60
  · cases h : xs.all inB with
    | false => exact tells_no A n c xs w hn h60 hx h
    | true => exact tells_yes A n c xs w hn h60 hx h
  · exact tells_long A n c w h60

end Go.Proofs.Ytfiagopmolegjaa
