/- The contracts of record's small functions, of the document's, and of the ranges over lists that they call. -/
import Derived.Test.YtnmfgcdenngpfaaLib
import Derived.Test.YtnmfgcdenngpfaaReg
namespace Go.Proofs.Ytnmfgcdenngpfaa.Record
open Go.RowKit Go.Sort

def beyB (n a b : Int) : Bool := decide (n < a) || decide (b < n)
def bigB (n : Int) : Bool := beyB n (-268435456) 268435456

set_option maxHeartbeats 400000 in
theorem beyond_any (n a b : Int) (w : World) :
    Calls Try.prog 49 #[.int .i64 n, .int .i64 a, .int .i64 b] w fun e w' => e = .returned (.bool (beyB n a b)) ∧ w = w' := by
  go_enter Try.func49, Try.ntmps49
  go_wp2
  all_goals (go_ret; exact ⟨ret_bool (by rw [Bool.eq_iff_iff]; simp_all [beyB] <;> omega), rfl⟩)

theorem beyond_is (n a b : Int) (v : Bool) (hv : beyB n a b = v) (w : World) :
    Calls Try.prog 49 #[.int .i64 n, .int .i64 a, .int .i64 b] w fun e w' => e = .returned (.bool v) ∧ w = w' := by
  subst hv; exact beyond_any n a b w

set_option maxHeartbeats 400000 in
theorem out_any (n : Int) (w : World) :
    Calls Try.prog 64 #[.int .i64 n] w fun e w' => e = .returned (.bool (bigB n)) ∧ w = w' := by
  go_enter Try.func64, Try.ntmps64
  go_wp2_with fail
  refine (beyond_any _ _ _ _).mono ?_; rintro e w' ⟨rfl, rfl⟩
  go_wp2_with fail
  go_ret
  exact ⟨rfl, rfl⟩

theorem out_is (n : Int) (v : Bool) (hv : bigB n = v) (w : World) :
    Calls Try.prog 64 #[.int .i64 n] w fun e w' => e = .returned (.bool v) ∧ w = w' := by
  subst hv; exact out_any n w

set_option maxHeartbeats 400000 in
theorem refbig_any (n : Int) (w : World) :
    Calls Try.prog 25 #[.int .i64 n] w fun e w' => e = .returned (.bool (bigB n)) ∧ w = w' := by
  go_enter Try.func25, Try.ntmps25
  go_wp2
  all_goals (go_ret; exact ⟨ret_bool (by rw [Bool.eq_iff_iff]; simp_all [bigB, beyB] <;> omega), rfl⟩)

theorem refbig_is (n : Int) (v : Bool) (hv : bigB n = v) (w : World) :
    Calls Try.prog 25 #[.int .i64 n] w fun e w' => e = .returned (.bool v) ∧ w = w' := by
  subst hv; exact refbig_any n w

def sideB (k s : Int) : Bool := if k = 2 then decide (s = 1) || decide (s = 2) else decide (s = 0)

set_option maxHeartbeats 400000 in
theorem side_any (k s : Int) (w : World) :
    Calls Try.prog 53 #[.int .i64 k, .int .i64 s] w fun e w' => e = .returned (.bool (sideB k s)) ∧ w = w' := by
  go_enter Try.func53, Try.ntmps53
  go_wp2
  all_goals (go_ret; exact ⟨ret_bool (by rw [Bool.eq_iff_iff]; simp_all [sideB] <;> omega), rfl⟩)

theorem side_is (k s : Int) (v : Bool) (hv : sideB k s = v) (w : World) :
    Calls Try.prog 53 #[.int .i64 k, .int .i64 s] w fun e w' => e = .returned (.bool v) ∧ w = w' := by
  subst hv; exact side_any k s w

def leastH (k : Int) : Int := if k = 5 then 0 else -1
def leastW (k : Int) : Int := if k = 2 then 0 else leastH k

set_option maxHeartbeats 400000 in
theorem leastH_any (k : Int) (w : World) :
    Calls Try.prog 57 #[.int .i64 k] w fun e w' => e = .returned (.int .i64 (leastH k)) ∧ w = w' := by
  go_enter Try.func57, Try.ntmps57
  go_wp2
  all_goals (go_ret; exact ⟨ret_int (by simp_all [leastH]), rfl⟩)

theorem leastH_is (k v : Int) (hv : leastH k = v) (w : World) :
    Calls Try.prog 57 #[.int .i64 k] w fun e w' => e = .returned (.int .i64 v) ∧ w = w' := by
  subst hv; exact leastH_any k w

set_option maxHeartbeats 400000 in
theorem leastW_any (k : Int) (w : World) :
    Calls Try.prog 56 #[.int .i64 k] w fun e w' => e = .returned (.int .i64 (leastW k)) ∧ w = w' := by
  by_cases h : k = 2
  · subst h
    go_enter Try.func56, Try.ntmps56
    go_wp2
    go_ret
    exact ⟨rfl, rfl⟩
  · go_enter Try.func56, Try.ntmps56
    go_wp2_with fail
    refine (leastH_any _ _).mono ?_; rintro e w' ⟨rfl, rfl⟩
    go_wp2_with fail
    go_ret
    exact ⟨by simp [leastW, h], rfl⟩

theorem leastW_is (k v : Int) (hv : leastW k = v) (w : World) :
    Calls Try.prog 56 #[.int .i64 k] w fun e w' => e = .returned (.int .i64 v) ∧ w = w' := by
  subst hv; exact leastW_any k w

def openB (k : Int) : Bool := decide (k = 2) || decide (k = 3)
def holdsB (k : Int) : Bool := decide (k = 1) || openB k
def fitsB (p c : Int) : Bool :=
  if c = 1 ∨ c = 3 ∨ c = 4 then holdsB p else if c = 2 then holdsB p || decide (p = 4) else if c = 5 then decide (p = 4) else false

set_option maxHeartbeats 400000 in
theorem open_any (k : Int) (w : World) :
    Calls Try.prog 43 #[.int .i64 k] w fun e w' => e = .returned (.bool (openB k)) ∧ w = w' := by
  go_enter Try.func43, Try.ntmps43
  go_wp2
  all_goals (go_ret; exact ⟨ret_bool (by rw [Bool.eq_iff_iff]; simp_all [openB] <;> omega), rfl⟩)

theorem open_is (k : Int) (v : Bool) (hv : openB k = v) (w : World) :
    Calls Try.prog 43 #[.int .i64 k] w fun e w' => e = .returned (.bool v) ∧ w = w' := by
  subst hv; exact open_any k w

set_option maxHeartbeats 400000 in
theorem holds_any (k : Int) (w : World) :
    Calls Try.prog 62 #[.int .i64 k] w fun e w' => e = .returned (.bool (holdsB k)) ∧ w = w' := by
  by_cases h : k = 1
  · subst h
    go_enter Try.func62, Try.ntmps62
    go_wp2
    go_ret
    exact ⟨rfl, rfl⟩
  · go_enter Try.func62, Try.ntmps62
    go_wp2_with fail
    refine (open_any _ _).mono ?_; rintro e w' ⟨rfl, rfl⟩
    go_wp2_with fail
    go_ret
    exact ⟨by simp [holdsB, h], rfl⟩

theorem holds_is (k : Int) (v : Bool) (hv : holdsB k = v) (w : World) :
    Calls Try.prog 62 #[.int .i64 k] w fun e w' => e = .returned (.bool v) ∧ w = w' := by
  subst hv; exact holds_any k w

set_option maxHeartbeats 400000 in
theorem fits_any (p c : Int) (w : World) :
    Calls Try.prog 46 #[.int .i64 p, .int .i64 c] w fun e w' => e = .returned (.bool (fitsB p c)) ∧ w = w' := by
  obtain ⟨v, hv⟩ : ∃ v, holdsB p = v := ⟨_, rfl⟩
  have HV := Lib.hid hv
  clear hv
  by_cases h : c = 1 ∨ c = 3 ∨ c = 4
  · have hf : fitsB p c = v := by simp [fitsB, h, HV.out]
    rw [hf]
    clear hf
    rcases h with rfl | rfl | rfl
    all_goals
      go_enter Try.func46, Try.ntmps46
      go_wp2_with fail
      refine (holds_is _ _ HV.out _).mono ?_; rintro e w' ⟨rfl, rfl⟩
      go_wp2_with fail
      go_ret
      exact ⟨rfl, rfl⟩
  · by_cases h2 : c = 2
    · subst h2
      have hf : fitsB p 2 = (v || decide (p = 4)) := by simp [fitsB, HV.out]
      rw [hf]
      clear hf h
      cases v
      · go_enter Try.func46, Try.ntmps46
        go_wp2_with fail
        refine (holds_is _ _ HV.out _).mono ?_; rintro e w' ⟨rfl, rfl⟩
        go_wp2_with fail
        all_goals (go_ret; exact ⟨ret_bool (by rw [Bool.eq_iff_iff]; try simp_all), rfl⟩)
      · go_enter Try.func46, Try.ntmps46
        go_wp2_with fail
        refine (holds_is _ _ HV.out _).mono ?_; rintro e w' ⟨rfl, rfl⟩
        go_wp2_with fail
        go_ret
        exact ⟨rfl, rfl⟩
    · have h1 : ¬ c = 1 := fun e => h (Or.inl e)
      have h3 : ¬ c = 3 := fun e => h (Or.inr (Or.inl e))
      have h4 : ¬ c = 4 := fun e => h (Or.inr (Or.inr e))
      have hf : fitsB p c = if c = 5 then decide (p = 4) else false := by simp [fitsB, h, h2]
      rw [hf]
      clear hf h HV
      go_enter Try.func46, Try.ntmps46
      go_wp2
      all_goals (go_ret; exact ⟨ret_bool (by rw [Bool.eq_iff_iff]; try simp_all), rfl⟩)

end Go.Proofs.Ytnmfgcdenngpfaa.Record
