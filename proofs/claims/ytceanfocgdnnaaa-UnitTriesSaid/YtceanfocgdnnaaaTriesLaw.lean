/-
  For every list of numbers, and for adding as for taking away, the law UnitTries answers true: what is reckoned within a Try is reckoned up to the first time that something goes over, then Try tells it, and nothing behind it is done; no condition.
-/
import Derived.Test.YtceanfocgdnnaaaTries
import Derived.Test.YtceanfocgdnnaaaReckons
namespace Go.Proofs.Ytceanfocgdnnaaa.unitTries
open Go.ChangeShapes Go.WideShapes Go.ChangeAt Go.RowKit

/-- What the document's Add, or Sub, answers to one step. -/
theorem subV_step {s n : Int} (h : stepFits true s n) : subV s n = .tuple #[.int .i64 (stepTo true s n), .bool true] := subV_yes (by simpa [stepFits] using h)
theorem subV_over {s n : Int} (h : ¬ stepFits true s n) : subV s n = .tuple #[.int .i64 0, .bool false] := subV_no (by simpa [stepFits] using h)
theorem addV_step {s n : Int} (h : stepFits false s n) : addV s n = .tuple #[.int .i64 (stepTo false s n), .bool true] := addV_yes (by simpa [stepFits] using h)
theorem addV_over {s n : Int} (h : ¬ stepFits false s n) : addV s n = .tuple #[.int .i64 0, .bool false] := addV_no (by simpa [stepFits] using h)

set_option maxRecDepth 100000 in
set_option maxHeartbeats 1600000 in
theorem walk (m : Bool) (A : Option Addr) (len cap : Nat) (xs : List Int) (w : World) (hlen : len = xs.length)
    (hm : len ≤ 9223372036854775807) (hx : Nums w w.heap.size A xs) (hbn : ∀ n ∈ xs, -9223372036854775808 ≤ n ∧ n ≤ 9223372036854775807) :
    Calls Try.prog 4 #[.slice A len cap, .bool m] w fun e w' => e = .returned (.bool true) ∧ Kp w.heap.size w w' := by
  have hmf : ∀ (fn : Fn) (first cap : Array Value) (w : World), (Instr.makeFunc fn first cap).run Try.prog w = .ok (.func fn first cap) w := fun _ _ _ _ => rfl
  have HL := Lib.hid hlen
  have HBN := Lib.hid hbn
  have K0 : Kp w.heap.size w (((((w.alloc (.cells #[.slice A len cap] 22)).alloc (.cells #[.bool m] 4)).alloc (.cells #[.int .i64 0] 3)).alloc (.cells #[.int .i64 0] 3)).alloc (.cells #[.bool false] 4)) :=
    ((((((Kp.refl _ _).alloc (Nat.le_refl _) _ _).alloc (by simp) _ _).alloc (by simp; omega) _ _).alloc (by simp; omega) _ _).alloc (by simp; omega) _ _)
  have HX := Lib.hid ((hx.kp K0).more (show w.heap.size ≤ w.heap.size + 1 + 1 by omega))
  clear hlen hbn hx
  by_cases h60 : len ≤ 60
  · go_enter Try.func4, Try.ntmps4
    go_wp2_with fail
    refine (speaks_any _).mono ?_; rintro e w' ⟨rfl, rfl⟩
    go_wp2_with fail
    refine (tries_try m w.heap.size (w.heap.size + 1) (w.heap.size + 1 + 1) (w.heap.size + 1 + 1 + 1) (w.heap.size + 1 + 1 + 1 + 1) A len cap xs _ HL.out hm ?_ ?_ ?_ ?_ ?_ ?_ ?_ ?_
      (by omega) (by omega) (by omega) (by omega) HX.out HBN.out).mono ?_
    all_goals try (simp [go_sem]; done)
    rintro e w1 ⟨ok, s0, d0, hr, rfl, hk, cs, cd, ca⟩
    have HR := Lib.hid hr
    obtain ⟨ec, hec⟩ : ∃ c : Int, c = (if ok then 0 else 13) := ⟨_, rfl⟩
    rw [← hec]
    have HC := Lib.hid hec
    clear hec
    have cl : w1.cell? ⟨w.heap.size, 0, none⟩ = some (.slice A len cap) := by rw [hk.cell _ _ (by omega)]; simp [go_sem]
    have cm : w1.cell? ⟨w.heap.size + 1, 0, none⟩ = some (.bool m) := by rw [hk.cell _ _ (by omega)]; simp [go_sem]
    have HX1 := Lib.hid (HX.out.kp hk)
    have K1 := Lib.hid (K0.trans (hk.mono (by omega)))
    clear K0 hk hr
    go_wp2_with fail
    go_loop [9, 10, 28] (fun v c i => ∃ k : Nat, ∃ s : Int, k ≤ len ∧ i = .int .i64 k ∧ v = .int .i64 s ∧ c = .int .i64 k ∧ runFrom m 0 0 (xs.take k) = (true, s, k)) (fun _ _ i => len - (intOf i).toNat)
    case atStart => exact ⟨0, 0, Nat.zero_le _, rfl, rfl, rfl, rfl⟩
    case round =>
      obtain ⟨k, s, hk, rfl, rfl, rfl, he⟩ := hrel
      have HE := Lib.hid he
      clear he
      by_cases hlt : k < len
      · obtain ⟨ad, hA, hb, hcx⟩ := HX1.out k (by rw [← HL.out]; exact hlt)
        subst hA
        obtain ⟨n, hn⟩ : ∃ n, n = xs.getD k 0 := ⟨_, rfl⟩
        rw [← hn] at hcx
        have HN := Lib.hid hn
        clear hn
        by_cases hfit : stepFits m s n
        · have HS : Hid (runFrom m 0 0 (xs.take (k + 1)) = (true, stepTo m s n, k + 1)) := by
            show _ = _
            rw [runFrom_step xs k (by rw [← HL.out]; exact hlt) HE.out, ← HN.out, if_pos hfit]
          cases m
          · go_wp2_with fail
            refine (radd_any _ _ _).mono ?_; rw [addV_step hfit]; rintro e w' ⟨rfl, rfl⟩
            go_wp2_with fail
            go_round
            case rel => exact ⟨k + 1, stepTo false s n, by omega, by go_num, rfl, by go_num, HS.out⟩
            case measure => simp [intOf]; omega
          · go_wp2_with fail
            refine (radd_any _ _ _).mono ?_; rw [unitReckons.addV_eq]; rintro e w' ⟨rfl, rfl⟩
            go_wp2_with fail
            refine (rsub_any _ _ _).mono ?_; rw [subV_step hfit]; rintro e w' ⟨rfl, rfl⟩
            go_wp2_with fail
            go_round
            case rel => exact ⟨k + 1, stepTo true s n, by omega, by go_num, rfl, by go_num, HS.out⟩
            case measure => simp [intOf]; omega
        · have h1 := runFrom_stop (m := m) (s := s) (d := k) xs (k + 1) (by rw [runFrom_step xs k (by rw [← HL.out]; exact hlt) HE.out, ← HN.out, if_neg hfit])
          rw [HR.out] at h1
          simp only [Prod.mk.injEq] at h1
          obtain ⟨rfl, rfl, rfl⟩ := h1
          obtain rfl : ec = 13 := HC.out
          have hw : ((d0 : Int) == (len : Int)) = false := by rw [beq_eq_false_iff_ne]; omega
          cases m
          · go_wp2_with fail
            refine (radd_any _ _ _).mono ?_; rw [addV_over hfit]; rintro e w' ⟨rfl, rfl⟩
            go_wp2_with fail
            go_ret
            exact ⟨rfl, K1.out⟩
          · go_wp2_with fail
            refine (radd_any _ _ _).mono ?_; rw [unitReckons.addV_eq]; rintro e w' ⟨rfl, rfl⟩
            go_wp2_with fail
            refine (rsub_any _ _ _).mono ?_; rw [subV_over hfit]; rintro e w' ⟨rfl, rfl⟩
            go_wp2_with fail
            go_ret
            exact ⟨rfl, K1.out⟩
      · have h1 := HE.out
        rw [List.take_of_length_le (by have := HL.out; omega), HR.out] at h1
        simp only [Prod.mk.injEq] at h1
        obtain ⟨rfl, rfl, rfl⟩ := h1
        obtain rfl : ec = 0 := HC.out
        obtain rfl : d0 = len := by omega
        clear hk hlt
        go_wp2_with fail
        go_ret
        exact ⟨rfl, K1.out⟩
  · go_enter Try.func4, Try.ntmps4
    go_wp2_with fail
    refine (speaks_any _).mono ?_; rintro e w' ⟨rfl, rfl⟩
    go_wp2_with fail
    refine (speaks_any _).mono ?_; rintro e w' ⟨rfl, rfl⟩
    go_wp2_with fail
    go_ret
    exact ⟨rfl, ((Kp.refl _ _).alloc (Nat.le_refl _) _ _).alloc (by simp) _ _⟩

set_option maxRecDepth 100000 in
theorem lifted (os : Os) (started : os.Started) (H : Type) (enc : TypeId × Value → H) :
    ReturnsInHanded {} Try.checked os 4 .any (Rows.unitTriesSpec.pre6 enc Try.prog Try.f4 Rows.unitTriesRow.domain false) (Rows.unitTriesSpec.post enc Try.prog Try.f4 false true false false) := by
  refine returnsInHanded_of_change (C := Try.checked) unitReckons.own started (by kernel_rfl) Try.func4
    (ChangeSpec.witness6 (enc := enc) (C := Try.checked) false ⟨#[], #[.slice none 0 0, .bool false], []⟩ 8 (by kernel_rfl) (by kernel_rfl) (by kernel_rfl) (by kernel_rfl)) ?_
  intro W base args ds gs before hval0 hW hcnd _
  have hval : ∀ (j : Nat) t v, Try.f4.params[j]? = some t → args[j]? = some v → Value.okWide Try.prog W .any base t v := hval0
  have hW' := hW
  obtain ⟨p, q, hA0, hV, rfl, hfz, hnd⟩ := hW
  have hA : DataW.TrodAll enc Try.prog W 0 (fun _ => true) true Try.f4.params.toList args.toList ds p := hA0
  rw [Try.params4] at hA hval
  obtain ⟨v0, vs0, d0, ds0, p0, q0, hargs, rfl, rfl, h0, r0⟩ := trodAll_cons hA
  obtain ⟨v1, vs1, d1, ds1, p1, q1, rfl, rfl, rfl, h1, r1⟩ := trodAll_cons r0
  obtain ⟨rfl, rfl, rfl⟩ := trodAll_nil r1
  obtain rfl : args = #[v0, v1] := by cases args; simp_all
  obtain ⟨rfl, rfl⟩ := trodVars_none hV
  obtain ⟨A, len, cap, xs, rfl, hlen, hm, hx, hbn⟩ := unitReckons.open_nums (okWide_slice Try.underlying22 (hval 0 22 v0 rfl rfl)) h0
  obtain ⟨m, rfl, rfl, rfl⟩ := open_bool Try.underlying4 (hval 1 4 v1 rfl rfl) h1
  clear hA0 hval0
  simp only [List.append_nil] at hW'
  have hlt : ∀ x ∈ p0, x.block < W.heap.size := fun x hx => by simpa using hW'.lt x hx
  refine (walk m A len cap xs W hlen hm hx hbn).mono fun e W' ⟨he, hg⟩ => ?_
  subst he
  exact ⟨_, rfl, post_of_same (pa := p0 ++ ([] ++ [])) (pv := []) hW' (fun _ _ _ => (trodAll_cons_mk (shut_bool Try.underlying4 _) trodAll_mk0))
    (fun sp hsp => (trodAll_cons_mk (WideElems.Trod_stays unitReckons.laidOut (by kernel_rfl) (of_decide_eq_true (by kernel_rfl)) h0 (fun x hx => hg.1.same (hlt x hx)) hsp)
      (trodAll_cons_mk (shut_bool Try.underlying4 m) trodAll_mk0))) (fun _ _ => rfl) (by simp)
    (hg.1.frame _) hg.2 (ok_one (by kernel_rfl) rfl (okWide_bool_mk Try.underlying4 _))⟩

theorem over : Rows.unitTriesRow.holds Try.pinned (OpenSpec.ofChange Rows.unitTriesSpec) :=
  OpenClaim.holds_of_wide 4 Try.f4 rfl rfl rfl rfl rfl rfl rfl ⟨rfl, rfl, rfl, rfl, rfl⟩ rfl rfl rfl rfl rfl (by kernel_rfl) Try.func4 (by kernel_rfl)
    (of_decide_eq_true (by kernel_rfl)) (by unfold Func.isWrapper; first | (rw [if_pos (by decide +kernel)]; kernel_rfl) | (rw [if_neg (by decide +kernel)]; exact ⟨rfl, rfl⟩))
    (fun os started H enc _ => lifted os started H enc)

theorem proved : Rows.UnitTriesSaid :=
  over
#print axioms proved
end Go.Proofs.Ytceanfocgdnnaaa.unitTries
