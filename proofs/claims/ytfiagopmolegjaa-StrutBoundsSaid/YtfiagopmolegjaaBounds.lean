/- The walk of StrutBounds. -/
import Derived.Test.YtfiagopmolegjaaTells
import Derived.Test.YtfiagopmolegjaaApp
namespace Go.Proofs.Ytfiagopmolegjaa
open Go.RowKit Go.Sort

theorem fold_neg (xs : List Int) : ∀ p q : Int, (xs.map (- ·)).foldl max (-q) = - xs.foldl min q ∧ (xs.map (- ·)).foldl min (-p) = - xs.foldl max p := by
  induction xs with
  | nil => intro p q; exact ⟨rfl, rfl⟩
  | cons n l ih =>
    intro p q
    simp only [List.map_cons, List.foldl_cons]
    have h1 : max (-q) (-n) = - min q n := by omega
    have h2 : min (-p) (-n) = - max p n := by omega
    rw [h1, h2]
    exact ih _ _

theorem most_neg (xs : List Int) : mostOf (xs.map (- ·)) = - leastOf xs := (fold_neg xs 0 0).1
theorem least_neg (xs : List Int) : leastOf (xs.map (- ·)) = - mostOf xs := (fold_neg xs 0 0).2

theorem take_neg (xs : List Int) (k : Nat) (h : k < xs.length) : (xs.take (k + 1)).map (- ·) = (xs.take k).map (- ·) ++ [- xs.getD k 0] := by
  rw [take_next xs k h, List.map_append]; rfl

theorem inB_at {xs : List Int} (h : xs.all inB = true) (k : Nat) (hk : k < xs.length) : -1152921504606846976 ≤ xs.getD k 0 ∧ xs.getD k 0 ≤ 1152921504606846976 := by
  rw [List.all_eq_true] at h
  have := h (xs.getD k 0) (by simp [List.getD, hk])
  exact inB_iff this

set_option maxRecDepth 100000 in
set_option maxHeartbeats 1000000 in
theorem bounds_yes (A : Option Addr) (n c : Nat) (xs : List Int) (w : World) (hn : n = xs.length) (h60 : n ≤ 60) (hx : Nums w w.heap.size A xs) (hs : xs.all inB = true) :
    Calls Try.prog 6 #[.slice A n c] w fun e w' => e = .returned (.bool true) ∧ Below w.heap.size w w' := by
  obtain ⟨p, hp⟩ : ∃ p, mostOf xs = p := ⟨_, rfl⟩
  obtain ⟨q, hq⟩ : ∃ q, leastOf xs = q := ⟨_, rfl⟩
  have hb := bounds_of xs hs
  rw [hp, hq] at hb
  have HX := Lib.hid hx
  have HN := Lib.hid hn
  have HS := Lib.hid hs
  have HP := Lib.hid hp
  have HQ := Lib.hid hq
  have HB := Lib.hid hb
  clear hx hn hs hp hq hb
  go_enter Try.func6, Try.ntmps6
  go_wp2_with fail
  refine (speaks_any _).mono ?_; rintro e w1 ⟨rfl, b1⟩
  go_wp2_with fail
  refine (small_is _ _ _ xs _ HN.out (by omega) _ (HX.out.thru b1) _ HS.out).mono ?_; rintro e w2 ⟨rfl, rfl⟩
  go_wp2_with fail
  refine (of_any _ _ _ xs _ HN.out (by omega) (HX.out.thru b1)).mono ?_; rintro e w3 ⟨rfl, b3⟩
  rw [HP.out, HQ.out]
  replace b3 := Lib.hid (thru b1 b3)
  clear b1
  go_wp2_with fail
  refine (sum_is HB.out _).mono ?_; rintro e w4 ⟨rfl, b4⟩
  obtain ⟨t, ht⟩ : ∃ t, p + q = t := ⟨_, rfl⟩
  rw [ht]
  have HT := Lib.hid ht
  clear ht
  replace b4 := Lib.hid (thru b3.out b4)
  clear b3
  go_wp2_with fail
  go_loop [4, 5, 29] (fun u d i => ∃ k : Nat, ∃ x y : Int, k ≤ n ∧ i = .int .i64 k ∧ u = .int .i64 x ∧ d = .int .i64 y ∧ Hid (x = mostOf (xs.take k) ∧ y = leastOf (xs.take k))) (fun _ _ i => n - (intOf i).toNat)
  case atStart => exact ⟨0, 0, 0, Nat.zero_le _, rfl, rfl, rfl, Lib.hid ⟨rfl, rfl⟩⟩
  case round =>
    obtain ⟨k, x, y, hk, rfl, rfl, rfl, H⟩ := hrel
    by_cases hlt : k < n
    · obtain ⟨ad, hA, _, hcx⟩ := (HX.out.thru b4.out) k (by rw [← HN.out]; exact hlt)
      subst hA
      obtain ⟨m, hm⟩ : ∃ m, m = xs.getD k 0 := ⟨_, rfl⟩
      rw [← hm] at hcx
      have HM := Lib.hid hm
      clear hm
      have HS1 := Lib.hid (mostOf_take xs k (by rw [← HN.out]; exact hlt))
      have HT1 := Lib.hid (leastOf_take xs k (by rw [← HN.out]; exact hlt))
      go_wp2
      all_goals
        go_round
        case rel => exact ⟨k + 1, max x m, min y m, by omega, by go_num, by simp; split <;> omega, by simp; split <;> omega, Lib.hid ⟨by rw [HS1.out, ← HM.out, ← H.out.1], by rw [HT1.out, ← HM.out, ← H.out.2]⟩⟩
        case measure => simp [intOf]; omega
    · have hv : x = p ∧ y = q := by
        rw [H.out.1, H.out.2, List.take_of_length_le (by rw [← HN.out]; omega)]; exact ⟨HP.out, HQ.out⟩
      obtain ⟨rfl, rfl⟩ := hv
      clear H
      have hw : ¬ x < t ∧ ¬ t < y ∧ (y = 0 ∧ t = x ∨ ¬ y = 0 ∧ x = 0 ∧ t = y ∨ ¬ y = 0 ∧ ¬ x = 0) := by have := HB.out; have := HT.out; omega
      obtain ⟨h1, h2, h3⟩ := hw
      rcases h3 with ⟨rfl, rfl⟩ | ⟨h3, rfl, rfl⟩ | ⟨h3, h4⟩
      all_goals
        go_wp2_with fail
      all_goals
        clear h1 h2 hk hlt
        go_loopw [8, 66] (fun v i wr => ∃ k : Nat, ∃ A' : Option Addr, ∃ c' : Nat, k ≤ n ∧ i = .int .i64 k ∧ v = .slice A' k c' ∧ Hid (Mine wr w.heap.size A' k c' ((xs.take k).map (- ·)) ∧ Below w.heap.size w wr)) (fun _ i _ => n - (intOf i).toNat)
        case atStart => exact ⟨0, none, 0, Nat.zero_le _, rfl, rfl, Lib.hid ⟨World.ownsRow_nil _ _ _ _, b4.out⟩⟩
        case round =>
          obtain ⟨k, A', c', hk, rfl, rfl, H⟩ := hrel
          by_cases hlt : k < n
          · obtain ⟨ad, hA, _, hcx⟩ := (HX.out.below H.out.2) k (by rw [← HN.out]; exact hlt)
            subst hA
            obtain ⟨hm1, hm2⟩ := inB_at HS.out k (by rw [← HN.out]; exact hlt)
            have HT2 := Lib.hid (take_neg xs k (by rw [← HN.out]; exact hlt))
            generalize xs.getD k 0 = m at hcx hm1 hm2 HT2
            have hsz := H.out.2.size
            go_wp2_with (first
              | (at_builtin; refine wpList_append_mine _ rfl (.tmp 70) (.tmp 73) rfl w.heap.size A' k c' ((xs.take k).map (- ·)) rfl (H.out.1.alloc _) (some ⟨wr.heap.size, 0, none⟩) 1 1 [-m] rfl (one_src _ _) (by omega) (by simp; omega) ?_; intro A1 c1 W2 h1))
            have hb2 := h1.below (H.out.1.alloc _) (H.out.2.alloc hsz _) (Nat.le_refl _) (by simp; omega)
            go_roundw
            case rel => exact ⟨k + 1, A1, c1, by omega, by go_num, rfl, Lib.hid ⟨by rw [HT2.out]; exact h1.1, hb2⟩⟩
            case measure => simp [intOf]; omega
          · obtain rfl : k = n := by omega
            have ht : xs.take k = xs := List.take_of_length_le (by rw [← HN.out]; omega)
            have hm := H.out.1
            rw [ht] at hm
            have HM := Lib.hid hm
            clear hm ht hlt hk
            go_wp2_with fail
            refine (of_any _ _ _ _ _ HM.out.len.symm (by omega) HM.out.nums).mono ?_; rintro e w5 ⟨rfl, b5⟩
            rw [most_neg, least_neg, HP.out, HQ.out]
            replace b5 := Lib.hid (thru H.out.2 b5)
            go_wp2_with fail
            refine (sum_any _ _ (by have := HB.out; omega) (by have := HB.out; omega) _).mono ?_; rintro e w6 ⟨rfl, b6⟩
            replace b6 := Lib.hid (thru b5.out b6)
            have hB := HB.out
            have hT := HT.out
            go_wp2_with fail
            go_ret
            exact ⟨by first | (simp; done) | (simp; omega), b6.out⟩

set_option maxRecDepth 100000 in
set_option maxHeartbeats 400000 in
theorem bounds_no (A : Option Addr) (n c : Nat) (xs : List Int) (w : World) (hn : n = xs.length) (h60 : n ≤ 60) (hx : Nums w w.heap.size A xs) (hs : xs.all inB = false) :
    Calls Try.prog 6 #[.slice A n c] w fun e w' => e = .returned (.bool true) ∧ Below w.heap.size w w' := by
  have HX := Lib.hid hx
  have HN := Lib.hid hn
  have HS := Lib.hid hs
  clear hx hn hs
  go_enter Try.func6, Try.ntmps6
  go_wp2_with fail
  refine (speaks_any _).mono ?_; rintro e w1 ⟨rfl, b1⟩
  go_wp2_with fail
  refine (small_is _ _ _ xs _ HN.out (by omega) _ (HX.out.thru b1) _ HS.out).mono ?_; rintro e w2 ⟨rfl, rfl⟩
  go_wp2_with fail
  refine (speaks_any _).mono ?_; rintro e w3 ⟨rfl, b3⟩
  go_wp2_with fail
  go_ret
  exact ⟨rfl, thru b1 b3⟩

set_option maxRecDepth 100000 in
set_option maxHeartbeats 400000 in
theorem bounds_long (A : Option Addr) (n c : Nat) (w : World) (h60 : ¬ n ≤ 60) :
    Calls Try.prog 6 #[.slice A n c] w fun e w' => e = .returned (.bool true) ∧ Below w.heap.size w w' := by
  go_enter Try.func6, Try.ntmps6
  go_wp2_with fail
  refine (speaks_any _).mono ?_; rintro e w1 ⟨rfl, b1⟩
  go_wp2_with fail
  refine (speaks_any _).mono ?_; rintro e w3 ⟨rfl, b3⟩
  go_wp2_with fail
  go_ret
  exact ⟨rfl, thru b1 b3⟩

theorem bounds_any (A : Option Addr) (n c : Nat) (xs : List Int) (w : World) (hn : n = xs.length) (hx : Nums w w.heap.size A xs) :
    Calls Try.prog 6 #[.slice A n c] w fun e w' => e = .returned (.bool true) ∧ Below w.heap.size w w' := by
  by_cases h60 : n ≤ 60
  · cases h : xs.all inB with
    | false => exact bounds_no A n c xs w hn h60 hx h
    | true => exact bounds_yes A n c xs w hn h60 hx h
  · exact bounds_long A n c w h60

end Go.Proofs.Ytfiagopmolegjaa
