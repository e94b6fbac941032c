/- The walk of StrutOne. -/
import Derived.Test.YtfiagopmolegjaaJoin
import Derived.Test.YtfiagopmolegjaaTold
import Derived.Deep.DeepCutAuto
namespace Go.Proofs.Ytfiagopmolegjaa
open Go.RowKit Go.Sort

theorem sum_told {p q v : Int} (h : p + q = v ∧ (-1152921504606846976 ≤ p ∧ p ≤ 1152921504606846976) ∧ (-1152921504606846976 ≤ q ∧ q ≤ 1152921504606846976)) (w : World) :
    Calls Try.prog 13 #[.agg #[.int .i64 p, .int .i64 q]] w fun e w' => e = .returned (.int .i64 v) ∧ Below w.heap.size w w' := by
  obtain ⟨rfl, h1, h2⟩ := h
  exact sum_any p q h1 h2 w

theorem row1 {w : World} {g : Nat} {a : Int} {T : TypeId} (h : w.heap[g]? = some (.cells #[.int .i64 a] T)) : Nums w w.heap.size (some ⟨g, 0, none⟩) [a] := fun k hk => by
  simp only [List.length_cons, List.length_nil] at hk
  obtain rfl : k = 0 := by omega
  exact ⟨_, rfl, lt_of_block h, by simp [World.cell?, Addr.add, h]⟩
theorem row2 {w : World} {g : Nat} {a b : Int} {T : TypeId} (h : w.heap[g]? = some (.cells #[.int .i64 a, .int .i64 b] T)) : Nums w w.heap.size (some ⟨g, 0, none⟩) [a, b] := fun k hk => by
  refine ⟨_, rfl, lt_of_block h, ?_⟩
  match k, hk with
  | 0, _ => simp [World.cell?, Addr.add, h]
  | 1, _ => simp [World.cell?, Addr.add, h]
  | k + 2, h => (simp only [List.length_cons, List.length_nil] at h; omega)

theorem one_fact1 (a : Int) : max 0 a + min 0 a = a := by omega
theorem one_fact2 (a b : Int) : max (max 0 a) b = max (max 0 b) a := by omega
theorem one_fact3 (a b : Int) : min (min 0 a) b = min (min 0 b) a := by omega
theorem one_fact4 (a b : Int) : max (max 0 a) (max 0 b) = max (max 0 b) a := by omega
theorem one_fact5 (a b : Int) : min (min 0 a) (min 0 b) = min (min 0 b) a := by omega

set_option maxRecDepth 100000 in
set_option maxHeartbeats 400000 in
theorem one_no (a b : Int) (w : World) (h : [a, b].all inB = false) :
    Calls Try.prog 7 #[.int .i64 a, .int .i64 b] w fun e w' => e = .returned (.bool true) ∧ Below w.heap.size w w' := by
  have H := Lib.hid h
  clear h
  go_enter Try.func7, Try.ntmps7
  go_wp2_with fail
  refine (speaks_any _).mono ?_; rintro e w1 ⟨rfl, b1⟩
  go_wp2_with fail
  refine (small_is _ 2 2 [a, b] _ rfl (by omega) _ (nums2 w1 a b) _ H.out).mono ?_; rintro e w2 ⟨rfl, rfl⟩
  go_wp2_with fail
  refine (speaks_any _).mono ?_; rintro e w3 ⟨rfl, b3⟩
  go_wp2_with fail
  go_ret
  exact ⟨rfl, thru b1 (thru (ba1 _ _) b3)⟩

set_option maxRecDepth 100000 in
set_option maxHeartbeats 1000000 in
theorem one_yes_a (a b : Int) (w : World) (h : [a, b].all inB = true) (h1 : 0 ≤ a) (h2 : 0 ≤ b) (h3 : a < b) :
    Calls Try.prog 7 #[.int .i64 a, .int .i64 b] w fun e w' => e = .returned (.bool true) ∧ Below w.heap.size w w' := by
  have hab := h
  simp [inB] at hab
  obtain ⟨p, hp⟩ : ∃ p, mostOf [a] = p := ⟨_, rfl⟩
  obtain ⟨q, hq⟩ : ∃ q, leastOf [a] = q := ⟨_, rfl⟩
  obtain ⟨r, hr⟩ : ∃ p, mostOf [b] = p := ⟨_, rfl⟩
  obtain ⟨s, hs⟩ : ∃ q, leastOf [b] = q := ⟨_, rfl⟩
  obtain ⟨p2, hp2⟩ : ∃ p, mostOf [b, a] = p := ⟨_, rfl⟩
  obtain ⟨q2, hq2⟩ : ∃ q, leastOf [b, a] = q := ⟨_, rfl⟩
  have HOA := Lib.hid (And.intro hp hq)
  have FB := Lib.hid (And.intro hr hs)
  have FBA := Lib.hid (And.intro hp2 hq2)
  have FN : Hid (mostOf [] = 0 ∧ leastOf [] = 0) := Lib.hid ⟨rfl, rfl⟩
  change max 0 a = p at hp
  change min 0 a = q at hq
  change max 0 b = r at hr
  change min 0 b = s at hs
  change max (max 0 b) a = p2 at hp2
  change min (min 0 b) a = q2 at hq2
  have FA := Lib.hid (show p + q = a ∧ (-1152921504606846976 ≤ p ∧ p ≤ 1152921504606846976) ∧ (-1152921504606846976 ≤ q ∧ q ≤ 1152921504606846976) by subst hp hq; exact ⟨one_fact1 a, by omega, by omega⟩)
  have FS := Lib.hid (show p2 + q2 = b ∧ (-1152921504606846976 ≤ p2 ∧ p2 ≤ 1152921504606846976) ∧ (-1152921504606846976 ≤ q2 ∧ q2 ≤ 1152921504606846976) by clear hp hq hr hs HOA FB FBA FN FA; omega)
  have FW := Lib.hid (show max p b = p2 ∧ min q b = q2 by subst hp hq hp2 hq2; exact ⟨one_fact2 a b, one_fact3 a b⟩)
  have FJ := Lib.hid (show max p r = p2 ∧ min q s = q2 by subst hp hq hp2 hq2 hr hs; exact ⟨one_fact4 a b, one_fact5 a b⟩)
  obtain ⟨⟨ha1, ha2⟩, hb1, hb2⟩ := hab
  clear hp hq hr hs hp2 hq2
  have H := Lib.hid h
  clear h
  go_enter Try.func7, Try.ntmps7
  go_wp2_with fail
  refine (speaks_any _).mono ?_; rintro e w1 ⟨rfl, b1⟩
  go_wp2_with fail
  refine (small_is _ 2 2 [a, b] _ rfl (by omega) _ (nums2 w1 a b) _ H.out).mono ?_; rintro e w2 ⟨rfl, rfl⟩
  generalize hV : World.alloc w1 _ = V
  have bV : Below w.heap.size w V := by rw [← hV]; exact thru b1 (ba1 _ _)
  clear hV b1
  go_wp2_with fail
  refine (of_is HOA.out rfl (by simp) (nums1 V a)).mono ?_; rintro e w3 ⟨rfl, b3⟩
  go_upto_region 9 with fail
  generalize hW : World.alloc w3 _ = W
  have S3 : Hid (R2 W w3.heap.size p q) := Lib.hid (by rw [← hW]; constructor <;> simp [go_sem])
  have B3 : Hid (Below w.heap.size w W) := Lib.hid (by rw [← hW]; exact thru (thru (thru bV (ba1 _ _)) b3) (ba1 _ _))
  clear hW bV b3
  refine Told.wp_region_told [.val (.agg #[.int .i64 p, .int .i64 q]), .val (.int .i64 a), .val (.int .i64 a), .val (.bool true), .val (.bool true), .val (.agg #[.int .i64 p, .int .i64 q]), .val (.int .i64 b), .val (.agg #[.int .i64 p2, .int .i64 q2]), .val (.int .i64 b), .val (.int .i64 b), .val (.bool true), .val (.bool true), .val (.bool true), .val (.agg #[.int .i64 p, .int .i64 q]), .val (.int .i64 b), .row (.cells #[.int .i64 b] 3) 1 1, .val (.agg #[.int .i64 r, .int .i64 s]), .val (.agg #[.int .i64 p2, .int .i64 q2]), .val (.int .i64 b), .val (.int .i64 a), .row (.cells #[.int .i64 b, .int .i64 a] 3) 2 2, .val (.agg #[.int .i64 p2, .int .i64 q2]), .val (.bool true), .val (.bool true), .val (.bool true), .val (.agg #[.int .i64 0, .int .i64 0]), .val (.agg #[.int .i64 0, .int .i64 0]), .val (.bool true), .val (.bool true)] (by kernel_rfl) (by kernel_rfl) (by kernel_rfl) ?_ ?_
  · simp only [Told.fill, Told.Leave.value]
    refine ⟨?_, ?_, ?_, ?_, ?_, ?_, ?_, ?_, ?_, ?_, ?_, ?_, ?_, ?_, ?_, ?_, ?_, ?_, ?_, ?_, ?_, ?_, ?_, ?_, ?_, ?_, ?_, ?_, ?_, trivial⟩
    · intro g w' hw hk
      have hh := S3.out.below hw
      have hh0 := hh.1
      have hh1 := hh.2
      clear hh
      go_simp
      exact ⟨rfl, rfl⟩
    · intro g w' hw hk
      go_simp
      exact Told.stays_call (sum_told FA.out _)
    · intro g w' hw hk
      go_simp
      exact ⟨rfl, rfl⟩
    · intro g w' hw hk
      go_simp
      exact ⟨rfl, rfl⟩
    · intro g w' hw hk
      go_simp
      exact ⟨rfl, rfl⟩
    · intro g w' hw hk
      have hh := S3.out.below hw
      have hh0 := hh.1
      have hh1 := hh.2
      clear hh
      go_simp
      exact ⟨rfl, rfl⟩
    · intro g w' hw hk
      go_simp
      exact ⟨rfl, rfl⟩
    · intro g w' hw hk
      go_simp
      exact Told.stays_call (with_is FW.out _)
    · intro g w' hw hk
      go_simp
      exact Told.stays_call (sum_told FS.out _)
    · intro g w' hw hk
      go_simp
      exact ⟨rfl, rfl⟩
    · intro g w' hw hk
      go_simp
      exact ⟨rfl, rfl⟩
    · intro g w' hw hk
      go_simp
      exact ⟨rfl, rfl⟩
    · intro g w' hw hk
      go_simp
      exact ⟨rfl, rfl⟩
    · intro g w' hw hk
      have hh := S3.out.below hw
      have hh0 := hh.1
      have hh1 := hh.2
      clear hh
      go_simp
      exact ⟨rfl, rfl⟩
    · intro g w' hw hk
      go_simp
      exact ⟨rfl, rfl⟩
    · intro g w' hw hk
      go_simp
    · intro g w' hw hk
      have hr := row1 (hk ⟨15, .data⟩ (by simp) rfl _ _ rfl rfl).2
      go_simp
      exact Told.stays_call (of_is FB.out rfl (by simp) hr)
    · intro g w' hw hk
      go_simp
      exact Told.stays_call (join_is FJ.out _)
    · intro g w' hw hk
      go_simp
      exact ⟨rfl, rfl⟩
    · intro g w' hw hk
      go_simp
      exact ⟨rfl, rfl⟩
    · intro g w' hw hk
      go_simp
    · intro g w' hw hk
      have hr := row2 (hk ⟨20, .data⟩ (by simp) rfl _ _ rfl rfl).2
      go_simp
      exact Told.stays_call (of_is FBA.out rfl (by simp) hr)
    · intro g w' hw hk
      go_simp
      exact ⟨rfl, rfl⟩
    · intro g w' hw hk
      go_simp
      exact ⟨rfl, rfl⟩
    · intro g w' hw hk
      go_simp
      exact ⟨rfl, rfl⟩
    · intro g w' hw hk
      go_simp
      exact Told.stays_call (of_is FN.out rfl (by simp) (nums0 _ _ _))
    · intro g w' hw hk
      go_simp
      exact ⟨rfl, rfl⟩
    · intro g w' hw hk
      go_simp
      exact ⟨rfl, rfl⟩
    · intro g w' hw hk
      go_simp
      exact ⟨rfl, rfl⟩
  · intro g w4 k4 hbox hap
    clear hbox hap
    simp only [Told.fill, Told.Leave.value, List.length_cons, List.length_nil, List.drop_succ_cons, List.drop_zero]
    go_wp2_with fail
    go_ret
    exact ⟨rfl, thru B3.out k4⟩

set_option maxRecDepth 100000 in
set_option maxHeartbeats 1000000 in
theorem one_yes_b (a b : Int) (w : World) (h : [a, b].all inB = true) (h1 : 0 ≤ a) (h2 : 0 ≤ b) (h3 : ¬ a < b) :
    Calls Try.prog 7 #[.int .i64 a, .int .i64 b] w fun e w' => e = .returned (.bool true) ∧ Below w.heap.size w w' := by
  have hab := h
  simp [inB] at hab
  obtain ⟨p, hp⟩ : ∃ p, mostOf [a] = p := ⟨_, rfl⟩
  obtain ⟨q, hq⟩ : ∃ q, leastOf [a] = q := ⟨_, rfl⟩
  obtain ⟨r, hr⟩ : ∃ p, mostOf [b] = p := ⟨_, rfl⟩
  obtain ⟨s, hs⟩ : ∃ q, leastOf [b] = q := ⟨_, rfl⟩
  obtain ⟨p2, hp2⟩ : ∃ p, mostOf [b, a] = p := ⟨_, rfl⟩
  obtain ⟨q2, hq2⟩ : ∃ q, leastOf [b, a] = q := ⟨_, rfl⟩
  have HOA := Lib.hid (And.intro hp hq)
  have FB := Lib.hid (And.intro hr hs)
  have FBA := Lib.hid (And.intro hp2 hq2)
  have FN : Hid (mostOf [] = 0 ∧ leastOf [] = 0) := Lib.hid ⟨rfl, rfl⟩
  change max 0 a = p at hp
  change min 0 a = q at hq
  change max 0 b = r at hr
  change min 0 b = s at hs
  change max (max 0 b) a = p2 at hp2
  change min (min 0 b) a = q2 at hq2
  have FA := Lib.hid (show p + q = a ∧ (-1152921504606846976 ≤ p ∧ p ≤ 1152921504606846976) ∧ (-1152921504606846976 ≤ q ∧ q ≤ 1152921504606846976) by subst hp hq; exact ⟨one_fact1 a, by omega, by omega⟩)
  have FS := Lib.hid (show p2 + q2 = a ∧ (-1152921504606846976 ≤ p2 ∧ p2 ≤ 1152921504606846976) ∧ (-1152921504606846976 ≤ q2 ∧ q2 ≤ 1152921504606846976) by clear hp hq hr hs HOA FB FBA FN FA; omega)
  have FW := Lib.hid (show max p b = p2 ∧ min q b = q2 by subst hp hq hp2 hq2; exact ⟨one_fact2 a b, one_fact3 a b⟩)
  have FJ := Lib.hid (show max p r = p2 ∧ min q s = q2 by subst hp hq hp2 hq2 hr hs; exact ⟨one_fact4 a b, one_fact5 a b⟩)
  obtain ⟨⟨ha1, ha2⟩, hb1, hb2⟩ := hab
  clear hp hq hr hs hp2 hq2
  have H := Lib.hid h
  clear h
  go_enter Try.func7, Try.ntmps7
  go_wp2_with fail
  refine (speaks_any _).mono ?_; rintro e w1 ⟨rfl, b1⟩
  go_wp2_with fail
  refine (small_is _ 2 2 [a, b] _ rfl (by omega) _ (nums2 w1 a b) _ H.out).mono ?_; rintro e w2 ⟨rfl, rfl⟩
  generalize hV : World.alloc w1 _ = V
  have bV : Below w.heap.size w V := by rw [← hV]; exact thru b1 (ba1 _ _)
  clear hV b1
  go_wp2_with fail
  refine (of_is HOA.out rfl (by simp) (nums1 V a)).mono ?_; rintro e w3 ⟨rfl, b3⟩
  go_upto_region 9 with fail
  generalize hW : World.alloc w3 _ = W
  have S3 : Hid (R2 W w3.heap.size p q) := Lib.hid (by rw [← hW]; constructor <;> simp [go_sem])
  have B3 : Hid (Below w.heap.size w W) := Lib.hid (by rw [← hW]; exact thru (thru (thru bV (ba1 _ _)) b3) (ba1 _ _))
  clear hW bV b3
  refine Told.wp_region_told [.val (.agg #[.int .i64 p, .int .i64 q]), .val (.int .i64 a), .val (.int .i64 a), .val (.bool true), .val (.bool true), .val (.agg #[.int .i64 p, .int .i64 q]), .val (.int .i64 b), .val (.agg #[.int .i64 p2, .int .i64 q2]), .val (.int .i64 a), .val (.int .i64 a), .val (.bool true), .val (.bool true), .val (.bool true), .val (.agg #[.int .i64 p, .int .i64 q]), .val (.int .i64 b), .row (.cells #[.int .i64 b] 3) 1 1, .val (.agg #[.int .i64 r, .int .i64 s]), .val (.agg #[.int .i64 p2, .int .i64 q2]), .val (.int .i64 b), .val (.int .i64 a), .row (.cells #[.int .i64 b, .int .i64 a] 3) 2 2, .val (.agg #[.int .i64 p2, .int .i64 q2]), .val (.bool true), .val (.bool true), .val (.bool true), .val (.agg #[.int .i64 0, .int .i64 0]), .val (.agg #[.int .i64 0, .int .i64 0]), .val (.bool true), .val (.bool true)] (by kernel_rfl) (by kernel_rfl) (by kernel_rfl) ?_ ?_
  · simp only [Told.fill, Told.Leave.value]
    refine ⟨?_, ?_, ?_, ?_, ?_, ?_, ?_, ?_, ?_, ?_, ?_, ?_, ?_, ?_, ?_, ?_, ?_, ?_, ?_, ?_, ?_, ?_, ?_, ?_, ?_, ?_, ?_, ?_, ?_, trivial⟩
    · intro g w' hw hk
      have hh := S3.out.below hw
      have hh0 := hh.1
      have hh1 := hh.2
      clear hh
      go_simp
      exact ⟨rfl, rfl⟩
    · intro g w' hw hk
      go_simp
      exact Told.stays_call (sum_told FA.out _)
    · intro g w' hw hk
      go_simp
      exact ⟨rfl, rfl⟩
    · intro g w' hw hk
      go_simp
      exact ⟨rfl, rfl⟩
    · intro g w' hw hk
      go_simp
      exact ⟨rfl, rfl⟩
    · intro g w' hw hk
      have hh := S3.out.below hw
      have hh0 := hh.1
      have hh1 := hh.2
      clear hh
      go_simp
      exact ⟨rfl, rfl⟩
    · intro g w' hw hk
      go_simp
      exact ⟨rfl, rfl⟩
    · intro g w' hw hk
      go_simp
      exact Told.stays_call (with_is FW.out _)
    · intro g w' hw hk
      go_simp
      exact Told.stays_call (sum_told FS.out _)
    · intro g w' hw hk
      go_simp
      exact ⟨rfl, rfl⟩
    · intro g w' hw hk
      go_simp
      exact ⟨rfl, rfl⟩
    · intro g w' hw hk
      go_simp
      exact ⟨rfl, rfl⟩
    · intro g w' hw hk
      go_simp
      exact ⟨rfl, rfl⟩
    · intro g w' hw hk
      have hh := S3.out.below hw
      have hh0 := hh.1
      have hh1 := hh.2
      clear hh
      go_simp
      exact ⟨rfl, rfl⟩
    · intro g w' hw hk
      go_simp
      exact ⟨rfl, rfl⟩
    · intro g w' hw hk
      go_simp
    · intro g w' hw hk
      have hr := row1 (hk ⟨15, .data⟩ (by simp) rfl _ _ rfl rfl).2
      go_simp
      exact Told.stays_call (of_is FB.out rfl (by simp) hr)
    · intro g w' hw hk
      go_simp
      exact Told.stays_call (join_is FJ.out _)
    · intro g w' hw hk
      go_simp
      exact ⟨rfl, rfl⟩
    · intro g w' hw hk
      go_simp
      exact ⟨rfl, rfl⟩
    · intro g w' hw hk
      go_simp
    · intro g w' hw hk
      have hr := row2 (hk ⟨20, .data⟩ (by simp) rfl _ _ rfl rfl).2
      go_simp
      exact Told.stays_call (of_is FBA.out rfl (by simp) hr)
    · intro g w' hw hk
      go_simp
      exact ⟨rfl, rfl⟩
    · intro g w' hw hk
      go_simp
      exact ⟨rfl, rfl⟩
    · intro g w' hw hk
      go_simp
      exact ⟨rfl, rfl⟩
    · intro g w' hw hk
      go_simp
      exact Told.stays_call (of_is FN.out rfl (by simp) (nums0 _ _ _))
    · intro g w' hw hk
      go_simp
      exact ⟨rfl, rfl⟩
    · intro g w' hw hk
      go_simp
      exact ⟨rfl, rfl⟩
    · intro g w' hw hk
      go_simp
      exact ⟨rfl, rfl⟩
  · intro g w4 k4 hbox hap
    clear hbox hap
    simp only [Told.fill, Told.Leave.value, List.length_cons, List.length_nil, List.drop_succ_cons, List.drop_zero]
    go_wp2_with fail
    go_ret
    exact ⟨rfl, thru B3.out k4⟩

set_option maxRecDepth 100000 in
set_option maxHeartbeats 1000000 in
theorem one_yes_c (a b : Int) (w : World) (h : [a, b].all inB = true) (h1 : a < 0) (h2 : b ≤ 0) (h3 : a ≤ b) :
    Calls Try.prog 7 #[.int .i64 a, .int .i64 b] w fun e w' => e = .returned (.bool true) ∧ Below w.heap.size w w' := by
  have hab := h
  simp [inB] at hab
  obtain ⟨p, hp⟩ : ∃ p, mostOf [a] = p := ⟨_, rfl⟩
  obtain ⟨q, hq⟩ : ∃ q, leastOf [a] = q := ⟨_, rfl⟩
  obtain ⟨r, hr⟩ : ∃ p, mostOf [b] = p := ⟨_, rfl⟩
  obtain ⟨s, hs⟩ : ∃ q, leastOf [b] = q := ⟨_, rfl⟩
  obtain ⟨p2, hp2⟩ : ∃ p, mostOf [b, a] = p := ⟨_, rfl⟩
  obtain ⟨q2, hq2⟩ : ∃ q, leastOf [b, a] = q := ⟨_, rfl⟩
  have HOA := Lib.hid (And.intro hp hq)
  have FB := Lib.hid (And.intro hr hs)
  have FBA := Lib.hid (And.intro hp2 hq2)
  have FN : Hid (mostOf [] = 0 ∧ leastOf [] = 0) := Lib.hid ⟨rfl, rfl⟩
  change max 0 a = p at hp
  change min 0 a = q at hq
  change max 0 b = r at hr
  change min 0 b = s at hs
  change max (max 0 b) a = p2 at hp2
  change min (min 0 b) a = q2 at hq2
  have FA := Lib.hid (show p + q = a ∧ (-1152921504606846976 ≤ p ∧ p ≤ 1152921504606846976) ∧ (-1152921504606846976 ≤ q ∧ q ≤ 1152921504606846976) by subst hp hq; exact ⟨one_fact1 a, by omega, by omega⟩)
  have FS := Lib.hid (show p2 + q2 = a ∧ (-1152921504606846976 ≤ p2 ∧ p2 ≤ 1152921504606846976) ∧ (-1152921504606846976 ≤ q2 ∧ q2 ≤ 1152921504606846976) by clear hp hq hr hs HOA FB FBA FN FA; omega)
  have FW := Lib.hid (show max p b = p2 ∧ min q b = q2 by subst hp hq hp2 hq2; exact ⟨one_fact2 a b, one_fact3 a b⟩)
  have FJ := Lib.hid (show max p r = p2 ∧ min q s = q2 by subst hp hq hp2 hq2 hr hs; exact ⟨one_fact4 a b, one_fact5 a b⟩)
  obtain ⟨⟨ha1, ha2⟩, hb1, hb2⟩ := hab
  clear hp hq hr hs hp2 hq2
  have H := Lib.hid h
  clear h
  go_enter Try.func7, Try.ntmps7
  go_wp2_with fail
  refine (speaks_any _).mono ?_; rintro e w1 ⟨rfl, b1⟩
  go_wp2_with fail
  refine (small_is _ 2 2 [a, b] _ rfl (by omega) _ (nums2 w1 a b) _ H.out).mono ?_; rintro e w2 ⟨rfl, rfl⟩
  generalize hV : World.alloc w1 _ = V
  have bV : Below w.heap.size w V := by rw [← hV]; exact thru b1 (ba1 _ _)
  clear hV b1
  go_wp2_with fail
  refine (of_is HOA.out rfl (by simp) (nums1 V a)).mono ?_; rintro e w3 ⟨rfl, b3⟩
  go_upto_region 9 with fail
  generalize hW : World.alloc w3 _ = W
  have S3 : Hid (R2 W w3.heap.size p q) := Lib.hid (by rw [← hW]; constructor <;> simp [go_sem])
  have B3 : Hid (Below w.heap.size w W) := Lib.hid (by rw [← hW]; exact thru (thru (thru bV (ba1 _ _)) b3) (ba1 _ _))
  clear hW bV b3
  refine Told.wp_region_told [.val (.agg #[.int .i64 p, .int .i64 q]), .val (.int .i64 a), .val (.int .i64 a), .val (.bool true), .val (.bool true), .val (.agg #[.int .i64 p, .int .i64 q]), .val (.int .i64 b), .val (.agg #[.int .i64 p2, .int .i64 q2]), .val (.int .i64 a), .val (.int .i64 a), .val (.bool true), .val (.bool true), .val (.bool true), .val (.agg #[.int .i64 p, .int .i64 q]), .val (.int .i64 b), .row (.cells #[.int .i64 b] 3) 1 1, .val (.agg #[.int .i64 r, .int .i64 s]), .val (.agg #[.int .i64 p2, .int .i64 q2]), .val (.int .i64 b), .val (.int .i64 a), .row (.cells #[.int .i64 b, .int .i64 a] 3) 2 2, .val (.agg #[.int .i64 p2, .int .i64 q2]), .val (.bool true), .val (.bool true), .val (.bool true), .val (.agg #[.int .i64 0, .int .i64 0]), .val (.agg #[.int .i64 0, .int .i64 0]), .val (.bool true), .val (.bool true)] (by kernel_rfl) (by kernel_rfl) (by kernel_rfl) ?_ ?_
  · simp only [Told.fill, Told.Leave.value]
    refine ⟨?_, ?_, ?_, ?_, ?_, ?_, ?_, ?_, ?_, ?_, ?_, ?_, ?_, ?_, ?_, ?_, ?_, ?_, ?_, ?_, ?_, ?_, ?_, ?_, ?_, ?_, ?_, ?_, ?_, trivial⟩
    · intro g w' hw hk
      have hh := S3.out.below hw
      have hh0 := hh.1
      have hh1 := hh.2
      clear hh
      go_simp
      exact ⟨rfl, rfl⟩
    · intro g w' hw hk
      go_simp
      exact Told.stays_call (sum_told FA.out _)
    · intro g w' hw hk
      go_simp
      exact ⟨rfl, rfl⟩
    · intro g w' hw hk
      go_simp
      exact ⟨rfl, rfl⟩
    · intro g w' hw hk
      go_simp
      exact ⟨rfl, rfl⟩
    · intro g w' hw hk
      have hh := S3.out.below hw
      have hh0 := hh.1
      have hh1 := hh.2
      clear hh
      go_simp
      exact ⟨rfl, rfl⟩
    · intro g w' hw hk
      go_simp
      exact ⟨rfl, rfl⟩
    · intro g w' hw hk
      go_simp
      exact Told.stays_call (with_is FW.out _)
    · intro g w' hw hk
      go_simp
      exact Told.stays_call (sum_told FS.out _)
    · intro g w' hw hk
      go_simp
      exact ⟨rfl, rfl⟩
    · intro g w' hw hk
      go_simp
      exact ⟨rfl, rfl⟩
    · intro g w' hw hk
      go_simp
      exact ⟨rfl, rfl⟩
    · intro g w' hw hk
      go_simp
      exact ⟨rfl, rfl⟩
    · intro g w' hw hk
      have hh := S3.out.below hw
      have hh0 := hh.1
      have hh1 := hh.2
      clear hh
      go_simp
      exact ⟨rfl, rfl⟩
    · intro g w' hw hk
      go_simp
      exact ⟨rfl, rfl⟩
    · intro g w' hw hk
      go_simp
    · intro g w' hw hk
      have hr := row1 (hk ⟨15, .data⟩ (by simp) rfl _ _ rfl rfl).2
      go_simp
      exact Told.stays_call (of_is FB.out rfl (by simp) hr)
    · intro g w' hw hk
      go_simp
      exact Told.stays_call (join_is FJ.out _)
    · intro g w' hw hk
      go_simp
      exact ⟨rfl, rfl⟩
    · intro g w' hw hk
      go_simp
      exact ⟨rfl, rfl⟩
    · intro g w' hw hk
      go_simp
    · intro g w' hw hk
      have hr := row2 (hk ⟨20, .data⟩ (by simp) rfl _ _ rfl rfl).2
      go_simp
      exact Told.stays_call (of_is FBA.out rfl (by simp) hr)
    · intro g w' hw hk
      go_simp
      exact ⟨rfl, rfl⟩
    · intro g w' hw hk
      go_simp
      exact ⟨rfl, rfl⟩
    · intro g w' hw hk
      go_simp
      exact ⟨rfl, rfl⟩
    · intro g w' hw hk
      go_simp
      exact Told.stays_call (of_is FN.out rfl (by simp) (nums0 _ _ _))
    · intro g w' hw hk
      go_simp
      exact ⟨rfl, rfl⟩
    · intro g w' hw hk
      go_simp
      exact ⟨rfl, rfl⟩
    · intro g w' hw hk
      go_simp
      exact ⟨rfl, rfl⟩
  · intro g w4 k4 hbox hap
    clear hbox hap
    simp only [Told.fill, Told.Leave.value, List.length_cons, List.length_nil, List.drop_succ_cons, List.drop_zero]
    go_wp2_with fail
    go_ret
    exact ⟨rfl, thru B3.out k4⟩

set_option maxRecDepth 100000 in
set_option maxHeartbeats 1000000 in
theorem one_yes_d (a b : Int) (w : World) (h : [a, b].all inB = true) (h1 : a < 0) (h2 : b < 0) (h3 : b < a) :
    Calls Try.prog 7 #[.int .i64 a, .int .i64 b] w fun e w' => e = .returned (.bool true) ∧ Below w.heap.size w w' := by
  have hab := h
  simp [inB] at hab
  obtain ⟨p, hp⟩ : ∃ p, mostOf [a] = p := ⟨_, rfl⟩
  obtain ⟨q, hq⟩ : ∃ q, leastOf [a] = q := ⟨_, rfl⟩
  obtain ⟨r, hr⟩ : ∃ p, mostOf [b] = p := ⟨_, rfl⟩
  obtain ⟨s, hs⟩ : ∃ q, leastOf [b] = q := ⟨_, rfl⟩
  obtain ⟨p2, hp2⟩ : ∃ p, mostOf [b, a] = p := ⟨_, rfl⟩
  obtain ⟨q2, hq2⟩ : ∃ q, leastOf [b, a] = q := ⟨_, rfl⟩
  have HOA := Lib.hid (And.intro hp hq)
  have FB := Lib.hid (And.intro hr hs)
  have FBA := Lib.hid (And.intro hp2 hq2)
  have FN : Hid (mostOf [] = 0 ∧ leastOf [] = 0) := Lib.hid ⟨rfl, rfl⟩
  change max 0 a = p at hp
  change min 0 a = q at hq
  change max 0 b = r at hr
  change min 0 b = s at hs
  change max (max 0 b) a = p2 at hp2
  change min (min 0 b) a = q2 at hq2
  have FA := Lib.hid (show p + q = a ∧ (-1152921504606846976 ≤ p ∧ p ≤ 1152921504606846976) ∧ (-1152921504606846976 ≤ q ∧ q ≤ 1152921504606846976) by subst hp hq; exact ⟨one_fact1 a, by omega, by omega⟩)
  have FS := Lib.hid (show p2 + q2 = b ∧ (-1152921504606846976 ≤ p2 ∧ p2 ≤ 1152921504606846976) ∧ (-1152921504606846976 ≤ q2 ∧ q2 ≤ 1152921504606846976) by clear hp hq hr hs HOA FB FBA FN FA; omega)
  have FW := Lib.hid (show max p b = p2 ∧ min q b = q2 by subst hp hq hp2 hq2; exact ⟨one_fact2 a b, one_fact3 a b⟩)
  have FJ := Lib.hid (show max p r = p2 ∧ min q s = q2 by subst hp hq hp2 hq2 hr hs; exact ⟨one_fact4 a b, one_fact5 a b⟩)
  obtain ⟨⟨ha1, ha2⟩, hb1, hb2⟩ := hab
  clear hp hq hr hs hp2 hq2
  have H := Lib.hid h
  clear h
  go_enter Try.func7, Try.ntmps7
  go_wp2_with fail
  refine (speaks_any _).mono ?_; rintro e w1 ⟨rfl, b1⟩
  go_wp2_with fail
  refine (small_is _ 2 2 [a, b] _ rfl (by omega) _ (nums2 w1 a b) _ H.out).mono ?_; rintro e w2 ⟨rfl, rfl⟩
  generalize hV : World.alloc w1 _ = V
  have bV : Below w.heap.size w V := by rw [← hV]; exact thru b1 (ba1 _ _)
  clear hV b1
  go_wp2_with fail
  refine (of_is HOA.out rfl (by simp) (nums1 V a)).mono ?_; rintro e w3 ⟨rfl, b3⟩
  go_upto_region 9 with fail
  generalize hW : World.alloc w3 _ = W
  have S3 : Hid (R2 W w3.heap.size p q) := Lib.hid (by rw [← hW]; constructor <;> simp [go_sem])
  have B3 : Hid (Below w.heap.size w W) := Lib.hid (by rw [← hW]; exact thru (thru (thru bV (ba1 _ _)) b3) (ba1 _ _))
  clear hW bV b3
  refine Told.wp_region_told [.val (.agg #[.int .i64 p, .int .i64 q]), .val (.int .i64 a), .val (.int .i64 a), .val (.bool true), .val (.bool true), .val (.agg #[.int .i64 p, .int .i64 q]), .val (.int .i64 b), .val (.agg #[.int .i64 p2, .int .i64 q2]), .val (.int .i64 b), .val (.int .i64 b), .val (.bool true), .val (.bool true), .val (.bool true), .val (.agg #[.int .i64 p, .int .i64 q]), .val (.int .i64 b), .row (.cells #[.int .i64 b] 3) 1 1, .val (.agg #[.int .i64 r, .int .i64 s]), .val (.agg #[.int .i64 p2, .int .i64 q2]), .val (.int .i64 b), .val (.int .i64 a), .row (.cells #[.int .i64 b, .int .i64 a] 3) 2 2, .val (.agg #[.int .i64 p2, .int .i64 q2]), .val (.bool true), .val (.bool true), .val (.bool true), .val (.agg #[.int .i64 0, .int .i64 0]), .val (.agg #[.int .i64 0, .int .i64 0]), .val (.bool true), .val (.bool true)] (by kernel_rfl) (by kernel_rfl) (by kernel_rfl) ?_ ?_
  · simp only [Told.fill, Told.Leave.value]
    refine ⟨?_, ?_, ?_, ?_, ?_, ?_, ?_, ?_, ?_, ?_, ?_, ?_, ?_, ?_, ?_, ?_, ?_, ?_, ?_, ?_, ?_, ?_, ?_, ?_, ?_, ?_, ?_, ?_, ?_, trivial⟩
    · intro g w' hw hk
      have hh := S3.out.below hw
      have hh0 := hh.1
      have hh1 := hh.2
      clear hh
      go_simp
      exact ⟨rfl, rfl⟩
    · intro g w' hw hk
      go_simp
      exact Told.stays_call (sum_told FA.out _)
    · intro g w' hw hk
      go_simp
      exact ⟨rfl, rfl⟩
    · intro g w' hw hk
      go_simp
      exact ⟨rfl, rfl⟩
    · intro g w' hw hk
      go_simp
      exact ⟨rfl, rfl⟩
    · intro g w' hw hk
      have hh := S3.out.below hw
      have hh0 := hh.1
      have hh1 := hh.2
      clear hh
      go_simp
      exact ⟨rfl, rfl⟩
    · intro g w' hw hk
      go_simp
      exact ⟨rfl, rfl⟩
    · intro g w' hw hk
      go_simp
      exact Told.stays_call (with_is FW.out _)
    · intro g w' hw hk
      go_simp
      exact Told.stays_call (sum_told FS.out _)
    · intro g w' hw hk
      go_simp
      exact ⟨rfl, rfl⟩
    · intro g w' hw hk
      go_simp
      exact ⟨rfl, rfl⟩
    · intro g w' hw hk
      go_simp
      exact ⟨rfl, rfl⟩
    · intro g w' hw hk
      go_simp
      exact ⟨rfl, rfl⟩
    · intro g w' hw hk
      have hh := S3.out.below hw
      have hh0 := hh.1
      have hh1 := hh.2
      clear hh
      go_simp
      exact ⟨rfl, rfl⟩
    · intro g w' hw hk
      go_simp
      exact ⟨rfl, rfl⟩
    · intro g w' hw hk
      go_simp
    · intro g w' hw hk
      have hr := row1 (hk ⟨15, .data⟩ (by simp) rfl _ _ rfl rfl).2
      go_simp
      exact Told.stays_call (of_is FB.out rfl (by simp) hr)
    · intro g w' hw hk
      go_simp
      exact Told.stays_call (join_is FJ.out _)
    · intro g w' hw hk
      go_simp
      exact ⟨rfl, rfl⟩
    · intro g w' hw hk
      go_simp
      exact ⟨rfl, rfl⟩
    · intro g w' hw hk
      go_simp
    · intro g w' hw hk
      have hr := row2 (hk ⟨20, .data⟩ (by simp) rfl _ _ rfl rfl).2
      go_simp
      exact Told.stays_call (of_is FBA.out rfl (by simp) hr)
    · intro g w' hw hk
      go_simp
      exact ⟨rfl, rfl⟩
    · intro g w' hw hk
      go_simp
      exact ⟨rfl, rfl⟩
    · intro g w' hw hk
      go_simp
      exact ⟨rfl, rfl⟩
    · intro g w' hw hk
      go_simp
      exact Told.stays_call (of_is FN.out rfl (by simp) (nums0 _ _ _))
    · intro g w' hw hk
      go_simp
      exact ⟨rfl, rfl⟩
    · intro g w' hw hk
      go_simp
      exact ⟨rfl, rfl⟩
    · intro g w' hw hk
      go_simp
      exact ⟨rfl, rfl⟩
  · intro g w4 k4 hbox hap
    clear hbox hap
    simp only [Told.fill, Told.Leave.value, List.length_cons, List.length_nil, List.drop_succ_cons, List.drop_zero]
    go_wp2_with fail
    go_ret
    exact ⟨rfl, thru B3.out k4⟩

set_option maxRecDepth 100000 in
set_option maxHeartbeats 1000000 in
theorem one_yes_e (a b : Int) (w : World) (h : [a, b].all inB = true) (h1 : 0 ≤ a) (h2 : b < 0) (h3 : a ≤ 0) :
    Calls Try.prog 7 #[.int .i64 a, .int .i64 b] w fun e w' => e = .returned (.bool true) ∧ Below w.heap.size w w' := by
  have hab := h
  simp [inB] at hab
  obtain ⟨p, hp⟩ : ∃ p, mostOf [a] = p := ⟨_, rfl⟩
  obtain ⟨q, hq⟩ : ∃ q, leastOf [a] = q := ⟨_, rfl⟩
  obtain ⟨r, hr⟩ : ∃ p, mostOf [b] = p := ⟨_, rfl⟩
  obtain ⟨s, hs⟩ : ∃ q, leastOf [b] = q := ⟨_, rfl⟩
  obtain ⟨p2, hp2⟩ : ∃ p, mostOf [b, a] = p := ⟨_, rfl⟩
  obtain ⟨q2, hq2⟩ : ∃ q, leastOf [b, a] = q := ⟨_, rfl⟩
  have HOA := Lib.hid (And.intro hp hq)
  have FB := Lib.hid (And.intro hr hs)
  have FBA := Lib.hid (And.intro hp2 hq2)
  have FN : Hid (mostOf [] = 0 ∧ leastOf [] = 0) := Lib.hid ⟨rfl, rfl⟩
  change max 0 a = p at hp
  change min 0 a = q at hq
  change max 0 b = r at hr
  change min 0 b = s at hs
  change max (max 0 b) a = p2 at hp2
  change min (min 0 b) a = q2 at hq2
  have FA := Lib.hid (show p + q = a ∧ (-1152921504606846976 ≤ p ∧ p ≤ 1152921504606846976) ∧ (-1152921504606846976 ≤ q ∧ q ≤ 1152921504606846976) by subst hp hq; exact ⟨one_fact1 a, by omega, by omega⟩)
  have FS := Lib.hid (show p2 + q2 = b ∧ (-1152921504606846976 ≤ p2 ∧ p2 ≤ 1152921504606846976) ∧ (-1152921504606846976 ≤ q2 ∧ q2 ≤ 1152921504606846976) by clear hp hq hr hs HOA FB FBA FN FA; omega)
  have FW := Lib.hid (show max p b = p2 ∧ min q b = q2 by subst hp hq hp2 hq2; exact ⟨one_fact2 a b, one_fact3 a b⟩)
  have FJ := Lib.hid (show max p r = p2 ∧ min q s = q2 by subst hp hq hp2 hq2 hr hs; exact ⟨one_fact4 a b, one_fact5 a b⟩)
  obtain ⟨⟨ha1, ha2⟩, hb1, hb2⟩ := hab
  clear hp hq hr hs hp2 hq2
  have H := Lib.hid h
  clear h
  go_enter Try.func7, Try.ntmps7
  go_wp2_with fail
  refine (speaks_any _).mono ?_; rintro e w1 ⟨rfl, b1⟩
  go_wp2_with fail
  refine (small_is _ 2 2 [a, b] _ rfl (by omega) _ (nums2 w1 a b) _ H.out).mono ?_; rintro e w2 ⟨rfl, rfl⟩
  generalize hV : World.alloc w1 _ = V
  have bV : Below w.heap.size w V := by rw [← hV]; exact thru b1 (ba1 _ _)
  clear hV b1
  go_wp2_with fail
  refine (of_is HOA.out rfl (by simp) (nums1 V a)).mono ?_; rintro e w3 ⟨rfl, b3⟩
  go_upto_region 9 with fail
  generalize hW : World.alloc w3 _ = W
  have S3 : Hid (R2 W w3.heap.size p q) := Lib.hid (by rw [← hW]; constructor <;> simp [go_sem])
  have B3 : Hid (Below w.heap.size w W) := Lib.hid (by rw [← hW]; exact thru (thru (thru bV (ba1 _ _)) b3) (ba1 _ _))
  clear hW bV b3
  refine Told.wp_region_told [.val (.agg #[.int .i64 p, .int .i64 q]), .val (.int .i64 a), .val (.int .i64 a), .val (.bool true), .val (.bool true), .val (.agg #[.int .i64 p, .int .i64 q]), .val (.int .i64 b), .val (.agg #[.int .i64 p2, .int .i64 q2]), .val (.int .i64 b), .val (.int .i64 b), .val (.bool true), .val (.bool true), .val (.bool true), .val (.agg #[.int .i64 p, .int .i64 q]), .val (.int .i64 b), .row (.cells #[.int .i64 b] 3) 1 1, .val (.agg #[.int .i64 r, .int .i64 s]), .val (.agg #[.int .i64 p2, .int .i64 q2]), .val (.int .i64 b), .val (.int .i64 a), .row (.cells #[.int .i64 b, .int .i64 a] 3) 2 2, .val (.agg #[.int .i64 p2, .int .i64 q2]), .val (.bool true), .val (.bool true), .val (.bool true), .val (.agg #[.int .i64 0, .int .i64 0]), .val (.agg #[.int .i64 0, .int .i64 0]), .val (.bool true), .val (.bool true)] (by kernel_rfl) (by kernel_rfl) (by kernel_rfl) ?_ ?_
  · simp only [Told.fill, Told.Leave.value]
    refine ⟨?_, ?_, ?_, ?_, ?_, ?_, ?_, ?_, ?_, ?_, ?_, ?_, ?_, ?_, ?_, ?_, ?_, ?_, ?_, ?_, ?_, ?_, ?_, ?_, ?_, ?_, ?_, ?_, ?_, trivial⟩
    · intro g w' hw hk
      have hh := S3.out.below hw
      have hh0 := hh.1
      have hh1 := hh.2
      clear hh
      go_simp
      exact ⟨rfl, rfl⟩
    · intro g w' hw hk
      go_simp
      exact Told.stays_call (sum_told FA.out _)
    · intro g w' hw hk
      go_simp
      exact ⟨rfl, rfl⟩
    · intro g w' hw hk
      go_simp
      exact ⟨rfl, rfl⟩
    · intro g w' hw hk
      go_simp
      exact ⟨rfl, rfl⟩
    · intro g w' hw hk
      have hh := S3.out.below hw
      have hh0 := hh.1
      have hh1 := hh.2
      clear hh
      go_simp
      exact ⟨rfl, rfl⟩
    · intro g w' hw hk
      go_simp
      exact ⟨rfl, rfl⟩
    · intro g w' hw hk
      go_simp
      exact Told.stays_call (with_is FW.out _)
    · intro g w' hw hk
      go_simp
      exact Told.stays_call (sum_told FS.out _)
    · intro g w' hw hk
      go_simp
      exact ⟨rfl, rfl⟩
    · intro g w' hw hk
      go_simp
      exact ⟨rfl, rfl⟩
    · intro g w' hw hk
      go_simp
      exact ⟨rfl, rfl⟩
    · intro g w' hw hk
      go_simp
      exact ⟨rfl, rfl⟩
    · intro g w' hw hk
      have hh := S3.out.below hw
      have hh0 := hh.1
      have hh1 := hh.2
      clear hh
      go_simp
      exact ⟨rfl, rfl⟩
    · intro g w' hw hk
      go_simp
      exact ⟨rfl, rfl⟩
    · intro g w' hw hk
      go_simp
    · intro g w' hw hk
      have hr := row1 (hk ⟨15, .data⟩ (by simp) rfl _ _ rfl rfl).2
      go_simp
      exact Told.stays_call (of_is FB.out rfl (by simp) hr)
    · intro g w' hw hk
      go_simp
      exact Told.stays_call (join_is FJ.out _)
    · intro g w' hw hk
      go_simp
      exact ⟨rfl, rfl⟩
    · intro g w' hw hk
      go_simp
      exact ⟨rfl, rfl⟩
    · intro g w' hw hk
      go_simp
    · intro g w' hw hk
      have hr := row2 (hk ⟨20, .data⟩ (by simp) rfl _ _ rfl rfl).2
      go_simp
      exact Told.stays_call (of_is FBA.out rfl (by simp) hr)
    · intro g w' hw hk
      go_simp
      exact ⟨rfl, rfl⟩
    · intro g w' hw hk
      go_simp
      exact ⟨rfl, rfl⟩
    · intro g w' hw hk
      go_simp
      exact ⟨rfl, rfl⟩
    · intro g w' hw hk
      go_simp
      exact Told.stays_call (of_is FN.out rfl (by simp) (nums0 _ _ _))
    · intro g w' hw hk
      go_simp
      exact ⟨rfl, rfl⟩
    · intro g w' hw hk
      go_simp
      exact ⟨rfl, rfl⟩
    · intro g w' hw hk
      go_simp
      exact ⟨rfl, rfl⟩
  · intro g w4 k4 hbox hap
    clear hbox hap
    simp only [Told.fill, Told.Leave.value, List.length_cons, List.length_nil, List.drop_succ_cons, List.drop_zero]
    go_wp2_with fail
    go_ret
    exact ⟨rfl, thru B3.out k4⟩

set_option maxRecDepth 100000 in
set_option maxHeartbeats 1000000 in
theorem one_yes_f (a b : Int) (w : World) (h : [a, b].all inB = true) (h1 : a < 0) (h2 : 0 < b) (h3 : a < b) :
    Calls Try.prog 7 #[.int .i64 a, .int .i64 b] w fun e w' => e = .returned (.bool true) ∧ Below w.heap.size w w' := by
  have hab := h
  simp [inB] at hab
  obtain ⟨p, hp⟩ : ∃ p, mostOf [a] = p := ⟨_, rfl⟩
  obtain ⟨q, hq⟩ : ∃ q, leastOf [a] = q := ⟨_, rfl⟩
  obtain ⟨r, hr⟩ : ∃ p, mostOf [b] = p := ⟨_, rfl⟩
  obtain ⟨s, hs⟩ : ∃ q, leastOf [b] = q := ⟨_, rfl⟩
  obtain ⟨p2, hp2⟩ : ∃ p, mostOf [b, a] = p := ⟨_, rfl⟩
  obtain ⟨q2, hq2⟩ : ∃ q, leastOf [b, a] = q := ⟨_, rfl⟩
  have HOA := Lib.hid (And.intro hp hq)
  have FB := Lib.hid (And.intro hr hs)
  have FBA := Lib.hid (And.intro hp2 hq2)
  have FN : Hid (mostOf [] = 0 ∧ leastOf [] = 0) := Lib.hid ⟨rfl, rfl⟩
  change max 0 a = p at hp
  change min 0 a = q at hq
  change max 0 b = r at hr
  change min 0 b = s at hs
  change max (max 0 b) a = p2 at hp2
  change min (min 0 b) a = q2 at hq2
  have FA := Lib.hid (show p + q = a ∧ (-1152921504606846976 ≤ p ∧ p ≤ 1152921504606846976) ∧ (-1152921504606846976 ≤ q ∧ q ≤ 1152921504606846976) by subst hp hq; exact ⟨one_fact1 a, by omega, by omega⟩)
  have FS := Lib.hid (show p2 + q2 = (a + b) ∧ (-1152921504606846976 ≤ p2 ∧ p2 ≤ 1152921504606846976) ∧ (-1152921504606846976 ≤ q2 ∧ q2 ≤ 1152921504606846976) by clear hp hq hr hs HOA FB FBA FN FA; omega)
  have FW := Lib.hid (show max p b = p2 ∧ min q b = q2 by subst hp hq hp2 hq2; exact ⟨one_fact2 a b, one_fact3 a b⟩)
  have FJ := Lib.hid (show max p r = p2 ∧ min q s = q2 by subst hp hq hp2 hq2 hr hs; exact ⟨one_fact4 a b, one_fact5 a b⟩)
  obtain ⟨⟨ha1, ha2⟩, hb1, hb2⟩ := hab
  clear hp hq hr hs hp2 hq2
  have H := Lib.hid h
  clear h
  go_enter Try.func7, Try.ntmps7
  go_wp2_with fail
  refine (speaks_any _).mono ?_; rintro e w1 ⟨rfl, b1⟩
  go_wp2_with fail
  refine (small_is _ 2 2 [a, b] _ rfl (by omega) _ (nums2 w1 a b) _ H.out).mono ?_; rintro e w2 ⟨rfl, rfl⟩
  generalize hV : World.alloc w1 _ = V
  have bV : Below w.heap.size w V := by rw [← hV]; exact thru b1 (ba1 _ _)
  clear hV b1
  go_wp2_with fail
  refine (of_is HOA.out rfl (by simp) (nums1 V a)).mono ?_; rintro e w3 ⟨rfl, b3⟩
  go_upto_region 9 with fail
  generalize hW : World.alloc w3 _ = W
  have S3 : Hid (R2 W w3.heap.size p q) := Lib.hid (by rw [← hW]; constructor <;> simp [go_sem])
  have B3 : Hid (Below w.heap.size w W) := Lib.hid (by rw [← hW]; exact thru (thru (thru bV (ba1 _ _)) b3) (ba1 _ _))
  clear hW bV b3
  refine Told.wp_region_told [.val (.agg #[.int .i64 p, .int .i64 q]), .val (.int .i64 a), .val (.int .i64 a), .val (.bool true), .val (.bool true), .val (.agg #[.int .i64 p, .int .i64 q]), .val (.int .i64 b), .val (.agg #[.int .i64 p2, .int .i64 q2]), .val (.int .i64 (a + b)), .val (.int .i64 (a + b)), .val (.bool true), .val (.bool true), .val (.bool true), .val (.agg #[.int .i64 p, .int .i64 q]), .val (.int .i64 b), .row (.cells #[.int .i64 b] 3) 1 1, .val (.agg #[.int .i64 r, .int .i64 s]), .val (.agg #[.int .i64 p2, .int .i64 q2]), .val (.int .i64 b), .val (.int .i64 a), .row (.cells #[.int .i64 b, .int .i64 a] 3) 2 2, .val (.agg #[.int .i64 p2, .int .i64 q2]), .val (.bool true), .val (.bool true), .val (.bool true), .val (.agg #[.int .i64 0, .int .i64 0]), .val (.agg #[.int .i64 0, .int .i64 0]), .val (.bool true), .val (.bool true)] (by kernel_rfl) (by kernel_rfl) (by kernel_rfl) ?_ ?_
  · simp only [Told.fill, Told.Leave.value]
    refine ⟨?_, ?_, ?_, ?_, ?_, ?_, ?_, ?_, ?_, ?_, ?_, ?_, ?_, ?_, ?_, ?_, ?_, ?_, ?_, ?_, ?_, ?_, ?_, ?_, ?_, ?_, ?_, ?_, ?_, trivial⟩
    · intro g w' hw hk
      have hh := S3.out.below hw
      have hh0 := hh.1
      have hh1 := hh.2
      clear hh
      go_simp
      exact ⟨rfl, rfl⟩
    · intro g w' hw hk
      go_simp
      exact Told.stays_call (sum_told FA.out _)
    · intro g w' hw hk
      go_simp
      exact ⟨rfl, rfl⟩
    · intro g w' hw hk
      go_simp
      exact ⟨rfl, rfl⟩
    · intro g w' hw hk
      go_simp
      exact ⟨rfl, rfl⟩
    · intro g w' hw hk
      have hh := S3.out.below hw
      have hh0 := hh.1
      have hh1 := hh.2
      clear hh
      go_simp
      exact ⟨rfl, rfl⟩
    · intro g w' hw hk
      go_simp
      exact ⟨rfl, rfl⟩
    · intro g w' hw hk
      go_simp
      exact Told.stays_call (with_is FW.out _)
    · intro g w' hw hk
      go_simp
      exact Told.stays_call (sum_told FS.out _)
    · intro g w' hw hk
      go_simp
      exact ⟨rfl, rfl⟩
    · intro g w' hw hk
      go_simp
      exact ⟨rfl, rfl⟩
    · intro g w' hw hk
      go_simp
      exact ⟨rfl, rfl⟩
    · intro g w' hw hk
      go_simp
      exact ⟨rfl, rfl⟩
    · intro g w' hw hk
      have hh := S3.out.below hw
      have hh0 := hh.1
      have hh1 := hh.2
      clear hh
      go_simp
      exact ⟨rfl, rfl⟩
    · intro g w' hw hk
      go_simp
      exact ⟨rfl, rfl⟩
    · intro g w' hw hk
      go_simp
    · intro g w' hw hk
      have hr := row1 (hk ⟨15, .data⟩ (by simp) rfl _ _ rfl rfl).2
      go_simp
      exact Told.stays_call (of_is FB.out rfl (by simp) hr)
    · intro g w' hw hk
      go_simp
      exact Told.stays_call (join_is FJ.out _)
    · intro g w' hw hk
      go_simp
      exact ⟨rfl, rfl⟩
    · intro g w' hw hk
      go_simp
      exact ⟨rfl, rfl⟩
    · intro g w' hw hk
      go_simp
    · intro g w' hw hk
      have hr := row2 (hk ⟨20, .data⟩ (by simp) rfl _ _ rfl rfl).2
      go_simp
      exact Told.stays_call (of_is FBA.out rfl (by simp) hr)
    · intro g w' hw hk
      go_simp
      exact ⟨rfl, rfl⟩
    · intro g w' hw hk
      go_simp
      exact ⟨rfl, rfl⟩
    · intro g w' hw hk
      go_simp
      exact ⟨rfl, rfl⟩
    · intro g w' hw hk
      go_simp
      exact Told.stays_call (of_is FN.out rfl (by simp) (nums0 _ _ _))
    · intro g w' hw hk
      go_simp
      exact ⟨rfl, rfl⟩
    · intro g w' hw hk
      go_simp
      exact ⟨rfl, rfl⟩
    · intro g w' hw hk
      go_simp
      exact ⟨rfl, rfl⟩
  · intro g w4 k4 hbox hap
    clear hbox hap
    simp only [Told.fill, Told.Leave.value, List.length_cons, List.length_nil, List.drop_succ_cons, List.drop_zero]
    go_wp2_with fail
    go_ret
    exact ⟨rfl, thru B3.out k4⟩

set_option maxRecDepth 100000 in
set_option maxHeartbeats 1000000 in
theorem one_yes_g (a b : Int) (w : World) (h : [a, b].all inB = true) (h1 : 0 < a) (h2 : b < 0) (h3 : ¬ a < b) :
    Calls Try.prog 7 #[.int .i64 a, .int .i64 b] w fun e w' => e = .returned (.bool true) ∧ Below w.heap.size w w' := by
  have hab := h
  simp [inB] at hab
  obtain ⟨p, hp⟩ : ∃ p, mostOf [a] = p := ⟨_, rfl⟩
  obtain ⟨q, hq⟩ : ∃ q, leastOf [a] = q := ⟨_, rfl⟩
  obtain ⟨r, hr⟩ : ∃ p, mostOf [b] = p := ⟨_, rfl⟩
  obtain ⟨s, hs⟩ : ∃ q, leastOf [b] = q := ⟨_, rfl⟩
  obtain ⟨p2, hp2⟩ : ∃ p, mostOf [b, a] = p := ⟨_, rfl⟩
  obtain ⟨q2, hq2⟩ : ∃ q, leastOf [b, a] = q := ⟨_, rfl⟩
  have HOA := Lib.hid (And.intro hp hq)
  have FB := Lib.hid (And.intro hr hs)
  have FBA := Lib.hid (And.intro hp2 hq2)
  have FN : Hid (mostOf [] = 0 ∧ leastOf [] = 0) := Lib.hid ⟨rfl, rfl⟩
  change max 0 a = p at hp
  change min 0 a = q at hq
  change max 0 b = r at hr
  change min 0 b = s at hs
  change max (max 0 b) a = p2 at hp2
  change min (min 0 b) a = q2 at hq2
  have FA := Lib.hid (show p + q = a ∧ (-1152921504606846976 ≤ p ∧ p ≤ 1152921504606846976) ∧ (-1152921504606846976 ≤ q ∧ q ≤ 1152921504606846976) by subst hp hq; exact ⟨one_fact1 a, by omega, by omega⟩)
  have FS := Lib.hid (show p2 + q2 = (a + b) ∧ (-1152921504606846976 ≤ p2 ∧ p2 ≤ 1152921504606846976) ∧ (-1152921504606846976 ≤ q2 ∧ q2 ≤ 1152921504606846976) by clear hp hq hr hs HOA FB FBA FN FA; omega)
  have FW := Lib.hid (show max p b = p2 ∧ min q b = q2 by subst hp hq hp2 hq2; exact ⟨one_fact2 a b, one_fact3 a b⟩)
  have FJ := Lib.hid (show max p r = p2 ∧ min q s = q2 by subst hp hq hp2 hq2 hr hs; exact ⟨one_fact4 a b, one_fact5 a b⟩)
  obtain ⟨⟨ha1, ha2⟩, hb1, hb2⟩ := hab
  clear hp hq hr hs hp2 hq2
  have H := Lib.hid h
  clear h
  go_enter Try.func7, Try.ntmps7
  go_wp2_with fail
  refine (speaks_any _).mono ?_; rintro e w1 ⟨rfl, b1⟩
  go_wp2_with fail
  refine (small_is _ 2 2 [a, b] _ rfl (by omega) _ (nums2 w1 a b) _ H.out).mono ?_; rintro e w2 ⟨rfl, rfl⟩
  generalize hV : World.alloc w1 _ = V
  have bV : Below w.heap.size w V := by rw [← hV]; exact thru b1 (ba1 _ _)
  clear hV b1
  go_wp2_with fail
  refine (of_is HOA.out rfl (by simp) (nums1 V a)).mono ?_; rintro e w3 ⟨rfl, b3⟩
  go_upto_region 9 with fail
  generalize hW : World.alloc w3 _ = W
  have S3 : Hid (R2 W w3.heap.size p q) := Lib.hid (by rw [← hW]; constructor <;> simp [go_sem])
  have B3 : Hid (Below w.heap.size w W) := Lib.hid (by rw [← hW]; exact thru (thru (thru bV (ba1 _ _)) b3) (ba1 _ _))
  clear hW bV b3
  refine Told.wp_region_told [.val (.agg #[.int .i64 p, .int .i64 q]), .val (.int .i64 a), .val (.int .i64 a), .val (.bool true), .val (.bool true), .val (.agg #[.int .i64 p, .int .i64 q]), .val (.int .i64 b), .val (.agg #[.int .i64 p2, .int .i64 q2]), .val (.int .i64 (a + b)), .val (.int .i64 (a + b)), .val (.bool true), .val (.bool true), .val (.bool true), .val (.agg #[.int .i64 p, .int .i64 q]), .val (.int .i64 b), .row (.cells #[.int .i64 b] 3) 1 1, .val (.agg #[.int .i64 r, .int .i64 s]), .val (.agg #[.int .i64 p2, .int .i64 q2]), .val (.int .i64 b), .val (.int .i64 a), .row (.cells #[.int .i64 b, .int .i64 a] 3) 2 2, .val (.agg #[.int .i64 p2, .int .i64 q2]), .val (.bool true), .val (.bool true), .val (.bool true), .val (.agg #[.int .i64 0, .int .i64 0]), .val (.agg #[.int .i64 0, .int .i64 0]), .val (.bool true), .val (.bool true)] (by kernel_rfl) (by kernel_rfl) (by kernel_rfl) ?_ ?_
  · simp only [Told.fill, Told.Leave.value]
    refine ⟨?_, ?_, ?_, ?_, ?_, ?_, ?_, ?_, ?_, ?_, ?_, ?_, ?_, ?_, ?_, ?_, ?_, ?_, ?_, ?_, ?_, ?_, ?_, ?_, ?_, ?_, ?_, ?_, ?_, trivial⟩
    · intro g w' hw hk
      have hh := S3.out.below hw
      have hh0 := hh.1
      have hh1 := hh.2
      clear hh
      go_simp
      exact ⟨rfl, rfl⟩
    · intro g w' hw hk
      go_simp
      exact Told.stays_call (sum_told FA.out _)
    · intro g w' hw hk
      go_simp
      exact ⟨rfl, rfl⟩
    · intro g w' hw hk
      go_simp
      exact ⟨rfl, rfl⟩
    · intro g w' hw hk
      go_simp
      exact ⟨rfl, rfl⟩
    · intro g w' hw hk
      have hh := S3.out.below hw
      have hh0 := hh.1
      have hh1 := hh.2
      clear hh
      go_simp
      exact ⟨rfl, rfl⟩
    · intro g w' hw hk
      go_simp
      exact ⟨rfl, rfl⟩
    · intro g w' hw hk
      go_simp
      exact Told.stays_call (with_is FW.out _)
    · intro g w' hw hk
      go_simp
      exact Told.stays_call (sum_told FS.out _)
    · intro g w' hw hk
      go_simp
      exact ⟨rfl, rfl⟩
    · intro g w' hw hk
      go_simp
      exact ⟨rfl, rfl⟩
    · intro g w' hw hk
      go_simp
      exact ⟨rfl, rfl⟩
    · intro g w' hw hk
      go_simp
      exact ⟨rfl, rfl⟩
    · intro g w' hw hk
      have hh := S3.out.below hw
      have hh0 := hh.1
      have hh1 := hh.2
      clear hh
      go_simp
      exact ⟨rfl, rfl⟩
    · intro g w' hw hk
      go_simp
      exact ⟨rfl, rfl⟩
    · intro g w' hw hk
      go_simp
    · intro g w' hw hk
      have hr := row1 (hk ⟨15, .data⟩ (by simp) rfl _ _ rfl rfl).2
      go_simp
      exact Told.stays_call (of_is FB.out rfl (by simp) hr)
    · intro g w' hw hk
      go_simp
      exact Told.stays_call (join_is FJ.out _)
    · intro g w' hw hk
      go_simp
      exact ⟨rfl, rfl⟩
    · intro g w' hw hk
      go_simp
      exact ⟨rfl, rfl⟩
    · intro g w' hw hk
      go_simp
    · intro g w' hw hk
      have hr := row2 (hk ⟨20, .data⟩ (by simp) rfl _ _ rfl rfl).2
      go_simp
      exact Told.stays_call (of_is FBA.out rfl (by simp) hr)
    · intro g w' hw hk
      go_simp
      exact ⟨rfl, rfl⟩
    · intro g w' hw hk
      go_simp
      exact ⟨rfl, rfl⟩
    · intro g w' hw hk
      go_simp
      exact ⟨rfl, rfl⟩
    · intro g w' hw hk
      go_simp
      exact Told.stays_call (of_is FN.out rfl (by simp) (nums0 _ _ _))
    · intro g w' hw hk
      go_simp
      exact ⟨rfl, rfl⟩
    · intro g w' hw hk
      go_simp
      exact ⟨rfl, rfl⟩
    · intro g w' hw hk
      go_simp
      exact ⟨rfl, rfl⟩
  · intro g w4 k4 hbox hap
    clear hbox hap
    simp only [Told.fill, Told.Leave.value, List.length_cons, List.length_nil, List.drop_succ_cons, List.drop_zero]
    go_wp2_with fail
    go_ret
    exact ⟨rfl, thru B3.out k4⟩

theorem one_any (a b : Int) (w : World) :
    Calls Try.prog 7 #[.int .i64 a, .int .i64 b] w fun e w' => e = .returned (.bool true) ∧ Below w.heap.size w w' := by
  cases h : [a, b].all inB with
  | false => exact one_no a b w h
  | true =>
    by_cases ha : 0 ≤ a
    · by_cases hb : 0 ≤ b
      · by_cases h3 : a < b
        · exact one_yes_a a b w h ha hb h3
        · exact one_yes_b a b w h ha hb h3
      · by_cases ha0 : 0 < a
        · exact one_yes_g a b w h ha0 (by omega) (by omega)
        · exact one_yes_e a b w h ha (by omega) (by omega)
    · by_cases hb : 0 < b
      · exact one_yes_f a b w h (by omega) hb (by omega)
      · by_cases h3 : a ≤ b
        · exact one_yes_c a b w h (by omega) (by omega) h3
        · exact one_yes_d a b w h (by omega) (by omega) (by omega)

end Go.Proofs.Ytfiagopmolegjaa
