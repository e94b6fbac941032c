/- The walk of TreeFronts, over the contracts of the program's trees. -/
import Derived.Test.YtmmmlegjhblfaaaTreeCounts
import Derived.Test.YtmmmlegjhblfaaaTreeFront
namespace Go.Proofs.Ytmmmlegjhblfaaa.Tree
open Go.RowKit Go.Sort Go.Proofs.Ytmmmlegjhblfaaa.Record Go.Proofs.Ytmmmlegjhblfaaa.Script Go.Proofs.Ytmmmlegjhblfaaa.More

section
variable {T : World → Addr → List Bx → Prop}

/-- A pointer to a tree of these boxes. -/
def GivesT (T : World → Addr → List Bx → Prop) (bs : List Bx) (w : World) (u : Value) : Prop := ∃ p, u = .pointer (some p) ∧ T w p bs

theorem keeps_givesT (hT : TreeOk T) (bs : List Bx) : Hold.Keeps (GivesT T bs) := fun w w' u hb h => by
  obtain ⟨p, e, ht⟩ := h
  exact ⟨p, e, hT.keep _ _ _ _ ht hb⟩

theorem keeps_any : Hold.Keeps fun _ _ => True := fun _ _ _ _ _ => trivial

theorem begin_gives (hT : TreeOk T) (A : Option Addr) (n c : Nat) (bs : List Bx) (w : World) (hn : n = bs.length) (hlen : n ≤ 1000) (h0 : 0 < n) (hx : Boxes w w.heap.size A bs) (hb : ∀ b ∈ bs, OkB b) (hf : Fine bs n) :
    Calls Try.prog 14 #[.slice A n c] w fun r w' => ∃ u, r = .returned u ∧ GivesT T bs w' u ∧ Below w.heap.size w w' := by
  refine (begin_some hT A n c bs w hn hlen h0 hx hb hf).mono ?_
  rintro r w' ⟨⟨p, rfl, ht⟩, hb⟩
  exact ⟨_, rfl, ⟨p, rfl, ht⟩, hb⟩

theorem begin_ends (hT : TreeOk T) (A : Option Addr) (n c : Nat) (bs : List Bx) (w : World) (hn : n = bs.length) (hlen : n ≤ 1000) (hx : Boxes w w.heap.size A bs) (hb : ∀ b ∈ bs, OkB b) :
    Calls Try.prog 14 #[.slice A n c] w fun r w' => ∃ u, r = .returned u ∧ True ∧ Below w.heap.size w w' := by
  obtain ⟨a, e, hc⟩ : ∃ a e, chk bs = (a, e) := ⟨_, _, rfl⟩
  by_cases he : e = 0
  · subst he
    obtain ⟨-, h0, hf⟩ := chk_ok hn hc
    refine (begin_gives hT A n c bs w hn hlen h0 hx hb hf).mono ?_
    rintro r w' ⟨u, e, -, hb⟩
    exact ⟨u, e, trivial, hb⟩
  · refine (begin_none hT A n c bs w a e hn hlen hx hb hc he).mono ?_
    rintro r w' ⟨e, hb⟩
    exact ⟨_, e, trivial, hb⟩

theorem okB_take {bs : List Bx} (h : ∀ b ∈ bs, OkB b) (m : Nat) : ∀ b ∈ bs.take m, OkB b := fun b hb => h b (List.mem_of_mem_take hb)

set_option maxRecDepth 100000 in
set_option maxHeartbeats 2000000 in
theorem fronts_yes (hT : TreeOk T) (A : Option Addr) (n c : Nat) (bs : List Bx) (z : Int) (w : World) (hn : n = bs.length) (hlen : n ≤ 100) (hcap : n ≤ c) (h0 : 0 < n) (hz : 0 ≤ z ∧ z ≤ 255) (hx : Boxes w w.heap.size A bs) (hb : ∀ b ∈ bs, OkB b) (hf : Fine bs n) :
    Calls Try.prog 6 #[.slice A n c, .int .u8 z] w fun r w' => r = .returned (.bool true) ∧ Below w.heap.size w w' := by
  have HX := Lib.hid hx
  have HN := Lib.hid hn
  have HB := Lib.hid hb
  have HF := Lib.hid hf
  have HSH := Lib.hid (hf.shape h0)
  clear hx hn hb hf
  obtain ⟨m, hm, hm1, hmn⟩ : ∃ m : Nat, 1 + z % (n : Int) = (m : Int) ∧ 1 ≤ m ∧ m ≤ n := by
    have g0 := Int.emod_nonneg z (show (n : Int) ≠ 0 by omega)
    have g1 := Int.emod_lt_of_pos z (show (0 : Int) < n by omega)
    exact ⟨(1 + z % (n : Int)).toNat, by omega, by omega, by omega⟩
  have hmt : 1 + Int.tmod z (n : Int) = (m : Int) := by rw [Int.tmod_eq_emod_of_nonneg hz.1]; exact hm
  have hn0 : ((n : Int) == 0) = false := by simp; omega
  have hmc : m ≤ c := by omega
  have hw64 : wrap64 (m : Int) = (m : Int) := IntWalk.wrap64_in _ ⟨by omega, by omega⟩
  obtain ⟨hz0, hz1⟩ := hz
  have hnz : ¬ (n : Int) = 0 := by omega
  go_enter Try.func6, Try.ntmps6
  go_wp2_with fail
  refine (speaks_any hT _).mono ?_; rintro e w1 ⟨rfl, k1⟩
  have K1 := Lib.hid k1
  clear k1
  go_upto_region 4 with fail
  have HB1 : Hid (∀ w', Below w1.heap.size w1 w' → Boxes w' w'.heap.size A bs) := Lib.hid fun w' hw => HX.out.thru (thru K1.out hw)
  have HMB := Lib.hid (show m = (bs.take m).length by rw [List.length_take, ← HN.out]; omega)
  refine Hold.wp_region_hold [.val (.slice A n c), .some (GivesT T bs), .val (.slice A n c), .val (.int .i64 (m : Int)), .val (.slice A m c), .some (GivesT T (bs.take m))] (by kernel_rfl) (by kernel_rfl) (by kernel_rfl) ?_ ?_
  · simp only [Hold.fill, Hold.Leave.value]
    refine ⟨?_, ?_, ?_, ?_, ?_, ?_, trivial⟩
    · intro g w' hw hk
      go_simp
      exact ⟨rfl, rfl⟩
    · refine ⟨keeps_givesT hT _, fun g w' hw hk => ?_⟩
      go_simp
      exact Hold.gives_call (begin_gives hT A n c bs w' HN.out (by omega) h0 (HB1.out w' hw) HB.out HF.out)
    · intro g w' hw hk
      go_simp
      exact ⟨rfl, rfl⟩
    · intro g w' hw hk
      go_simp
      exact ⟨rfl, rfl⟩
    · intro g w' hw hk
      go_simp
      exact ⟨rfl, rfl⟩
    · refine ⟨keeps_givesT hT _, fun g w' hw hk => ?_⟩
      go_simp
      exact Hold.gives_call (begin_gives hT A m c (bs.take m) w' HMB.out (by omega) (by omega) (Boxes.take (HB1.out w' hw) m) (okB_take HB.out m) (HF.out.take hmn))
  intro g w2 k2 hg
  obtain ⟨p, hp1, ht1⟩ := hg 1 _ rfl
  obtain ⟨q, hq1, hu1⟩ := hg 5 _ rfl
  simp only [Hold.fill, Hold.Leave.value, List.length_cons, List.length_nil, List.drop_succ_cons, List.drop_zero]
  rw [hp1, hq1]
  clear hg hp1 hq1
  have K2 := Lib.hid (thru K1.out k2)
  have HT2 := Lib.hid ht1
  have HU2 := Lib.hid hu1
  clear k2 ht1 hu1 HB1
  go_wp2_with (first | (go_at_call 13; refine (len_at hT HMB.out HU2.out).mono ?_; rintro r w3 ⟨rfl, kk⟩; have K3 := Lib.hid (thru K2.out kk); have HT3 := Lib.hid (hT.keep _ _ _ _ HT2.out kk); have HU3 := Lib.hid (hT.keep _ _ _ _ HU2.out kk); clear kk))
  go_loopw [45] (fun t wr => ∃ k : Nat, k ≤ m ∧ t = .int .i64 (k : Int) ∧ Hid (T wr p bs ∧ T wr q (bs.take m) ∧ Below w.heap.size w wr)) (fun t _ => m - (intOf t).toNat)
  case atStart => exact ⟨0, Nat.zero_le _, rfl, Lib.hid ⟨HT3.out, HU3.out, K3.out⟩⟩
  case round =>
    clear HT2 HU2 HT3 HU3 K3 K2
    obtain ⟨k, hk, rfl, H⟩ := hrel
    by_cases hlt : k < m
    · have hkn : k < n := by omega
      obtain ⟨a, ha⟩ : ∃ a, par (dOf bs) k = a := ⟨_, rfl⟩
      obtain ⟨b, hb⟩ : ∃ b, ctx (dOf bs) (oOf bs) k = b := ⟨_, rfl⟩
      obtain ⟨e, he⟩ : ∃ e, en (dOf bs) n k = e := ⟨_, rfl⟩
      have FA := Lib.hid ha
      have FB := Lib.hid hb
      have FE : Hid ((en (dOf bs) n k : Int) = (e : Int)) := Lib.hid (by rw [he])
      have GA : Hid (par (dOf (bs.take m)) k = a) := Lib.hid (by rw [← ha]; exact par_congr k (fun j hj => dOf_take (by omega)))
      have GB : Hid (ctx (dOf (bs.take m)) (oOf (bs.take m)) k = b) := Lib.hid (by rw [← hb]; exact ctx_congr k (fun j hj => dOf_take (by omega)) (fun j hj => oOf_take (by omega)))
      have GE : Hid (en (dOf (bs.take m)) m k = min e m) := Lib.hid (by rw [en_congr m k hlt (fun j hj => dOf_take hj), en_front (dOf bs) n m k hlt hmn, he])
      clear ha hb he
      by_cases hem : e ≤ m
      · have GE2 : Hid ((en (dOf (bs.take m)) m k : Int) = (e : Int)) := Lib.hid (by rw [GE.out]; omega)
        go_wp2_with (first
          | (go_at_call 17; with_reducible refine (par_at hT HN.out H.out.1 hkn FA.out).mono ?_; rintro r w4 ⟨rfl, kk⟩; have K4 := Lib.hid kk; clear kk)
          | (go_at_call 17; with_reducible refine (par_at hT HMB.out (hT.keep _ _ _ _ H.out.2.1 K4.out) hlt GA.out).mono ?_; rintro r w5 ⟨rfl, kk⟩; have K5 := Lib.hid (thru K4.out kk); clear kk)
          | (go_at_call 21; with_reducible refine (ctx_at hT HN.out (hT.keep _ _ _ _ H.out.1 K5.out) hkn FB.out).mono ?_; rintro r w6 ⟨rfl, kk⟩; have K6 := Lib.hid (thru K5.out kk); clear kk)
          | (go_at_call 21; with_reducible refine (ctx_at hT HMB.out (hT.keep _ _ _ _ H.out.2.1 K6.out) hlt GB.out).mono ?_; rintro r w7 ⟨rfl, kk⟩; have K7 := Lib.hid (thru K6.out kk); clear kk)
          | (go_at_call 19; with_reducible refine (en_at hT HMB.out (hT.keep _ _ _ _ H.out.2.1 K7.out) hlt GE2.out).mono ?_; rintro r w8 ⟨rfl, kk⟩; have K8 := Lib.hid (thru K7.out kk); clear kk)
          | (go_at_call 19; with_reducible refine (en_at hT HN.out (hT.keep _ _ _ _ H.out.1 K8.out) hkn FE.out).mono ?_; rintro r w9 ⟨rfl, kk⟩; have K9 := Lib.hid (thru K8.out kk); clear kk))
        go_roundw
        case rel => exact ⟨k + 1, by omega, by go_num, Lib.hid ⟨hT.keep _ _ _ _ H.out.1 K9.out, hT.keep _ _ _ _ H.out.2.1 K9.out, thru H.out.2.2 K9.out⟩⟩
        case measure => simp [intOf]; omega
      · have GE2 : Hid ((en (dOf (bs.take m)) m k : Int) = (m : Int)) := Lib.hid (by rw [GE.out]; omega)
        go_wp2_with (first
          | (go_at_call 17; with_reducible refine (par_at hT HN.out H.out.1 hkn FA.out).mono ?_; rintro r w4 ⟨rfl, kk⟩; have K4 := Lib.hid kk; clear kk)
          | (go_at_call 17; with_reducible refine (par_at hT HMB.out (hT.keep _ _ _ _ H.out.2.1 K4.out) hlt GA.out).mono ?_; rintro r w5 ⟨rfl, kk⟩; have K5 := Lib.hid (thru K4.out kk); clear kk)
          | (go_at_call 21; with_reducible refine (ctx_at hT HN.out (hT.keep _ _ _ _ H.out.1 K5.out) hkn FB.out).mono ?_; rintro r w6 ⟨rfl, kk⟩; have K6 := Lib.hid (thru K5.out kk); clear kk)
          | (go_at_call 21; with_reducible refine (ctx_at hT HMB.out (hT.keep _ _ _ _ H.out.2.1 K6.out) hlt GB.out).mono ?_; rintro r w7 ⟨rfl, kk⟩; have K7 := Lib.hid (thru K6.out kk); clear kk)
          | (go_at_call 19; with_reducible refine (en_at hT HMB.out (hT.keep _ _ _ _ H.out.2.1 K7.out) hlt GE2.out).mono ?_; rintro r w8 ⟨rfl, kk⟩; have K8 := Lib.hid (thru K7.out kk); clear kk)
          | (go_at_call 19; with_reducible refine (en_at hT HN.out (hT.keep _ _ _ _ H.out.1 K8.out) hkn FE.out).mono ?_; rintro r w9 ⟨rfl, kk⟩; have K9 := Lib.hid (thru K8.out kk); clear kk))
        go_roundw
        case rel => exact ⟨k + 1, by omega, by go_num, Lib.hid ⟨hT.keep _ _ _ _ H.out.1 K9.out, hT.keep _ _ _ _ H.out.2.1 K9.out, thru H.out.2.2 K9.out⟩⟩
        case measure => simp [intOf]; omega
    · obtain rfl : k = m := by omega
      go_wp2_with fail
      go_ret
      exact ⟨rfl, H.out.2.2⟩

set_option maxRecDepth 100000 in
set_option maxHeartbeats 2000000 in
theorem fronts_no (hT : TreeOk T) (A : Option Addr) (n c : Nat) (bs : List Bx) (z : Int) (w : World) (a e : Int) (hn : n = bs.length) (hlen : n ≤ 100) (hcap : n ≤ c) (h0 : 0 < n) (hz : 0 ≤ z ∧ z ≤ 255) (hx : Boxes w w.heap.size A bs) (hb : ∀ b ∈ bs, OkB b) (hc : chk bs = (a, e)) (he : e ≠ 0) :
    Calls Try.prog 6 #[.slice A n c, .int .u8 z] w fun r w' => r = .returned (.bool true) ∧ Below w.heap.size w w' := by
  have HX := Lib.hid hx
  have HN := Lib.hid hn
  have HB := Lib.hid hb
  have HC := Lib.hid hc
  have HE := Lib.hid he
  clear hx hn hb hc he
  obtain ⟨m, hm, hm1, hmn⟩ : ∃ m : Nat, 1 + z % (n : Int) = (m : Int) ∧ 1 ≤ m ∧ m ≤ n := by
    have g0 := Int.emod_nonneg z (show (n : Int) ≠ 0 by omega)
    have g1 := Int.emod_lt_of_pos z (show (0 : Int) < n by omega)
    exact ⟨(1 + z % (n : Int)).toNat, by omega, by omega, by omega⟩
  have hmt : 1 + Int.tmod z (n : Int) = (m : Int) := by rw [Int.tmod_eq_emod_of_nonneg hz.1]; exact hm
  have hn0 : ((n : Int) == 0) = false := by simp; omega
  have hmc : m ≤ c := by omega
  have hw64 : wrap64 (m : Int) = (m : Int) := IntWalk.wrap64_in _ ⟨by omega, by omega⟩
  obtain ⟨hz0, hz1⟩ := hz
  have hnz : ¬ (n : Int) = 0 := by omega
  go_enter Try.func6, Try.ntmps6
  go_wp2_with fail
  refine (speaks_any hT _).mono ?_; rintro r w1 ⟨rfl, k1⟩
  have K1 := Lib.hid k1
  clear k1
  go_upto_region 4 with fail
  have HB1 : Hid (∀ w', Below w1.heap.size w1 w' → Boxes w' w'.heap.size A bs) := Lib.hid fun w' hw => HX.out.thru (thru K1.out hw)
  have HMB := Lib.hid (show m = (bs.take m).length by rw [List.length_take, ← HN.out]; omega)
  refine Hold.wp_region_hold [.val (.slice A n c), .val (.pointer none), .val (.slice A n c), .val (.int .i64 (m : Int)), .val (.slice A m c), .some (fun _ _ => True)] (by kernel_rfl) (by kernel_rfl) (by kernel_rfl) ?_ ?_
  · simp only [Hold.fill, Hold.Leave.value]
    refine ⟨?_, ?_, ?_, ?_, ?_, ?_, trivial⟩
    · intro g w' hw hk
      go_simp
      exact ⟨rfl, rfl⟩
    · intro g w' hw hk
      go_simp
      exact Hold.stays_call (begin_none hT A n c bs w' a e HN.out (by omega) (HB1.out w' hw) HB.out HC.out HE.out)
    · intro g w' hw hk
      go_simp
      exact ⟨rfl, rfl⟩
    · intro g w' hw hk
      go_simp
      exact ⟨rfl, rfl⟩
    · intro g w' hw hk
      go_simp
      exact ⟨rfl, rfl⟩
    · refine ⟨keeps_any, fun g w' hw hk => ?_⟩
      go_simp
      exact Hold.gives_call (begin_ends hT A m c (bs.take m) w' HMB.out (by omega) (Boxes.take (HB1.out w' hw) m) (okB_take HB.out m))
  intro g w2 k2 hg
  clear hg
  simp only [Hold.fill, Hold.Leave.value, List.length_cons, List.length_nil, List.drop_succ_cons, List.drop_zero]
  generalize g 5 = u5
  have K2 := Lib.hid (thru K1.out k2)
  clear k2 HB1
  go_wp2_with fail
  go_ret
  exact ⟨rfl, K2.out⟩

set_option maxRecDepth 100000 in
set_option maxHeartbeats 1000000 in
theorem fronts_nil (hT : TreeOk T) (A : Option Addr) (c : Nat) (z : Int) (w : World) :
    Calls Try.prog 6 #[.slice A 0 c, .int .u8 z] w fun r w' => r = .returned (.bool true) ∧ Below w.heap.size w w' := by
  go_enter Try.func6, Try.ntmps6
  go_wp2_with fail
  refine (speaks_any hT _).mono ?_; rintro r w1 ⟨rfl, k1⟩
  go_wp2_with fail
  refine (speaks_any hT _).mono ?_; rintro r w2 ⟨rfl, k2⟩
  go_wp2_with fail
  go_ret
  exact ⟨rfl, thru k1 k2⟩

set_option maxRecDepth 100000 in
set_option maxHeartbeats 1000000 in
theorem fronts_long (hT : TreeOk T) (A : Option Addr) (n c : Nat) (z : Int) (w : World) (h : ¬ n ≤ 100) :
    Calls Try.prog 6 #[.slice A n c, .int .u8 z] w fun r w' => r = .returned (.bool true) ∧ Below w.heap.size w w' := by
  have h1 : (100 : Int) < (n : Int) := by omega
  clear h
  go_enter Try.func6, Try.ntmps6
  go_wp2_with fail
  refine (speaks_any hT _).mono ?_; rintro r w1 ⟨rfl, k1⟩
  go_wp2_with fail
  refine (speaks_any hT _).mono ?_; rintro r w2 ⟨rfl, k2⟩
  go_wp2_with fail
  go_ret
  exact ⟨rfl, thru k1 k2⟩

theorem fronts_any (hT : TreeOk T) (A : Option Addr) (n c : Nat) (bs : List Bx) (z : Int) (w : World) (hn : n = bs.length) (hcap : n ≤ c) (hz : 0 ≤ z ∧ z ≤ 255) (hx : Boxes w w.heap.size A bs) (hb : ∀ b ∈ bs, OkB b) :
    Calls Try.prog 6 #[.slice A n c, .int .u8 z] w fun r w' => r = .returned (.bool true) ∧ Below w.heap.size w w' := by
  by_cases h : n ≤ 100
  · rcases Nat.eq_zero_or_pos n with h0 | h0
    · subst h0
      exact fronts_nil hT A c z w
    · obtain ⟨a, e, hc⟩ : ∃ a e, chk bs = (a, e) := ⟨_, _, rfl⟩
      by_cases he : e = 0
      · subst he
        obtain ⟨-, h0, hf⟩ := chk_ok hn hc
        exact fronts_yes hT A n c bs z w hn h hcap h0 hz hx hb hf
      · exact fronts_no hT A n c bs z w a e hn h hcap h0 hz hx hb hc he
  · exact fronts_long hT A n c z w h
end

end Go.Proofs.Ytmmmlegjhblfaaa.Tree
