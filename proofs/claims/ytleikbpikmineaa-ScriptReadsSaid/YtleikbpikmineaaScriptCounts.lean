/- The walk of ScriptCounts, whatever the program's own functions look like that keep their contracts. -/
import Derived.Test.YtleikbpikmineaaScriptCountD
namespace Go.Proofs.Ytleikbpikmineaa.Script
open Go.RowKit Go.Sort Go.Proofs.Ytleikbpikmineaa.Record

/-- The law's look at the document's example comes out true. -/
def SpeaksOk : Prop := ∀ w : World, Calls Try.prog 8 #[] w fun e w' => e = .returned (.bool true) ∧ Below w.heap.size w w'

/-- Count counts. -/
def CountOk : Prop := ∀ (A : Option Addr) (n c : Nat) (bs : List Bx) (w : World), n = bs.length → n ≤ 100000 → Boxes w w.heap.size A bs → (∀ b ∈ bs, (Lit.int .i64 b.k).wf = true) →
  Calls Try.prog 16 #[.slice A n c] w fun e w' => (∃ b D, w.heap.size ≤ b ∧ e = .returned (.map (some b)) ∧ w'.ownsMap Try.prog 3 (plainElem Try.prog 3) b n D ∧ CountD D bs) ∧ Below w.heap.size w w'

/-- How many boxes have come. -/
def come (left : Lit → Bool) (bs : List Bx) : Nat := bs.countP (fun b => !left (.int .i64 b.k))

theorem come_start {D : DataW Unit} {bs : List Bx} (h : CountD D bs) (hk : ∀ b ∈ bs, (Lit.int .i64 b.k).wf = true) : come (Maps.has D) bs = 0 := by
  unfold come
  rw [List.countP_eq_zero]
  intro b hb
  have hm : manyOf b.k bs ≠ 0 := by
    unfold manyOf
    intro h0
    rw [List.countP_eq_zero] at h0
    exact h0 b hb (by simp)
  have : Maps.has D (.int .i64 b.k) = true := Maps.has_true_of_atKey (y := .lit (.int .i64 (manyOf b.k bs))) fun z => by rw [h.2.1 _ (hk b hb), if_neg hm]
  simp [this]

theorem come_end {left : Lit → Bool} {bs : List Bx} (h : ∀ kl, left kl = false) : come left bs = bs.length := by
  unfold come
  rw [List.countP_eq_length]
  intro b _
  simp [h]

theorem come_next {left : Lit → Bool} {x : Int} (hx : left (.int .i64 x) = true) : ∀ bs : List Bx, come (fun z => left z && !z.sameKey (.int .i64 x)) bs = come left bs + manyOf x bs
  | [] => rfl
  | b :: bs => by
    have ih := come_next hx bs
    unfold come manyOf at *
    simp only [List.countP_cons, ih]
    by_cases e : b.k = x
    · simp [e, hx, WideAt.sameKey_self (key_lit x)]
      omega
    · have h1 : (Lit.int IntKind.i64 b.k).sameKey (.int .i64 x) = false := Maps.sameKey_ne (by intro he; injection he with _ he; exact e he)
      simp [h1, e]
      omega

theorem count_of {D : DataW Unit} {bs : List Bx} (h : CountD D bs) {x c : Int} (hx : (Lit.int .i64 x).wf = true) (hc : ∀ zd, D.atKey (.int .i64 x) zd = .lit (.int .i64 c)) : c = manyOf x bs ∧ 1 ≤ c := by
  have h0 := hc (.lit (.int .i64 (c + 1)))
  rw [h.2.1 _ hx] at h0
  split at h0
  · injection h0 with h0; injection h0 with _ h0
    omega
  · rename_i hm
    injection h0 with h0; injection h0 with _ h0
    omega

theorem many_take (x : Int) (bs : List Bx) (k : Nat) (h : k < bs.length) : manyOf x (bs.take (k + 1)) = manyOf x (bs.take k) + (if (bs.getD k noB).k = x then 1 else 0) := by
  rw [takeB_next bs k h, many_snoc]

set_option maxRecDepth 100000 in
set_option maxHeartbeats 2000000 in
theorem counts_few (hS : SpeaksOk) (hC : CountOk) (A : Option Addr) (n c : Nat) (bs : List Bx) (w : World) (hn : n = bs.length) (h60 : n ≤ 60) (hx : Boxes w w.heap.size A bs) (hk : ∀ b ∈ bs, (Lit.int .i64 b.k).wf = true) :
    Calls Try.prog 5 #[.slice A n c] w fun e w' => e = .returned (.bool true) ∧ Below w.heap.size w w' := by
  have HX := Lib.hid hx
  have HN := Lib.hid hn
  have HK := Lib.hid hk
  have HS := Lib.hid hS
  have HC := Lib.hid hC
  clear hx hn hk hS hC
  go_enter Try.func5, Try.ntmps5
  go_wp2_with fail
  refine (HS.out _).mono ?_; rintro e w1 ⟨rfl, k1⟩
  have K1 := Lib.hid k1
  have HX1 := Lib.hid (HX.out.thru k1)
  clear k1
  go_wp2_with fail
  refine (ofs_any A n c bs w1 HN.out (by omega) HX1.out).mono ?_; rintro e w2 ⟨⟨A2, c2, rfl, m2⟩, k2⟩
  have K2 := Lib.hid (thru K1.out k2)
  have M2 := Lib.hid m2
  clear k2 m2
  go_wp2_with fail
  refine (HC.out A2 n c2 bs w2 HN.out (by omega) M2.out.boxes HK.out).mono ?_; rintro e w3 ⟨⟨b, D, hb, rfl, hown, hD⟩, k3⟩
  have K3 := Lib.hid (thru K2.out k3)
  have HO := Lib.hid hown
  have HD := Lib.hid hD
  have HBb : Hid (w.heap.size ≤ b) := Lib.hid (Nat.le_trans K2.out.size hb)
  clear k3 hown hD hb
  go_wp2_with (first | (at_range; refine wpList_range_own _ rfl _ 42 rfl 3 3 keyed Try.underlying42 (plainElem Try.prog 3) b n D rfl HO.out ?_; intro w4 hr4 hg4 hs4; have K4 := Lib.hid (K3.out.grown hg4 K3.out.size (fun j e => by cases e)); have HR4 := Lib.hid hr4; clear hr4 hg4))
  go_frame
  go_loopw [4] (fun s wr => ∃ left cnt, ∃ q : Nat, s = .int .i64 (q : Int) ∧ Hid (q = come left bs ∧ wr.ranges Try.prog 3 (plainElem Try.prog 3) b w3.heap.size n D left cnt ∧ Below w.heap.size w wr ∧ w3.heap.size < wr.heap.size)) (fun _ wr => wr.rangeLeft b w3.heap.size)
  case atStart => exact ⟨_, _, 0, rfl, Lib.hid ⟨(come_start HD.out HK.out).symm, HR4.out, K4.out, by omega⟩⟩
  case round =>
    obtain ⟨left, cnt, q, rfl, H⟩ := hrel
    obtain ⟨wo, hwo⟩ : ∃ x, x = wr := ⟨_, rfl⟩
    subst hwo
    clear K4 HR4
    have hq60 : q ≤ 60 := by
      have h1 := H.out.1
      have h2 : come left bs ≤ bs.length := List.countP_le_length
      have := HN.out
      omega
    go_wp2_with (first | (at_next; refine wpList_next_ranges_ii _ rfl _ rfl 3 3 .i64 .i64 keyed Try.underlying3 Try.underlying3 b w3.heap.size n D left cnt rfl H.out.2.1 ?done ?more))
    case done =>
      intro h0 hall
      have hq : q = n := by rw [H.out.1, come_end hall]; exact HN.out.symm
      subst hq
      go_wp2_with fail
      go_ret
      exact ⟨rfl, H.out.2.2.1⟩
    case more =>
      intro x c' w5 cnt' hx hc hleft hat hr5 hlt hg5 hs5 hen
      have HCo := Lib.hid (count_of HD.out hx hat)
      have HR5 := Lib.hid hr5
      have HNx := Lib.hid (come_next hleft bs)
      have HLt : Hid (w5.rangeLeft b w3.heap.size < wo.rangeLeft b w3.heap.size) := Lib.hid (by rw [hr5.left_eq, H.out.2.1.left_eq]; exact hlt)
      have K5 : Hid (Below w.heap.size w w5) := Lib.hid (H.out.2.2.1.grown hg5 H.out.2.2.1.size (fun j e => by cases e; exact K3.out.size))
      have HS5 := Lib.hid hs5
      clear hat hr5 hg5 hs5 hlt hc
      go_wp2_with fail
      go_loopw [7, 30] (fun v i wz => ∃ j m : Nat, j ≤ n ∧ v = .int .i64 (m : Int) ∧ i = .int .i64 (j : Int) ∧ Hid (m = manyOf x (bs.take j) ∧ Below w5.heap.size w5 wz)) (fun _ i _ => n - (intOf i).toNat)
      case atStart => exact ⟨0, 0, by omega, rfl, rfl, Lib.hid ⟨rfl, Below.refl _ _⟩⟩
      case round =>
        obtain ⟨j, m, hj, rfl, rfl, G⟩ := hrel
        by_cases hlj : j < n
        · obtain ⟨ad, hA, _, hcx⟩ := ((HX.out.below K5.out).below (G.out.2.mono K5.out.size)) j (by rw [← HN.out]; exact hlj)
          subst hA
          have hm60 : m ≤ 60 := by
            have h1 := G.out.1
            have h2 := many_le x (bs.take j)
            rw [List.length_take] at h2
            omega
          have HT := Lib.hid (many_take x bs j (by rw [← HN.out]; exact hlj))
          generalize bs.getD j noB = y at hcx HT
          obtain ⟨c0, c1, c2, c3, c4, c5, c6, c7, c8, c9, c10, c11, c12, c13⟩ := hcx
          by_cases hy : y.k = x
          · have hyb : (y.k == x) = true := by simp [hy]
            have HT2 : Hid (manyOf x (bs.take (j + 1)) = manyOf x (bs.take j) + 1) := Lib.hid (by rw [HT.out, if_pos hy])
            go_wp2_with fail
            go_roundw
            case rel => exact ⟨j + 1, m + 1, by omega, by go_num, by go_num, Lib.hid ⟨by rw [HT2.out, ← G.out.1], G.out.2.alloc G.out.2.size _⟩⟩
            case measure => simp [intOf]; omega
          · have hyb : (y.k == x) = false := by simp [hy]
            have HT2 : Hid (manyOf x (bs.take (j + 1)) = manyOf x (bs.take j)) := Lib.hid (by rw [HT.out, if_neg hy]; rfl)
            go_wp2_with fail
            go_roundw
            case rel => exact ⟨j + 1, m, by omega, rfl, by go_num, Lib.hid ⟨by rw [HT2.out, ← G.out.1], G.out.2.alloc G.out.2.size _⟩⟩
            case measure => simp [intOf]; omega
        · obtain rfl : j = n := by omega
          have ht : bs.take j = bs := List.take_of_length_le (by rw [← HN.out]; omega)
          have hcm : c' = (m : Int) ∧ 1 ≤ (m : Int) := by
            have h1 := HCo.out
            have h2 := G.out.1
            rw [ht] at h2
            rw [← h2] at h1
            omega
          have hm60 : m ≤ 60 := by
            have h2 := many_le x bs
            have h1 := G.out.1
            rw [ht] at h1
            have := HN.out
            omega
          have HM : Hid (come left bs + manyOf x bs = q + m) := Lib.hid (by rw [← H.out.1, G.out.1, ht])
          obtain ⟨rfl, hm1⟩ := hcm
          go_wp2_with fail
          go_roundw
          case rel => exact ⟨_, cnt', q + m, by go_num, Lib.hid ⟨by rw [HNx.out, HM.out], HR5.out.kept (grown_of_below (G.out.2)) (by simp) (by simp), thru K5.out G.out.2, by have := G.out.2.size; have := HS5.out; have := H.out.2.2.2; omega⟩⟩
          case measure =>
            show wr.rangeLeft b w3.heap.size < wo.rangeLeft b w3.heap.size
            rw [(HR5.out.kept (grown_of_below (G.out.2)) (by simp) (by simp)).left_eq]
            have h := HLt.out
            rwa [HR5.out.left_eq] at h

set_option maxRecDepth 100000 in
set_option maxHeartbeats 1000000 in
theorem counts_long (hS : SpeaksOk) (A : Option Addr) (n c : Nat) (w : World) (h60 : ¬ n ≤ 60) :
    Calls Try.prog 5 #[.slice A n c] w fun e w' => e = .returned (.bool true) ∧ Below w.heap.size w w' := by
  have HS := Lib.hid hS
  clear hS
  have h61 : (60 : Int) < (n : Int) := by omega
  go_enter Try.func5, Try.ntmps5
  go_wp2_with fail
  refine (HS.out _).mono ?_; rintro e w1 ⟨rfl, k1⟩
  go_wp2_with fail
  refine (HS.out _).mono ?_; rintro e w2 ⟨rfl, k2⟩
  go_wp2_with fail
  go_ret
  exact ⟨rfl, thru k1 k2⟩

theorem counts_any (hS : SpeaksOk) (hC : CountOk) (A : Option Addr) (n c : Nat) (bs : List Bx) (w : World) (hn : n = bs.length) (hx : Boxes w w.heap.size A bs) (hk : ∀ b ∈ bs, (Lit.int .i64 b.k).wf = true) :
    Calls Try.prog 5 #[.slice A n c] w fun e w' => e = .returned (.bool true) ∧ Below w.heap.size w w' := by
  by_cases h60 : n ≤ 60
  · exact counts_few hS hC A n c bs w hn h60 hx hk
  · exact counts_long hS A n c w h60

end Go.Proofs.Ytleikbpikmineaa.Script
