/- Sums of many. -/
import Derived.Test.YtceanfocgdnnaaaNests
namespace Go.Proofs.Ytceanfocgdnnaaa
open Go.RowKit

/-- One number after the other added to s, up to the first time that something goes over. -/
def sumFrom (s : Int) : List Int → Bool × Int
  | [] => (true, s)
  | n :: l => if sumFits s n then sumFrom (s + n) l else (false, s)

theorem sumFrom_append (l m : List Int) : ∀ s, sumFrom s (l ++ m) = if (sumFrom s l).1 then sumFrom (sumFrom s l).2 m else sumFrom s l := by
  induction l with
  | nil => intro s; simp [sumFrom]
  | cons n l ih =>
    intro s
    simp only [List.cons_append, sumFrom]
    split
    · exact ih _
    · simp

theorem take_snoc (xs : List Int) (k : Nat) (h : k < xs.length) : xs.take (k + 1) = xs.take k ++ [xs.getD k 0] := by
  rw [List.take_succ_eq_append_getElem h]; simp [List.getD, h]

theorem sumFrom_step {s : Int} (xs : List Int) (k : Nat) (h : k < xs.length) (e : sumFrom 0 (xs.take k) = (true, s)) :
    sumFrom 0 (xs.take (k + 1)) = if sumFits s (xs.getD k 0) then (true, s + xs.getD k 0) else (false, s) := by
  rw [take_snoc xs k h, sumFrom_append, e]
  simp [sumFrom]

theorem sumFrom_stop {s : Int} (xs : List Int) (k : Nat) (e : sumFrom 0 (xs.take k) = (false, s)) : sumFrom 0 xs = (false, s) := by
  rw [← List.take_append_drop k xs, sumFrom_append, e]; simp

theorem block_of_add (a : Addr) (n : Nat) : (a.add n).block = a.block := by unfold Addr.add; split <;> rfl

/-- The numbers of a slice, below block B. -/
def Nums (w : World) (B : Nat) (A : Option Addr) (xs : List Int) : Prop :=
  ∀ k, k < xs.length → ∃ ad : Addr, A = some ad ∧ ad.block < B ∧ w.cell? (ad.add k) = some (.int .i64 (xs.getD k 0))

theorem Nums.kp {w w' : World} {B : Nat} {A : Option Addr} {xs : List Int} (h : Nums w B A xs) (k : Kp B w w') : Nums w' B A xs := fun i hi => by
  obtain ⟨ad, e, hb, hc⟩ := h i hi
  exact ⟨ad, e, hb, by rw [k.1.cell (by rw [block_of_add]; exact hb)]; exact hc⟩

theorem Nums.more {w : World} {B C : Nat} {A : Option Addr} {xs : List Int} (h : Nums w B A xs) (hc : B ≤ C) : Nums w C A xs := fun i hi => by
  obtain ⟨ad, e, hb, hx⟩ := h i hi
  exact ⟨ad, e, by omega, hx⟩

/-- What a sum's doing leaves. -/
def SumQ (xs : List Int) (bs : Nat) (w : World) (ok : Bool) (w' : World) : Prop :=
  Kp bs w w' ∧ (∀ q, bs < q → q < w.heap.size → w'.cell? ⟨q, 0, none⟩ = w.cell? ⟨q, 0, none⟩) ∧
    ∃ s, sumFrom 0 xs = (ok, s) ∧ w'.cell? ⟨bs, 0, none⟩ = some (.int .i64 s)

theorem sumQ_set {bs : Nat} {w wr : World} (x : Int) (hk : Kp bs w wr) (hq : ∀ q, bs < q → q < w.heap.size → wr.cell? ⟨q, 0, none⟩ = w.cell? ⟨q, 0, none⟩) :
    Kp bs w (wr.setCell ⟨bs, 0, none⟩ (.int .i64 x)) ∧ (∀ q, bs < q → q < w.heap.size → (wr.setCell ⟨bs, 0, none⟩ (.int .i64 x)).cell? ⟨q, 0, none⟩ = w.cell? ⟨q, 0, none⟩) :=
  ⟨hk.setCell (Nat.le_refl _) _, fun q h1 h2 => by rw [World.cell?_setCell_other _ _ _ _ (ne_addr (by omega))]; exact hq q h1 h2⟩

set_option maxHeartbeats 400000 in
theorem sum_do (bl bs : Nat) (A : Option Addr) (len cap : Nat) (xs : List Int) (w : World) (hlen : len = xs.length) (hm : len ≤ 9223372036854775807)
    (hl : w.cell? ⟨bl, 0, none⟩ = some (.slice A len cap)) (hs : w.cell? ⟨bs, 0, none⟩ = some (.int .i64 0)) (hf : w.frozen? ⟨bs, 0, none⟩ = false)
    (hx : Nums w bs A xs) :
    Calls Try.prog 23 #[.pointer (some ⟨bl, 0, none⟩), .pointer (some ⟨bs, 0, none⟩)] w fun e w' =>
      ∃ ok, e = (if ok then .returned (.tuple #[]) else .panicked [overEntry]) ∧ SumQ xs bs w ok w' := by
  have HL := Lib.hid hlen
  have HX := Lib.hid hx
  clear hlen hx
  go_enter Try.func23, Try.ntmps23
  go_wp2_with fail
  go_loopw [6] (fun i wr => ∃ k : Nat, ∃ s : Int, k ≤ len ∧ i = .int .i64 k ∧ sumFrom 0 (xs.take k) = (true, s) ∧ wr.cell? ⟨bs, 0, none⟩ = some (.int .i64 s) ∧ Kp bs w wr ∧
    (∀ q, bs < q → q < w.heap.size → wr.cell? ⟨q, 0, none⟩ = w.cell? ⟨q, 0, none⟩)) (fun i _ => len - (intOf i).toNat)
  case atStart => exact ⟨0, 0, Nat.zero_le _, rfl, rfl, hs, Kp.refl _ _, fun _ _ _ => rfl⟩
  case round =>
    obtain ⟨k, s, hk, rfl, he, hc, hkp, hq⟩ := hrel
    have hfr : wr.frozen? ⟨bs, 0, none⟩ = false := by rw [hkp.2]; exact hf
    have HE := Lib.hid he
    have HQ := Lib.hid hq
    clear he hq
    by_cases hlt : k < len
    · obtain ⟨ad, hA, hb, hcx⟩ := (HX.out.kp hkp) k (by rw [← HL.out]; exact hlt)
      subst hA
      obtain ⟨n, hn⟩ : ∃ n, n = xs.getD k 0 := ⟨_, rfl⟩
      rw [← hn] at hcx
      have HN := Lib.hid hn
      clear hn
      by_cases hfit : sumFits s n
      · go_wp2_with fail
        refine (plus_yes _ _ hfit _).mono ?_; rintro e w' ⟨rfl, rfl⟩
        go_wp2_with fail
        go_roundw
        case rel =>
          refine ⟨k + 1, s + n, by omega, by go_num, ?_, World.cell?_setCell_same _ _ _ hc, (sumQ_set _ hkp HQ.out).1, (sumQ_set _ hkp HQ.out).2⟩
          rw [sumFrom_step xs k (by rw [← HL.out]; exact hlt) HE.out, ← HN.out, if_pos hfit]
        case measure => simp [intOf]; omega
      · go_wp2_with fail
        refine (plus_no _ _ hfit _).mono ?_; rintro e w' ⟨rfl, rfl⟩
        go_wp2_with fail
        refine ⟨rfl, false, rfl, hkp, HQ.out, s, ?_, hc⟩
        refine sumFrom_stop xs (k + 1) ?_
        rw [sumFrom_step xs k (by rw [← HL.out]; exact hlt) HE.out, ← HN.out, if_neg hfit]
    · go_wp2_with fail
      go_end0
      refine ⟨true, rfl, hkp, HQ.out, s, ?_, hc⟩
      have := HE.out
      rwa [List.take_of_length_le (by have := HL.out; omega)] at this

theorem enter23 (args : Array Value) (w : World) : (callFunc 23 args).run Try.prog w = .ok (.enter 23 args) w := by
  simp [go_sem]

theorem sum_try (bl bs : Nat) (A : Option Addr) (len cap : Nat) (xs : List Int) (w : World) (hlen : len = xs.length) (hm : len ≤ 9223372036854775807)
    (hl : w.cell? ⟨bl, 0, none⟩ = some (.slice A len cap)) (hs : w.cell? ⟨bs, 0, none⟩ = some (.int .i64 0)) (hf : w.frozen? ⟨bs, 0, none⟩ = false)
    (hx : Nums w bs A xs) :
    Calls Try.prog 15 #[.func (.func 23) #[] #[.pointer (some ⟨bl, 0, none⟩), .pointer (some ⟨bs, 0, none⟩)]] w fun e w' =>
      e = .returned (.int .i64 (if (sumFrom 0 xs).1 then 0 else 13)) ∧ Kp bs w w' ∧ w'.cell? ⟨bs, 0, none⟩ = some (.int .i64 (sumFrom 0 xs).2) := by
  have ll := World.block_lt_of_cell? _ _ hl
  have ls := World.block_lt_of_cell? _ _ hs
  have past : ∀ q, q < w.heap.size → (w.alloc (.cells #[.int .i64 0] 29)).cell? ⟨q, 0, none⟩ = w.cell? ⟨q, 0, none⟩ := fun q h => World.cell?_alloc_past _ _ _ h
  have fz : ∀ q, q < w.heap.size → (w.alloc (.cells #[.int .i64 0] 29)).frozen? ⟨q, 0, none⟩ = w.frozen? ⟨q, 0, none⟩ := fun q h => World.frozen?_alloc_past _ _ _ h
  simp only at ll ls
  have k1 : Kp bs w (w.alloc (.cells #[.int .i64 0] 29)) := (Kp.refl _ _).alloc (by omega) _ _
  refine (try_any 23 _ w (SumQ xs bs (w.alloc (.cells #[.int .i64 0] 29))) (enter23 _)
    ((sum_do bl bs A len cap xs _ hlen hm (by rw [past _ ll]; exact hl) (by rw [past _ ls]; exact hs) (by rw [fz _ ls]; exact hf) (hx.kp k1)).mono ?_)).mono ?_
  · rintro e w1 ⟨ok, rfl, hq⟩
    obtain ⟨h2, h5, h6⟩ := id hq
    refine ⟨ok, hq, rfl, ?_, ?_, ?_⟩
    · have := h2.size; simp at this; omega
    · rw [h5 _ ls (by simp)]; simp [go_sem]
    · rw [h2.2]; simp
  · rintro e w' ⟨ok, w1, ⟨h2, h4, s, h5, h6⟩, rfl, rfl⟩
    have k0 : Kp bs w w1 := k1.trans h2
    have hz := h2.size
    simp at hz
    refine ⟨by rw [h5], ?_, ?_⟩
    · split
      · exact k0.setCell (show bs ≤ w.heap.size by omega) _
      · exact (k0.setCell (show bs ≤ w.heap.size by omega) _).alloc (by simp; omega) _ _
    · rw [h5]
      split
      · rw [World.cell?_setCell_other _ _ _ _ (ne_addr (by omega))]; exact h6
      · rw [World.cell?_alloc_past _ _ _ (by show _ < (w1.setCell _ _).heap.size; rw [World.size_setCell]; omega), World.cell?_setCell_other _ _ _ _ (ne_addr (by omega))]; exact h6

/-- What Sum answers. -/
def sumV (xs : List Int) : Value := .tuple #[.int .i64 (if (sumFrom 0 xs).1 then (sumFrom 0 xs).2 else 0), .bool (sumFrom 0 xs).1]

theorem sumV_yes {xs : List Int} (h : (sumFrom 0 xs).1 = true) : sumV xs = .tuple #[.int .i64 (sumFrom 0 xs).2, .bool true] := by simp [sumV, h]
theorem sumV_no {xs : List Int} (h : (sumFrom 0 xs).1 = false) : sumV xs = .tuple #[.int .i64 0, .bool false] := by simp [sumV, h]

set_option maxHeartbeats 400000 in
theorem sum_any (A : Option Addr) (len cap : Nat) (xs : List Int) (w : World) (hlen : len = xs.length) (hm : len ≤ 9223372036854775807)
    (hx : Nums w w.heap.size A xs) :
    Calls Try.prog 13 #[.slice A len cap] w fun e w' => e = .returned (sumV xs) ∧ Kp w.heap.size w w' := by
  have hmf : ∀ (fn : Fn) (first cap : Array Value) (w : World), (Instr.makeFunc fn first cap).run Try.prog w = .ok (.func fn first cap) w := fun _ _ _ _ => rfl
  have HL := Lib.hid hlen
  have K0 : Kp w.heap.size w ((w.alloc (.cells #[.slice A len cap] 22)).alloc (.cells #[.int .i64 0] 3)) := ((Kp.refl _ _).alloc (Nat.le_refl _) _ _).alloc (by simp) _ _
  have HX := Lib.hid ((hx.kp K0).more (show w.heap.size ≤ w.heap.size + 1 by omega))
  clear hlen hx
  go_enter Try.func13, Try.ntmps13
  go_wp2_with fail
  refine (sum_try w.heap.size (w.heap.size + 1) A len cap xs _ HL.out hm ?_ ?_ ?_ HX.out).mono ?_
  all_goals try (simp [go_sem]; done)
  rintro e w1 ⟨rfl, hk, hc⟩
  have K1 := Lib.hid (K0.trans (hk.mono (by omega)))
  clear K0 hk
  cases h : (sumFrom 0 xs).1
  · have H := Lib.hid (sumV_no h)
    clear h
    go_wp2_with fail
    go_ret2
    exact ⟨by rw [H.out]; rfl, K1.out⟩
  · have H := Lib.hid (sumV_yes h)
    clear h
    go_wp2_with fail
    go_ret2
    exact ⟨by rw [H.out]; rfl, K1.out⟩

set_option maxHeartbeats 400000 in
theorem rsum_any (A : Option Addr) (len cap : Nat) (xs : List Int) (w : World) (hlen : len = xs.length) (hm : len ≤ 9223372036854775807)
    (hx : Nums w w.heap.size A xs) :
    Calls Try.prog 14 #[.slice A len cap] w fun e w' => e = .returned (sumV xs) ∧ w = w' := by
  have HL := Lib.hid hlen
  have HX := Lib.hid hx
  clear hlen hx
  go_enter Try.func14, Try.ntmps14
  go_wp2_with fail
  go_loop [4, 5] (fun v i => ∃ k : Nat, ∃ s : Int, k ≤ len ∧ i = .int .i64 k ∧ v = .int .i64 s ∧ sumFrom 0 (xs.take k) = (true, s)) (fun _ i => len - (intOf i).toNat)
  case atStart => exact ⟨0, 0, Nat.zero_le _, rfl, rfl, rfl⟩
  case round =>
    obtain ⟨k, s, hk, rfl, rfl, he⟩ := hrel
    have HE := Lib.hid he
    clear he
    by_cases hlt : k < len
    · obtain ⟨ad, hA, hb, hcx⟩ := HX.out k (by rw [← HL.out]; exact hlt)
      subst hA
      obtain ⟨n, hn⟩ : ∃ n, n = xs.getD k 0 := ⟨_, rfl⟩
      rw [← hn] at hcx
      have HN := Lib.hid hn
      clear hn
      by_cases hfit : sumFits s n
      · go_wp2_with fail
        refine (radd_any _ _ _).mono ?_; rw [addV_yes hfit]; rintro e w' ⟨rfl, rfl⟩
        go_wp2_with fail
        go_round
        case rel =>
          refine ⟨k + 1, s + n, by omega, by go_num, rfl, ?_⟩
          rw [sumFrom_step xs k (by rw [← HL.out]; exact hlt) HE.out, ← HN.out, if_pos hfit]
        case measure => simp [intOf]; omega
      · go_wp2_with fail
        refine (radd_any _ _ _).mono ?_; rw [addV_no hfit]; rintro e w' ⟨rfl, rfl⟩
        go_wp2_with fail
        go_ret2
        have e2 := sumFrom_stop (s := s) xs (k + 1) (by rw [sumFrom_step xs k (by rw [← HL.out]; exact hlt) HE.out, ← HN.out, if_neg hfit])
        exact ⟨by rw [sumV_no (by rw [e2])]; rfl, rfl⟩
    · go_wp2_with fail
      go_ret2
      have e2 := HE.out
      rw [List.take_of_length_le (by have := HL.out; omega)] at e2
      exact ⟨by rw [sumV_yes (by rw [e2]), e2]; rfl, rfl⟩

end Go.Proofs.Ytceanfocgdnnaaa
