/- What is reckoned within a Try, up to the first time that something goes over. -/
import Derived.Test.YtceanfocgdnnaaaSum
namespace Go.Proofs.Ytceanfocgdnnaaa
open Go.RowKit

/-- May this step be: s with n added, or taken away? -/
def stepFits (m : Bool) (s n : Int) : Prop := if m then diffFits s n else sumFits s n
instance (m : Bool) (s n : Int) : Decidable (stepFits m s n) := by unfold stepFits; exact inferInstance
def stepTo (m : Bool) (s n : Int) : Int := if m then s - n else s + n

/-- One step after the other: whether all may be, the last number, and how many steps were done. -/
def runFrom (m : Bool) (s : Int) (d : Nat) : List Int → Bool × Int × Nat
  | [] => (true, s, d)
  | n :: l => if stepFits m s n then runFrom m (stepTo m s n) (d + 1) l else (false, s, d)

theorem runFrom_append (m : Bool) (l r : List Int) : ∀ s d, runFrom m s d (l ++ r) = if (runFrom m s d l).1 then runFrom m (runFrom m s d l).2.1 (runFrom m s d l).2.2 r else runFrom m s d l := by
  induction l with
  | nil => intro s d; simp [runFrom]
  | cons n l ih =>
    intro s d
    simp only [List.cons_append, runFrom]
    split
    · exact ih _ _
    · simp

theorem runFrom_step {m : Bool} {s : Int} {d : Nat} (xs : List Int) (k : Nat) (h : k < xs.length) (e : runFrom m 0 0 (xs.take k) = (true, s, d)) :
    runFrom m 0 0 (xs.take (k + 1)) = if stepFits m s (xs.getD k 0) then (true, stepTo m s (xs.getD k 0), d + 1) else (false, s, d) := by
  rw [take_snoc xs k h, runFrom_append, e]
  simp [runFrom]

theorem runFrom_stop {m : Bool} {s : Int} {d : Nat} (xs : List Int) (k : Nat) (e : runFrom m 0 0 (xs.take k) = (false, s, d)) : runFrom m 0 0 xs = (false, s, d) := by
  rw [← List.take_append_drop k xs, runFrom_append, e]; simp

/-- What the doing leaves. -/
def TriesQ (m : Bool) (xs : List Int) (ps pd pa : Nat) (w : World) (ok : Bool) (w' : World) : Prop :=
  Kp ps w w' ∧ (∀ q, pa < q → q < w.heap.size → w'.cell? ⟨q, 0, none⟩ = w.cell? ⟨q, 0, none⟩) ∧
    ∃ s d, runFrom m 0 0 xs = (ok, s, d) ∧ w'.cell? ⟨ps, 0, none⟩ = some (.int .i64 s) ∧ w'.cell? ⟨pd, 0, none⟩ = some (.int .i64 (d : Nat)) ∧ w'.cell? ⟨pa, 0, none⟩ = some (.bool ok)

set_option maxHeartbeats 800000 in
theorem tries_plus (pl pm ps pd pa : Nat) (A : Option Addr) (len cap : Nat) (xs : List Int) (w : World) (hlen : len = xs.length) (hm : len ≤ 9223372036854775807)
    (hl : w.cell? ⟨pl, 0, none⟩ = some (.slice A len cap)) (hmi : w.cell? ⟨pm, 0, none⟩ = some (.bool false))
    (hs : w.cell? ⟨ps, 0, none⟩ = some (.int .i64 0)) (hd : w.cell? ⟨pd, 0, none⟩ = some (.int .i64 0)) (ha : w.cell? ⟨pa, 0, none⟩ = some (.bool false))
    (fs : w.frozen? ⟨ps, 0, none⟩ = false) (fd : w.frozen? ⟨pd, 0, none⟩ = false) (fa : w.frozen? ⟨pa, 0, none⟩ = false)
    (l2 : pm < ps) (l3 : ps < pd) (l4 : pd < pa) (hx : Nums w ps A xs) :
    Calls Try.prog 16 #[.pointer (some ⟨pl, 0, none⟩), .pointer (some ⟨pm, 0, none⟩), .pointer (some ⟨ps, 0, none⟩), .pointer (some ⟨pd, 0, none⟩), .pointer (some ⟨pa, 0, none⟩)] w fun e w' =>
      ∃ ok, e = (if ok then .returned (.tuple #[]) else .panicked [overEntry]) ∧ TriesQ false xs ps pd pa w ok w' := by
  have HL := Lib.hid hlen
  have HX := Lib.hid hx
  clear hlen hx
  have n1 : ¬ ps = pd := by omega
  have n2 : ¬ ps = pa := by omega
  have n3 : ¬ pd = pa := by omega
  have n4 : ¬ ps = pm := by omega
  have n5 : ¬ pd = pm := by omega
  go_enter Try.func16, Try.ntmps16
  go_wp2_with fail
  go_loopw [9] (fun i wr => ∃ k : Nat, ∃ s : Int, k ≤ len ∧ i = .int .i64 k ∧ runFrom false 0 0 (xs.take k) = (true, s, k) ∧ wr.cell? ⟨ps, 0, none⟩ = some (.int .i64 s) ∧
    wr.cell? ⟨pd, 0, none⟩ = some (.int .i64 (k : Nat)) ∧ Kp ps w wr ∧ wr.cell? ⟨pa, 0, none⟩ = some (.bool false) ∧
    (∀ q, pa < q → q < w.heap.size → wr.cell? ⟨q, 0, none⟩ = w.cell? ⟨q, 0, none⟩)) (fun i _ => len - (intOf i).toNat)
  case atStart => exact ⟨0, 0, Nat.zero_le _, rfl, rfl, hs, hd, Kp.refl _ _, ha, fun _ _ _ => rfl⟩
  case round =>
    obtain ⟨k, s, hk, rfl, he, hc, hcd, hkp, hca, hq⟩ := hrel
    have f1 : wr.frozen? ⟨ps, 0, none⟩ = false := by rw [hkp.2]; exact fs
    have f2 : wr.frozen? ⟨pd, 0, none⟩ = false := by rw [hkp.2]; exact fd
    have f3 : wr.frozen? ⟨pa, 0, none⟩ = false := by rw [hkp.2]; exact fa
    have cm : wr.cell? ⟨pm, 0, none⟩ = some (.bool false) := by rw [hkp.cell _ _ l2]; exact hmi
    have HE := Lib.hid he
    have HQ := Lib.hid hq
    clear he hq
    by_cases hlt : k < len
    · obtain ⟨ad, hA, hb, hcx⟩ := (HX.out.kp hkp) k (by rw [← HL.out]; exact hlt)
      subst hA
      obtain ⟨n, hn⟩ : ∃ n, n = xs.getD k 0 := ⟨_, rfl⟩
      rw [← hn] at hcx
      have HN := Lib.hid hn
      clear hn
      by_cases hfit : sumFits s n
      · go_wp2_with fail
        refine (plus_yes _ _ hfit _).mono ?_; rintro e w' ⟨rfl, rfl⟩
        go_wp2_with fail
        go_roundw
        case rel =>
          refine ⟨k + 1, s + n, by omega, by go_num, ?_, ?_, ?_, ?_, ?_, ?_⟩
          · rw [runFrom_step xs k (by rw [← HL.out]; exact hlt) HE.out, ← HN.out, if_pos (by simpa [stepFits] using hfit)]; rfl
          · rw [World.cell?_setCell_other _ _ _ _ (ne_addr (by omega))]; exact World.cell?_setCell_same _ _ _ hc
          · rw [World.cell?_setCell_same _ _ _ (by rw [World.cell?_setCell_other _ _ _ _ (ne_addr (by omega))]; exact hcd)]; simp
          · exact (hkp.setCell (Nat.le_refl _) _).setCell (show ps ≤ pd by omega) _
          · rw [World.cell?_setCell_other _ _ _ _ (ne_addr (by omega)), World.cell?_setCell_other _ _ _ _ (ne_addr (by omega))]; exact hca
          · intro q h1 h2
            rw [World.cell?_setCell_other _ _ _ _ (ne_addr (by omega)), World.cell?_setCell_other _ _ _ _ (ne_addr (by omega))]; exact HQ.out q h1 h2
        case measure => simp [intOf]; omega
      · go_wp2_with fail
        refine (plus_no _ _ hfit _).mono ?_; rintro e w' ⟨rfl, rfl⟩
        go_wp2_with fail
        refine ⟨rfl, false, rfl, hkp, HQ.out, s, k, ?_, hc, hcd, hca⟩
        refine runFrom_stop xs (k + 1) ?_
        rw [runFrom_step xs k (by rw [← HL.out]; exact hlt) HE.out, ← HN.out, if_neg (by simpa [stepFits] using hfit)]
    · go_wp2_with fail
      go_end0
      refine ⟨true, rfl, hkp.setCell (show ps ≤ pa by omega) _, ?_, s, k, ?_, ?_, ?_, ?_⟩
      · intro q h1 h2
        rw [World.cell?_setCell_other _ _ _ _ (ne_addr (by omega))]; exact HQ.out q h1 h2
      · have := HE.out
        rwa [List.take_of_length_le (by have := HL.out; omega)] at this
      · rw [World.cell?_setCell_other _ _ _ _ (ne_addr (by omega))]; exact hc
      · rw [World.cell?_setCell_other _ _ _ _ (ne_addr (by omega))]; exact hcd
      · exact World.cell?_setCell_same _ _ _ hca

set_option maxHeartbeats 800000 in
theorem tries_minus (pl pm ps pd pa : Nat) (A : Option Addr) (len cap : Nat) (xs : List Int) (w : World) (hlen : len = xs.length) (hm : len ≤ 9223372036854775807)
    (hl : w.cell? ⟨pl, 0, none⟩ = some (.slice A len cap)) (hmi : w.cell? ⟨pm, 0, none⟩ = some (.bool true))
    (hs : w.cell? ⟨ps, 0, none⟩ = some (.int .i64 0)) (hd : w.cell? ⟨pd, 0, none⟩ = some (.int .i64 0)) (ha : w.cell? ⟨pa, 0, none⟩ = some (.bool false))
    (fs : w.frozen? ⟨ps, 0, none⟩ = false) (fd : w.frozen? ⟨pd, 0, none⟩ = false) (fa : w.frozen? ⟨pa, 0, none⟩ = false)
    (l2 : pm < ps) (l3 : ps < pd) (l4 : pd < pa) (hx : Nums w ps A xs)
    (hbn : ∀ n ∈ xs, -9223372036854775808 ≤ n ∧ n ≤ 9223372036854775807) :
    Calls Try.prog 16 #[.pointer (some ⟨pl, 0, none⟩), .pointer (some ⟨pm, 0, none⟩), .pointer (some ⟨ps, 0, none⟩), .pointer (some ⟨pd, 0, none⟩), .pointer (some ⟨pa, 0, none⟩)] w fun e w' =>
      ∃ ok, e = (if ok then .returned (.tuple #[]) else .panicked [overEntry]) ∧ TriesQ true xs ps pd pa w ok w' := by
  have HL := Lib.hid hlen
  have HX := Lib.hid hx
  have HBN := Lib.hid hbn
  clear hlen hx hbn
  have n1 : ¬ ps = pd := by omega
  have n2 : ¬ ps = pa := by omega
  have n3 : ¬ pd = pa := by omega
  have n4 : ¬ ps = pm := by omega
  have n5 : ¬ pd = pm := by omega
  go_enter Try.func16, Try.ntmps16
  go_wp2_with fail
  go_loopw [9] (fun i wr => ∃ k : Nat, ∃ s : Int, k ≤ len ∧ i = .int .i64 k ∧ runFrom true 0 0 (xs.take k) = (true, s, k) ∧ wr.cell? ⟨ps, 0, none⟩ = some (.int .i64 s) ∧
    wr.cell? ⟨pd, 0, none⟩ = some (.int .i64 (k : Nat)) ∧ Kp ps w wr ∧ wr.cell? ⟨pa, 0, none⟩ = some (.bool false) ∧
    (∀ q, pa < q → q < w.heap.size → wr.cell? ⟨q, 0, none⟩ = w.cell? ⟨q, 0, none⟩)) (fun i _ => len - (intOf i).toNat)
  case atStart => exact ⟨0, 0, Nat.zero_le _, rfl, rfl, hs, hd, Kp.refl _ _, ha, fun _ _ _ => rfl⟩
  case round =>
    obtain ⟨k, s, hk, rfl, he, hc, hcd, hkp, hca, hq⟩ := hrel
    have f1 : wr.frozen? ⟨ps, 0, none⟩ = false := by rw [hkp.2]; exact fs
    have f2 : wr.frozen? ⟨pd, 0, none⟩ = false := by rw [hkp.2]; exact fd
    have f3 : wr.frozen? ⟨pa, 0, none⟩ = false := by rw [hkp.2]; exact fa
    have cm : wr.cell? ⟨pm, 0, none⟩ = some (.bool true) := by rw [hkp.cell _ _ l2]; exact hmi
    have HE := Lib.hid he
    have HQ := Lib.hid hq
    clear he hq
    by_cases hlt : k < len
    · obtain ⟨ad, hA, hb, hcx⟩ := (HX.out.kp hkp) k (by rw [← HL.out]; exact hlt)
      subst hA
      obtain ⟨n, hn⟩ : ∃ n, n = xs.getD k 0 := ⟨_, rfl⟩
      have BN : Hid (-9223372036854775808 ≤ n ∧ n ≤ 9223372036854775807) := by
        refine Lib.hid (HBN.out n ?_)
        have hk' : k < xs.length := by rw [← HL.out]; exact hlt
        rw [hn]; simp [List.getD, hk']
      rw [← hn] at hcx
      have HN := Lib.hid hn
      clear hn
      by_cases hfit : diffFits s n
      · go_wp2_with fail
        refine (minus_yes _ _ hfit _).mono ?_; rintro e w' ⟨rfl, rfl⟩
        go_wp2_with fail
        go_roundw
        case rel =>
          refine ⟨k + 1, s - n, by omega, by go_num, ?_, ?_, ?_, ?_, ?_, ?_⟩
          · rw [runFrom_step xs k (by rw [← HL.out]; exact hlt) HE.out, ← HN.out, if_pos (by simpa [stepFits] using hfit)]; rfl
          · rw [World.cell?_setCell_other _ _ _ _ (ne_addr (by omega))]; exact World.cell?_setCell_same _ _ _ hc
          · rw [World.cell?_setCell_same _ _ _ (by rw [World.cell?_setCell_other _ _ _ _ (ne_addr (by omega))]; exact hcd)]; simp
          · exact (hkp.setCell (Nat.le_refl _) _).setCell (show ps ≤ pd by omega) _
          · rw [World.cell?_setCell_other _ _ _ _ (ne_addr (by omega)), World.cell?_setCell_other _ _ _ _ (ne_addr (by omega))]; exact hca
          · intro q h1 h2
            rw [World.cell?_setCell_other _ _ _ _ (ne_addr (by omega)), World.cell?_setCell_other _ _ _ _ (ne_addr (by omega))]; exact HQ.out q h1 h2
        case measure => simp [intOf]; omega
      · go_wp2_with fail
        refine (minus_no _ _ BN.out hfit _).mono ?_; rintro e w' ⟨rfl, rfl⟩
        go_wp2_with fail
        refine ⟨rfl, false, rfl, hkp, HQ.out, s, k, ?_, hc, hcd, hca⟩
        refine runFrom_stop xs (k + 1) ?_
        rw [runFrom_step xs k (by rw [← HL.out]; exact hlt) HE.out, ← HN.out, if_neg (by simpa [stepFits] using hfit)]
    · go_wp2_with fail
      go_end0
      refine ⟨true, rfl, hkp.setCell (show ps ≤ pa by omega) _, ?_, s, k, ?_, ?_, ?_, ?_⟩
      · intro q h1 h2
        rw [World.cell?_setCell_other _ _ _ _ (ne_addr (by omega))]; exact HQ.out q h1 h2
      · have := HE.out
        rwa [List.take_of_length_le (by have := HL.out; omega)] at this
      · rw [World.cell?_setCell_other _ _ _ _ (ne_addr (by omega))]; exact hc
      · rw [World.cell?_setCell_other _ _ _ _ (ne_addr (by omega))]; exact hcd
      · exact World.cell?_setCell_same _ _ _ hca

theorem enter16 (args : Array Value) (w : World) : (callFunc 16 args).run Try.prog w = .ok (.enter 16 args) w := by
  simp [go_sem]

theorem tries_do (m : Bool) (pl pm ps pd pa : Nat) (A : Option Addr) (len cap : Nat) (xs : List Int) (w : World) (hlen : len = xs.length) (hm : len ≤ 9223372036854775807)
    (hl : w.cell? ⟨pl, 0, none⟩ = some (.slice A len cap)) (hmi : w.cell? ⟨pm, 0, none⟩ = some (.bool m))
    (hs : w.cell? ⟨ps, 0, none⟩ = some (.int .i64 0)) (hd : w.cell? ⟨pd, 0, none⟩ = some (.int .i64 0)) (ha : w.cell? ⟨pa, 0, none⟩ = some (.bool false))
    (fs : w.frozen? ⟨ps, 0, none⟩ = false) (fd : w.frozen? ⟨pd, 0, none⟩ = false) (fa : w.frozen? ⟨pa, 0, none⟩ = false)
    (l2 : pm < ps) (l3 : ps < pd) (l4 : pd < pa) (hx : Nums w ps A xs) (hbn : ∀ n ∈ xs, -9223372036854775808 ≤ n ∧ n ≤ 9223372036854775807) :
    Calls Try.prog 16 #[.pointer (some ⟨pl, 0, none⟩), .pointer (some ⟨pm, 0, none⟩), .pointer (some ⟨ps, 0, none⟩), .pointer (some ⟨pd, 0, none⟩), .pointer (some ⟨pa, 0, none⟩)] w fun e w' =>
      ∃ ok, e = (if ok then .returned (.tuple #[]) else .panicked [overEntry]) ∧ TriesQ m xs ps pd pa w ok w' := by
  cases m
  · exact tries_plus pl pm ps pd pa A len cap xs w hlen hm hl hmi hs hd ha fs fd fa l2 l3 l4 hx
  · exact tries_minus pl pm ps pd pa A len cap xs w hlen hm hl hmi hs hd ha fs fd fa l2 l3 l4 hx hbn

theorem tries_try (m : Bool) (pl pm ps pd pa : Nat) (A : Option Addr) (len cap : Nat) (xs : List Int) (w : World) (hlen : len = xs.length) (hm : len ≤ 9223372036854775807)
    (hl : w.cell? ⟨pl, 0, none⟩ = some (.slice A len cap)) (hmi : w.cell? ⟨pm, 0, none⟩ = some (.bool m))
    (hs : w.cell? ⟨ps, 0, none⟩ = some (.int .i64 0)) (hd : w.cell? ⟨pd, 0, none⟩ = some (.int .i64 0)) (ha : w.cell? ⟨pa, 0, none⟩ = some (.bool false))
    (fs : w.frozen? ⟨ps, 0, none⟩ = false) (fd : w.frozen? ⟨pd, 0, none⟩ = false) (fa : w.frozen? ⟨pa, 0, none⟩ = false)
    (l1 : pl < ps) (l2 : pm < ps) (l3 : ps < pd) (l4 : pd < pa) (hx : Nums w ps A xs) (hbn : ∀ n ∈ xs, -9223372036854775808 ≤ n ∧ n ≤ 9223372036854775807) :
    Calls Try.prog 15 #[.func (.func 16) #[] #[.pointer (some ⟨pl, 0, none⟩), .pointer (some ⟨pm, 0, none⟩), .pointer (some ⟨ps, 0, none⟩), .pointer (some ⟨pd, 0, none⟩), .pointer (some ⟨pa, 0, none⟩)]] w fun e w' =>
      ∃ ok s, ∃ d : Nat, runFrom m 0 0 xs = (ok, s, d) ∧ e = .returned (.int .i64 (if ok then 0 else 13)) ∧ Kp ps w w' ∧
        w'.cell? ⟨ps, 0, none⟩ = some (.int .i64 s) ∧ w'.cell? ⟨pd, 0, none⟩ = some (.int .i64 (d : Nat)) ∧ w'.cell? ⟨pa, 0, none⟩ = some (.bool ok) := by
  have la := World.block_lt_of_cell? _ _ ha
  have past : ∀ q, q < w.heap.size → (w.alloc (.cells #[.int .i64 0] 29)).cell? ⟨q, 0, none⟩ = w.cell? ⟨q, 0, none⟩ := fun q h => World.cell?_alloc_past _ _ _ h
  have fz : ∀ q, q < w.heap.size → (w.alloc (.cells #[.int .i64 0] 29)).frozen? ⟨q, 0, none⟩ = w.frozen? ⟨q, 0, none⟩ := fun q h => World.frozen?_alloc_past _ _ _ h
  simp only at la
  have k1 : Kp ps w (w.alloc (.cells #[.int .i64 0] 29)) := (Kp.refl _ _).alloc (by omega) _ _
  refine (try_any 16 _ w (TriesQ m xs ps pd pa (w.alloc (.cells #[.int .i64 0] 29))) (enter16 _)
    ((tries_do m pl pm ps pd pa A len cap xs _ hlen hm (by rw [past _ (by omega)]; exact hl) (by rw [past _ (by omega)]; exact hmi) (by rw [past _ (by omega)]; exact hs)
      (by rw [past _ (by omega)]; exact hd) (by rw [past _ (by omega)]; exact ha) (by rw [fz _ (by omega)]; exact fs) (by rw [fz _ (by omega)]; exact fd) (by rw [fz _ (by omega)]; exact fa)
      l2 l3 l4 (hx.kp k1) hbn).mono ?_)).mono ?_
  · rintro e w1 ⟨ok, rfl, hq⟩
    obtain ⟨h2, h5, h6⟩ := id hq
    refine ⟨ok, hq, rfl, ?_, ?_, ?_⟩
    · have := h2.size; simp at this; omega
    · rw [h5 _ la (by simp)]; simp [go_sem]
    · rw [h2.2]; simp
  · rintro e w' ⟨ok, w1, ⟨h2, h4, s, d, h5, h6, h7, h8⟩, rfl, rfl⟩
    have k0 : Kp ps w w1 := k1.trans h2
    have hz := h2.size
    simp at hz
    refine ⟨ok, s, d, h5, rfl, ?_, ?_, ?_, ?_⟩
    · split
      · exact k0.setCell (show ps ≤ w.heap.size by omega) _
      · exact (k0.setCell (show ps ≤ w.heap.size by omega) _).alloc (by simp; omega) _ _
    all_goals
      split
      · rw [World.cell?_setCell_other _ _ _ _ (ne_addr (by omega))]; assumption
      · rw [World.cell?_alloc_past _ _ _ (by show _ < (w1.setCell _ _).heap.size; rw [World.size_setCell]; omega), World.cell?_setCell_other _ _ _ _ (ne_addr (by omega))]; assumption

end Go.Proofs.Ytceanfocgdnnaaa
