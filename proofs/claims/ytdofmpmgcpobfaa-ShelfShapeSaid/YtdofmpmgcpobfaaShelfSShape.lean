/- The law of the shelves' shape. -/
import Derived.Test.YtdofmpmgcpobfaaShelfSLays
import Derived.Test.YtdofmpmgcpobfaaShelfSMath3
import Derived.Test.YtdofmpmgcpobfaaTold
namespace Go.Proofs.Ytdofmpmgcpobfaa.Shelf
open Go.RowKit Go.Sort Go.Proofs.Ytdofmpmgcpobfaa.Rect Go.Proofs.Ytdofmpmgcpobfaa.More
set_option linter.unusedVariables false

section
variable {L : World → Nat → Addr → List Fl → Prop}

set_option maxRecDepth 100000 in
set_option maxHeartbeats 1000000 in
theorem shape_no (hO : ListOk L) (A : Option Addr) (n c : Nat) (fs : List Fl) (w : World) (hn : n = fs.length) (hlen : n ≤ 9223372036854775807) (hx : Floats w w.heap.size A fs) (hv : (fs.all nearF && decide ((n : Int) ≤ 40)) = false) :
    Calls Try.prog 6 #[.slice A n c] w fun e w' => e = .returned (.bool true) ∧ Below w.heap.size w w' := by
  have HFew := Lib.hid (fun w1 (k : Below w.heap.size w w1) => few_is A n c fs 40 false w1 hn hlen (hx.thru k) hv)
  clear hx hn hv
  go_enter Try.func6, Try.ntmps6
  go_upto_region 2 with (first
    | (go_at_call 9; refine (sspeaks hO _).mono ?_; rintro e w1 ⟨rfl, k1⟩; have K1 := Lib.hid k1; clear k1)
    | (go_at_call 10; refine (HFew.out _ K1.out).mono ?_; rintro e w2 ⟨rfl, k2⟩; have K2 := Lib.hid (thru K1.out k2); clear k2))
  go_wp2_with (first
    | (go_at_call 9; refine (sspeaks hO _).mono ?_; rintro e w3 ⟨rfl, k3⟩; have K3 := Lib.hid (thru K2.out k3); clear k3))
  go_ret
  exact ⟨rfl, K3.out⟩

/-- The three numbers of a block that has been made. -/
theorem three_at {w : World} {r : Nat} {a b c : Value} {T : TypeId} (h : w.heap[r]? = some (.cells #[a, b, c] T (0, 0))) :
    (w.cell? ⟨r, 0, none⟩ = some a ∧ w.cell? ⟨r, 1, none⟩ = some b ∧ w.cell? ⟨r, 2, none⟩ = some c) ∧ (w.frozen? ⟨r, 0, none⟩ = false ∧ w.frozen? ⟨r, 1, none⟩ = false ∧ w.frozen? ⟨r, 2, none⟩ = false) :=
  ⟨⟨by rw [cell_of_row w r 0 _ _ _ h]; rfl, by rw [cell_of_row w r 1 _ _ _ h]; rfl, by rw [cell_of_row w r 2 _ _ _ h]; rfl⟩, frozen_of_row w r 0 _ _ h, frozen_of_row w r 1 _ _ h, frozen_of_row w r 2 _ _ h⟩

set_option maxRecDepth 100000 in
set_option maxHeartbeats 1500000 in
theorem shape_yes (hO : ListOk L) (A : Option Addr) (n c : Nat) (fs : List Fl) (w : World) (hn : n = fs.length) (hx : Floats w w.heap.size A fs) (hs : fs.all nearF = true) (h40 : n ≤ 40) :
    Calls Try.prog 6 #[.slice A n c] w fun e w' => e = .returned (.bool true) ∧ Below w.heap.size w w' := by
  have HFew := Lib.hid (fun w1 (k : Below w.heap.size w w1) => few_is A n c fs 40 true w1 hn (by omega) (hx.thru k) (by rw [hs]; simp; omega))
  have HBe := Lib.hid (fun w1 (k : Below w.heap.size w w1) => begin_any hO A n c fs w1 hn (by omega) (hx.thru k) hs)
  have HSh := Lib.hid (fun w1 B p (h : L w1 B p fs) => hO.shelves w1 B p fs h hs)
  have HAf := Lib.hid (fun w1 B p y (h : L w1 B p fs) => hO.after w1 B p fs y h hs)
  have HNear := Lib.hid (near_of hs)
  have hlen := shelvesD_len fs
  have hm0 := shelvesD_pos fs
  have H0 := Lib.hid (shelvesD_head fs)
  obtain ⟨m, hm⟩ : ∃ m, (shelvesD fs).length = m := ⟨_, rfl⟩
  rw [hm] at hlen hm0 HSh
  have HM := Lib.hid hm
  have hg1 : ((m : Int) == 0) = false := by simp; omega
  have hg2 : decide (2 * (n : Int) + 1 < (m : Int)) = false := by simp; omega
  have hg3 : (m : Int) ≤ 2 * (n : Int) + 1 := by omega
  have hg4 : (0 : Int) < (m : Int) := by omega
  have hw2 : IntKind.i64.wrap (2 * (n : Int)) = 2 * (n : Int) := IntWalk.i64_in _ (by omega)
  have hw3 : IntKind.i64.wrap (2 * (n : Int) + 1) = 2 * (n : Int) + 1 := IntWalk.i64_in _ (by omega)
  have hmb : m ≤ 100 := by omega
  clear hn hx hs hm hlen
  go_enter Try.func6, Try.ntmps6
  go_upto_region 7 with (first
    | (go_at_call 9; refine (sspeaks hO _).mono ?_; rintro e w1 ⟨rfl, k1⟩; have K1 := Lib.hid k1; clear k1)
    | (go_at_call 10; refine (HFew.out _ K1.out).mono ?_; rintro e w2 ⟨rfl, k2⟩; have K2 := Lib.hid (thru K1.out k2); clear k2)
    | (go_at_call 11; refine (HBe.out _ K2.out).mono ?_; rintro e w3 ⟨⟨p, rfl, hL⟩, k3⟩; have HL := Lib.hid hL; have K3 := Lib.hid (thru K2.out k3); clear hL k3)
    | (go_at_call 12; refine (HSh.out _ _ _ HL.out).mono ?_; rintro e w4 ⟨⟨Aa, ca, rfl, h4⟩, k4⟩; have MA := Lib.hid h4; have K4 := Lib.hid (thru K3.out k4); have LL := Lib.hid (hO.keep _ _ _ _ _ HL.out k4); clear h4 k4))
  obtain ⟨ga, rfl, ha1, ha2, -, -⟩ := MA.out.form hm0
  have z0 : w4.cell? ⟨ga, 0, none⟩ = some (.int .i64 (-4503599627370496)) := by
    have := MA.out.at 0 _ H0.out 0 (by decide)
    rwa [Nat.zero_mul, Nat.zero_add] at this
  go_wp2_with fail
  go_loopw [5] (fun i wr => ∃ q : Nat, q + 1 ≤ m ∧ i = .int .i64 ((q : Int) + 1) ∧ Hid (Below w4.heap.size w4 wr)) (fun i _ => m - (intOf i).toNat)
  case atStart => exact ⟨0, by omega, rfl, Lib.hid (Below.refl _ _)⟩
  case round =>
    clear z0
    obtain ⟨q, hq, rfl, H⟩ := hrel
    by_cases hlt : q + 1 < m
    · have hki : (q : Int) + 1 < (m : Int) := by omega
      have hk0 : ¬ (q : Int) + 1 < 0 := by omega
      have hk9 : (0 : Int) ≤ (q : Int) + 1 := by omega
      have hq0 : ¬ (q : Int) < 0 := by omega
      have hq1 : (q : Int) < (m : Int) := by omega
      have htn : ((q : Int) + 1).toNat = q + 1 := by omega
      have hwm : IntKind.i64.wrap ((q : Int) + 1 - 1) = (q : Int) := by rw [IntWalk.i64_in _ (by omega)]; omega
      have hwq : IntKind.i64.wrap (q : Int) = (q : Int) := IntWalk.i64_in _ (by omega)
      obtain ⟨x, hx⟩ : ∃ x, (shelvesD fs)[q]? = some x := ⟨_, List.getElem?_eq_getElem (by rw [HM.out]; omega)⟩
      obtain ⟨y, hy⟩ : ∃ y, (shelvesD fs)[q + 1]? = some y := ⟨_, List.getElem?_eq_getElem (by rw [HM.out]; omega)⟩
      obtain ⟨hp1, hp2⟩ := shelvesD_pair HNear.out hx hy
      have hfb := first_below HNear.out hx hy
      have hx0 : (encSh.cells x)[0]? = some (.int .i64 x.1) := rfl
      obtain ⟨x1, x2, x3⟩ := x
      obtain ⟨y1, y2, y3⟩ := y
      dsimp only at hp1 hp2 hfb hx0
      have HAD := Lib.hid (show afterD fs x1 = (y1, true) by unfold afterD; rw [hfb])
      have CX := Lib.hid (fun w' (j : Below wr.heap.size wr w') => (⟨((thru H.out j).cell (p := ⟨ga, q * 3, none⟩) ha2).trans (MA.out.at q _ hx 0 (by decide)), ((thru H.out j).cell (p := ⟨ga, q * 3 + 1, none⟩) ha2).trans (MA.out.at q _ hx 1 (by decide)), ((thru H.out j).cell (p := ⟨ga, q * 3 + 2, none⟩) ha2).trans (MA.out.at q _ hx 2 (by decide))⟩ : w'.cell? ⟨ga, q * 3, none⟩ = some (.int .i64 x1) ∧ w'.cell? ⟨ga, q * 3 + 1, none⟩ = some (.int .i64 x2) ∧ w'.cell? ⟨ga, q * 3 + 2, none⟩ = some (.int .i64 x3)))
      have CY := Lib.hid (fun w' (j : Below wr.heap.size wr w') => (⟨((thru H.out j).cell (p := ⟨ga, (q + 1) * 3, none⟩) ha2).trans (MA.out.at (q + 1) _ hy 0 (by decide)), ((thru H.out j).cell (p := ⟨ga, (q + 1) * 3 + 1, none⟩) ha2).trans (MA.out.at (q + 1) _ hy 1 (by decide)), ((thru H.out j).cell (p := ⟨ga, (q + 1) * 3 + 2, none⟩) ha2).trans (MA.out.at (q + 1) _ hy 2 (by decide))⟩ : w'.cell? ⟨ga, (q + 1) * 3, none⟩ = some (.int .i64 y1) ∧ w'.cell? ⟨ga, (q + 1) * 3 + 1, none⟩ = some (.int .i64 y2) ∧ w'.cell? ⟨ga, (q + 1) * 3 + 2, none⟩ = some (.int .i64 y3)))
      have HP2 := Lib.hid hp2
      clear hx hy hfb hx0 hp2
      go_upto_region 12 with fail
      go_cut [6, 7] (fun s6 s7 wx => ∃ r s : Nat, s6 = .pointer (some ⟨r, 0, none⟩) ∧ s7 = .pointer (some ⟨s, 0, none⟩) ∧ Hid ((wx.cell? ⟨r, 0, none⟩ = some (.int .i64 x1) ∧ wx.cell? ⟨r, 1, none⟩ = some (.int .i64 x2) ∧ wx.cell? ⟨r, 2, none⟩ = some (.int .i64 x3)) ∧ (wx.cell? ⟨s, 0, none⟩ = some (.int .i64 y1) ∧ wx.cell? ⟨s, 1, none⟩ = some (.int .i64 y2) ∧ wx.cell? ⟨s, 2, none⟩ = some (.int .i64 y3)) ∧ Below wr.heap.size wr wx))
      case first =>
        obtain ⟨c0, c1, c2⟩ := CX.out wr (Below.refl _ _)
        obtain ⟨d0, d1, d2⟩ := CY.out wr (Below.refl _ _)
        have hga : ga < wr.heap.size := Nat.lt_of_lt_of_le ha2 H.out.size
        have hg9 : ¬ ga = wr.heap.size := by omega
        have hg8 : ¬ ga = wr.heap.size + 1 := by omega
        go_region_with (fail)
        all_goals
          go_wp2_with fail
          go_meet
          refine ⟨_, _, rfl, rfl, Lib.hid ⟨⟨by simp [go_sem], by simp [go_sem], by simp [go_sem]⟩, ⟨by simp [go_sem], by simp [go_sem], by simp [go_sem]⟩, ?_⟩⟩
          exact (fun {W : World} (h : Below wr.heap.size wr W) => (⟨h.os, h.tape, h.output, h.size, h.block⟩ : Below wr.heap.size wr W.drew)) (ba2 wr _ _)
      case rest =>
        obtain ⟨r, s, rfl, rfl, hcut⟩ := hcut
        obtain ⟨⟨a0, a1, a2⟩, ⟨b0, b1, b2⟩, hbw⟩ := hcut.out
        have KW := Lib.hid (thru H.out hbw)
        have hA := HAf.out wc _ p x1 (hO.keep _ _ _ _ _ LL.out KW.out)
        rw [HAD.out] at hA
        have HA := Lib.hid hA
        have hxy : ¬ x1 ≥ y1 := by omega
        have hxy2 : decide (y1 ≤ x1) = false := by simp; omega
        clear hcut hbw CX CY hA
        by_cases e2 : x2 = y2
        · have e3 : ¬ x3 = y3 := fun e3 => HP2.out (by rw [e2, e3])
          subst e2
          go_wp2_with (first
            | (go_at_call 17; refine HA.out.mono ?_; rintro e w6 ⟨rfl, k6⟩; have K6 := Lib.hid (thru KW.out k6); have hb0 := (k6.cell (p := ⟨s, 0, none⟩) (block_lt_of_cell b0)).trans b0; clear k6))
          go_roundw
          case rel => exact ⟨q + 1, by omega, by go_num, K6⟩
          case measure => simp [intOf]; omega
        · go_wp2_with (first
            | (go_at_call 17; refine HA.out.mono ?_; rintro e w6 ⟨rfl, k6⟩; have K6 := Lib.hid (thru KW.out k6); have hb0 := (k6.cell (p := ⟨s, 0, none⟩) (block_lt_of_cell b0)).trans b0; clear k6))
          go_roundw
          case rel => exact ⟨q + 1, by omega, by go_num, K6⟩
          case measure => simp [intOf]; omega
    · obtain rfl : m = q + 1 := by omega
      obtain ⟨x, hx⟩ : ∃ x, (shelvesD fs)[q]? = some x := ⟨_, List.getElem?_eq_getElem (by rw [HM.out]; omega)⟩
      have hlast := shelvesD_last HNear.out (x := x) (by rw [HM.out, Nat.add_sub_cancel]; exact hx)
      obtain ⟨x1, x2, x3⟩ := x
      dsimp only at hlast
      injection hlast with q2 q3
      subst q2 q3
      have c0 := (H.out.cell (p := ⟨ga, q * 3, none⟩) ha2).trans (MA.out.at q _ hx 0 (by decide))
      have c1 := (H.out.cell (p := ⟨ga, q * 3 + 1, none⟩) ha2).trans (MA.out.at q _ hx 1 (by decide))
      have c2 := (H.out.cell (p := ⟨ga, q * 3 + 2, none⟩) ha2).trans (MA.out.at q _ hx 2 (by decide))
      have d0 : wr.cell? ⟨ga, q * 3, none⟩ = some (.int .i64 x1) := c0
      have d1 : wr.cell? ⟨ga, q * 3 + 1, none⟩ = some (.int .i64 (-4503599627370496)) := c1
      have d2 : wr.cell? ⟨ga, q * 3 + 2, none⟩ = some (.int .i64 4503599627370496) := c2
      have hwm : IntKind.i64.wrap ((q : Int) + 1 - 1) = (q : Int) := by rw [IntWalk.i64_in _ (by omega)]; omega
      have hwq : IntKind.i64.wrap (q : Int) = (q : Int) := IntWalk.i64_in _ (by omega)
      have hq0 : ¬ (q : Int) < 0 := by omega
      have hq1 : (q : Int) < (q : Int) + 1 := by omega
      have K6 := Lib.hid (thru K4.out H.out)
      clear hx c0 c1 c2
      go_wp2_with fail
      go_ret
      exact ⟨rfl, thru K6.out (ba1 _ _)⟩

theorem shape_any (hO : ListOk L) (A : Option Addr) (n c : Nat) (fs : List Fl) (w : World) (hn : n = fs.length) (hm : n ≤ 9223372036854775807) (hx : Floats w w.heap.size A fs) :
    Calls Try.prog 6 #[.slice A n c] w fun e w' => e = .returned (.bool true) ∧ Below w.heap.size w w' := by
  by_cases h : (fs.all nearF && decide ((n : Int) ≤ 40)) = true
  · simp only [Bool.and_eq_true, decide_eq_true_eq] at h
    exact shape_yes hO A n c fs w hn hx h.1 (by omega)
  · exact shape_no hO A n c fs w hn hm hx (by simpa using h)
end

end Go.Proofs.Ytdofmpmgcpobfaa.Shelf
