/- The law of rows, one by one. -/
import Derived.Test.YtdofmpmgcpobfaaShelfSBands
namespace Go.Proofs.Ytdofmpmgcpobfaa.Shelf
open Go.RowKit Go.Sort Go.Proofs.Ytdofmpmgcpobfaa.Rect Go.Proofs.Ytdofmpmgcpobfaa.More

section
variable {L : World → Nat → Addr → List Fl → Prop}

set_option maxRecDepth 100000 in
set_option maxHeartbeats 1000000 in
theorem rows_no (hO : ListOk L) (A : Option Addr) (n c : Nat) (fs : List Fl) (y u : Int) (w : World) (hn : n = fs.length) (hlen : n ≤ 9223372036854775807) (hx : Floats w w.heap.size A fs) (hv : (fs.all nearF && decide ((n : Int) ≤ 30)) = false) :
    Calls Try.prog 7 #[.slice A n c, .int .i16 y, .int .u8 u] w fun e w' => e = .returned (.bool true) ∧ Below w.heap.size w w' := by
  have HFew := Lib.hid (fun w1 (k : Below w.heap.size w w1) => few_is A n c fs 30 false w1 hn hlen (hx.thru k) hv)
  clear hx hn hv
  go_enter Try.func7, Try.ntmps7
  go_upto_region 2 with (first
    | (go_at_call 9; refine (sspeaks hO _).mono ?_; rintro e w1 ⟨rfl, k1⟩; have K1 := Lib.hid k1; clear k1)
    | (go_at_call 10; refine (HFew.out _ K1.out).mono ?_; rintro e w2 ⟨rfl, k2⟩; have K2 := Lib.hid (thru K1.out k2); clear k2))
  go_wp2_with (first
    | (go_at_call 9; refine (sspeaks hO _).mono ?_; rintro e w9 ⟨rfl, k9⟩; have K9 := Lib.hid (thru K2.out k9); clear k9))
  go_ret
  exact ⟨rfl, K9.out⟩

set_option maxRecDepth 100000 in
set_option maxHeartbeats 8000000 in
theorem rows_yes (hO : ListOk L) (A : Option Addr) (n c : Nat) (fs : List Fl) (y u : Int) (w : World) (hn : n = fs.length) (hx : Floats w w.heap.size A fs) (hs : fs.all nearF = true) (h30 : n ≤ 30) (hy : -32768 ≤ y ∧ y ≤ 32767) (hu : 0 ≤ u ∧ u ≤ 255) :
    Calls Try.prog 7 #[.slice A n c, .int .i16 y, .int .u8 u] w fun e w' => e = .returned (.bool true) ∧ Below w.heap.size w w' := by
  have HFew := Lib.hid (fun w1 (k : Below w.heap.size w w1) => few_is A n c fs 30 true w1 hn (by omega) (hx.thru k) (by rw [hs]; simp; omega))
  have HBe := Lib.hid (fun w1 (k : Below w.heap.size w w1) => begin_any hO A n c fs w1 hn (by omega) (hx.thru k) hs)
  have HBd := Lib.hid (fun w1 B p (a z : Int) (h : L w1 B p fs) (ha : inS a = true) (hz : inS z = true) => hO.band w1 B p fs a z h hs ha hz)
  obtain ⟨m, hm, hm60⟩ : ∃ m : Nat, u.tmod 60 = (m : Int) ∧ m < 60 := by
    have g0 := Int.tmod_nonneg 60 hu.1
    have g1 := Int.tmod_lt_of_pos u (show (0 : Int) < 60 by omega)
    exact ⟨(u.tmod 60).toNat, by omega, by omega⟩
  have hcy : IntKind.i64.wrap y = y := IntWalk.i64_in _ (by omega)
  have hcu : IntKind.i64.wrap u = u := IntWalk.i64_in _ (by omega)
  have HZ0 := Lib.hid (show bandL fs y (y + ((0 : Nat) : Int)) = -4503599627370496 ∧ bandR fs y (y + ((0 : Nat) : Int)) = 4503599627370496 from ⟨bandL_none fs (by omega), bandR_none fs (by omega)⟩)
  clear hn hx hs
  go_enter Try.func7, Try.ntmps7
  go_upto_region 6 with (first
    | (go_at_call 9; refine (sspeaks hO _).mono ?_; rintro e w1 ⟨rfl, k1⟩; have K1 := Lib.hid k1; clear k1)
    | (go_at_call 10; refine (HFew.out _ K1.out).mono ?_; rintro e w2 ⟨rfl, k2⟩; have K2 := Lib.hid (thru K1.out k2); clear k2)
    | (go_at_call 11; refine (HBe.out _ K2.out).mono ?_; rintro e w5 ⟨⟨p, rfl, hL⟩, k5⟩; have HL := Lib.hid hL; have K5 := Lib.hid (thru K2.out k5); clear hL k5))
  go_upto_region 7 with fail
  generalize hW : World.alloc w5 _ = W
  obtain ⟨b8, hb8⟩ : ∃ b8, w5.heap.size = b8 := ⟨_, rfl⟩
  have z0 : W.cell? ⟨b8, 0, none⟩ = some (.int .i64 (-4503599627370496)) := by rw [← hW, ← hb8]; simp [go_sem]
  have z1 : W.cell? ⟨b8, 1, none⟩ = some (.int .i64 4503599627370496) := by rw [← hW, ← hb8]; simp [go_sem]
  have z2 : W.frozen? ⟨b8, 0, none⟩ = false := by rw [← hW, ← hb8]; simp [go_sem]
  have z3 : W.frozen? ⟨b8, 1, none⟩ = false := by rw [← hW, ← hb8]; simp [go_sem]
  have hkW : Below w5.heap.size w5 W := by rw [← hW]; exact ba1 _ _
  rw [hb8]
  have HB8 := Lib.hid hb8
  have HI := Lib.hid (show W.cell? ⟨b8, 0, none⟩ = some (.int .i64 (bandL fs y (y + ((0 : Nat) : Int)))) ∧ W.cell? ⟨b8, 1, none⟩ = some (.int .i64 (bandR fs y (y + ((0 : Nat) : Int)))) ∧ W.frozen? ⟨b8, 0, none⟩ = false ∧ W.frozen? ⟨b8, 1, none⟩ = false ∧ Below w5.heap.size w5 W from ⟨by rw [HZ0.out.1]; exact z0, by rw [HZ0.out.2]; exact z1, z2, z3, hkW⟩)
  clear hW z0 z1 z2 z3 hkW hb8
  go_wp2_with fail
  go_loopw [29] (fun i wr => ∃ k : Nat, k ≤ m ∧ i = .int .i64 (k : Int) ∧ Hid (wr.cell? ⟨b8, 0, none⟩ = some (.int .i64 (bandL fs y (y + (k : Int)))) ∧ wr.cell? ⟨b8, 1, none⟩ = some (.int .i64 (bandR fs y (y + (k : Int)))) ∧ wr.frozen? ⟨b8, 0, none⟩ = false ∧ wr.frozen? ⟨b8, 1, none⟩ = false ∧ Below w5.heap.size w5 wr)) (fun i _ => m - (intOf i).toNat)
  case atStart => exact ⟨0, Nat.zero_le _, rfl, HI⟩
  case round =>
    clear HI
    obtain ⟨k, hk, rfl, H⟩ := hrel
    by_cases hlt : k < m
    · have hki : (k : Int) < (m : Int) := by omega
      obtain ⟨yk, hyk⟩ : ∃ yk, y + (k : Int) = yk := ⟨_, rfl⟩
      obtain ⟨yk1, hyk1⟩ : ∃ yk1, yk + 1 = yk1 := ⟨_, rfl⟩
      have hw1 : IntKind.i64.wrap (y + (k : Int)) = yk := by rw [IntWalk.i64_in _ (by omega)]; exact hyk
      have hw2 : IntKind.i64.wrap (yk + 1) = yk1 := by rw [IntWalk.i64_in _ (by omega)]; exact hyk1
      obtain ⟨s0, s1, f0, f1, hkr⟩ := H.out
      rw [hyk] at s0 s1
      have hL1 := bandL_split fs (show y ≤ yk by omega) (show yk ≤ yk1 by omega)
      have hR1 := bandR_split fs (show y ≤ yk by omega) (show yk ≤ yk1 by omega)
      have iy : inS y = true := inS_iff.2 ⟨by omega, by omega⟩
      have iyk : inS yk = true := inS_iff.2 ⟨by omega, by omega⟩
      have iyk1 : inS yk1 = true := inS_iff.2 ⟨by omega, by omega⟩
      obtain ⟨lv, hlv⟩ : ∃ lv, bandL fs y yk = lv := ⟨_, rfl⟩
      obtain ⟨rv, hrv⟩ : ∃ rv, bandR fs y yk = rv := ⟨_, rfl⟩
      obtain ⟨x1, hx1⟩ : ∃ x1, bandL fs yk yk1 = x1 := ⟨_, rfl⟩
      obtain ⟨x2, hx2⟩ : ∃ x2, bandR fs yk yk1 = x2 := ⟨_, rfl⟩
      have HB1 := Lib.hid (fun w' (j : Below w5.heap.size w5 w') => HBd.out w' _ p y yk (hO.keep _ _ _ _ _ HL.out j) iy iyk)
      have HB2 := Lib.hid (fun w' (j : Below w5.heap.size w5 w') => HBd.out w' _ p yk yk1 (hO.keep _ _ _ _ _ HL.out j) iyk iyk1)
      rw [hlv, hrv] at HB1
      rw [hx1, hx2] at HB2
      rw [hlv, hx1] at hL1
      rw [hrv, hx2] at hR1
      rw [hlv] at s0
      rw [hrv] at s1
      have HNX := Lib.hid (show bandL fs y (y + ((k + 1 : Nat) : Int)) = max lv x1 ∧ bandR fs y (y + ((k + 1 : Nat) : Int)) = min rv x2 by
        rw [show y + ((k + 1 : Nat) : Int) = yk1 by omega]; exact ⟨hL1, hR1⟩)
      have KR := Lib.hid hkr
      clear hkr hL1 hR1 hlv hrv hx1 hx2 iy iyk iyk1 hyk hyk1
      go_upto_region 11 with fail
      refine Hold.wp_region_hold [.val (.pointer (some p)), .val (.int .i64 y), .val (.int .i64 y), .val (.int .i64 (k : Int)), .val (.int .i64 yk), .val (.agg #[.int .i64 y, .int .i64 yk]), .val (.agg #[.int .i64 lv, .int .i64 rv]), .val (.agg #[.int .i64 lv, .int .i64 rv])] (by kernel_rfl) (by kernel_rfl) (by kernel_rfl) ?_ ?_
      · simp only [Hold.fill, Hold.Leave.value]
        refine ⟨?_, ?_, ?_, ?_, ?_, ?_, ?_, ?_, trivial⟩
        · intro gg w' hw hk
          go_simp
          exact ⟨rfl, rfl⟩
        · intro gg w' hw hk
          go_simp
          exact ⟨rfl, rfl⟩
        · intro gg w' hw hk
          go_simp
          exact ⟨rfl, rfl⟩
        · intro gg w' hw hk
          go_simp
          exact ⟨rfl, rfl⟩
        · intro gg w' hw hk
          go_simp
          exact ⟨rfl, rfl⟩
        · intro gg w' hw hk
          go_simp
          exact ⟨rfl, rfl⟩
        · intro gg w' hw hk
          go_simp
          exact Hold.stays_call (HB1.out w' (thru KR.out hw))
        · intro gg w' hw hk
          have q0 := (hw.cell (p := ⟨b8, 0, none⟩) (block_lt_of_cell s0)).trans s0
          have q1 := (hw.cell (p := ⟨b8, 1, none⟩) (block_lt_of_cell s1)).trans s1
          go_simp
          exact ⟨rfl, rfl⟩
      intro gg wq k2 hgg
      clear hgg
      simp only [Hold.fill, Hold.Leave.value, List.length_cons, List.length_nil, List.drop_succ_cons, List.drop_zero]
      have EQ := eqSpan_same lv rv wq
      have t0 := (k2.cell (p := ⟨b8, 0, none⟩) (block_lt_of_cell s0)).trans s0
      have t1 := (k2.cell (p := ⟨b8, 1, none⟩) (block_lt_of_cell s1)).trans s1
      have g0 := (k2.frozen (p := ⟨b8, 0, none⟩) (block_lt_of_cell s0)).trans f0
      have g1 := (k2.frozen (p := ⟨b8, 1, none⟩) (block_lt_of_cell s1)).trans f1
      have KR2 := Lib.hid (thru KR.out k2)
      clear s0 s1 f0 f1 k2 KR
      have s0 := t0
      have s1 := t1
      have f0 := g0
      have f1 := g1
      have KR := KR2
      clear t0 t1 g0 g1 KR2
      go_upto_region 13 with fail
      clear EQ
      refine Hold.wp_region_hold [.val (.agg #[.int .i64 lv, .int .i64 rv]), .val (.pointer (some p)), .val (.int .i64 y), .val (.int .i64 (k : Int)), .val (.int .i64 yk), .val (.int .i64 y), .val (.int .i64 (k : Int)), .val (.int .i64 yk), .val (.int .i64 yk1), .val (.agg #[.int .i64 yk, .int .i64 yk1]), .val (.agg #[.int .i64 x1, .int .i64 x2]), .val (.agg #[.int .i64 (max lv x1), .int .i64 (min rv x2)])] (by kernel_rfl) (by kernel_rfl) (by kernel_rfl) ?_ ?_
      · simp only [Hold.fill, Hold.Leave.value]
        refine ⟨?_, ?_, ?_, ?_, ?_, ?_, ?_, ?_, ?_, ?_, ?_, ?_, trivial⟩
        · intro gg w' hw hk
          have q0 := (hw.cell (p := ⟨b8, 0, none⟩) (block_lt_of_cell s0)).trans s0
          have q1 := (hw.cell (p := ⟨b8, 1, none⟩) (block_lt_of_cell s1)).trans s1
          go_simp
          exact ⟨rfl, rfl⟩
        · intro gg w' hw hk
          go_simp
          exact ⟨rfl, rfl⟩
        · intro gg w' hw hk
          go_simp
          exact ⟨rfl, rfl⟩
        · intro gg w' hw hk
          go_simp
          exact ⟨rfl, rfl⟩
        · intro gg w' hw hk
          go_simp
          exact ⟨rfl, rfl⟩
        · intro gg w' hw hk
          go_simp
          exact ⟨rfl, rfl⟩
        · intro gg w' hw hk
          go_simp
          exact ⟨rfl, rfl⟩
        · intro gg w' hw hk
          go_simp
          exact ⟨rfl, rfl⟩
        · intro gg w' hw hk
          go_simp
          exact ⟨rfl, rfl⟩
        · intro gg w' hw hk
          go_simp
          exact ⟨rfl, rfl⟩
        · intro gg w' hw hk
          go_simp
          exact Hold.stays_call (HB2.out w' (thru KR.out hw))
        · intro gg w' hw hk
          go_simp
          exact Hold.stays_call (clip_any lv rv x1 x2 w')
      intro gg w2 k2 hgg
      clear hgg
      simp only [Hold.fill, Hold.Leave.value, List.length_cons, List.length_nil, List.drop_succ_cons, List.drop_zero]
      have t0 := (k2.cell (p := ⟨b8, 0, none⟩) (block_lt_of_cell s0)).trans s0
      have t1 := (k2.cell (p := ⟨b8, 1, none⟩) (block_lt_of_cell s1)).trans s1
      have g0 := (k2.frozen (p := ⟨b8, 0, none⟩) (block_lt_of_cell s0)).trans f0
      have g1 := (k2.frozen (p := ⟨b8, 1, none⟩) (block_lt_of_cell s1)).trans f1
      have KR2 := Lib.hid (thru KR.out k2)
      clear s0 s1 f0 f1 k2 KR
      have HR := Lib.hid (show ((w2.setCell ⟨b8, 0, none⟩ (.int .i64 (max lv x1))).setCell ⟨b8, 1, none⟩ (.int .i64 (min rv x2))).cell? ⟨b8, 0, none⟩ = some (.int .i64 (bandL fs y (y + ((k + 1 : Nat) : Int)))) ∧ ((w2.setCell ⟨b8, 0, none⟩ (.int .i64 (max lv x1))).setCell ⟨b8, 1, none⟩ (.int .i64 (min rv x2))).cell? ⟨b8, 1, none⟩ = some (.int .i64 (bandR fs y (y + ((k + 1 : Nat) : Int)))) ∧
        ((w2.setCell ⟨b8, 0, none⟩ (.int .i64 (max lv x1))).setCell ⟨b8, 1, none⟩ (.int .i64 (min rv x2))).frozen? ⟨b8, 0, none⟩ = false ∧ ((w2.setCell ⟨b8, 0, none⟩ (.int .i64 (max lv x1))).setCell ⟨b8, 1, none⟩ (.int .i64 (min rv x2))).frozen? ⟨b8, 1, none⟩ = false ∧ Below w5.heap.size w5 ((w2.setCell ⟨b8, 0, none⟩ (.int .i64 (max lv x1))).setCell ⟨b8, 1, none⟩ (.int .i64 (min rv x2))) from by
        rw [HNX.out.1, HNX.out.2]
        refine ⟨by simp [go_sem, t0], by simp [go_sem, t1], by simp [go_sem, g0], by simp [go_sem, g1], (KR2.out.setCell (p := ⟨b8, 0, none⟩) (by rw [HB8.out]; exact Nat.le_refl _) _).setCell (p := ⟨b8, 1, none⟩) (by rw [HB8.out]; exact Nat.le_refl _) _⟩)
      go_wp2_with fail
      go_roundw
      case rel => exact ⟨k + 1, by omega, by go_num, HR⟩
      case measure => simp [intOf]; omega
    · obtain rfl : k = m := by omega
      go_wp2_with fail
      go_ret
      exact ⟨rfl, thru K5.out H.out.2.2.2.2⟩

theorem rows_any (hO : ListOk L) (A : Option Addr) (n c : Nat) (fs : List Fl) (y u : Int) (hy : -32768 ≤ y ∧ y ≤ 32767) (hu : 0 ≤ u ∧ u ≤ 255) (w : World) (hn : n = fs.length) (hm : n ≤ 9223372036854775807) (hx : Floats w w.heap.size A fs) :
    Calls Try.prog 7 #[.slice A n c, .int .i16 y, .int .u8 u] w fun e w' => e = .returned (.bool true) ∧ Below w.heap.size w w' := by
  by_cases h : (fs.all nearF && decide ((n : Int) ≤ 30)) = true
  · simp only [Bool.and_eq_true, decide_eq_true_eq] at h
    exact rows_yes hO A n c fs y u w hn hx h.1 (by omega) hy hu
  · exact rows_no hO A n c fs y u w hn hm hx (by simpa using h)
end

end Go.Proofs.Ytdofmpmgcpobfaa.Shelf
