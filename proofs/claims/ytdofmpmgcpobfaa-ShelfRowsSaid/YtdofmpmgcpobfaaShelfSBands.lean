/- The law of bands, and of where the next shelf begins. -/
import Derived.Test.YtdofmpmgcpobfaaShelfSLays
import Derived.Test.YtdofmpmgcpobfaaShelfSRefs3
namespace Go.Proofs.Ytdofmpmgcpobfaa.Shelf
open Go.RowKit Go.Sort Go.Proofs.Ytdofmpmgcpobfaa.Rect Go.Proofs.Ytdofmpmgcpobfaa.More

theorem eqSpan_same (a b : Int) (w : World) : (Op.equalIn 10000 40 (.agg #[.int .i64 a, .int .i64 b]) (.agg #[.int .i64 a, .int .i64 b])).run Try.prog w = .ok true w := by
  have u3 := Try.underlying3
  have a3 := Try.isAgg3
  have z3 := Try.sizeOf3
  have hS : Try.prog.underlying 40 = some (.struct (Try.prog.fieldsOf 40)) := by kernel_rfl
  rw [show (10000 : Nat) = 9999 + 1 from rfl, run_equalIn_agg w 9999 40 _ _ hS (by kernel_rfl)]
  simp only [Program.fieldsOf, Try.underlying40]
  go_simp

theorem find_here {α : Type} {p : α → Bool} {l : List α} {k : Nat} {x : α} (h : (l.take k).find? p = none) (hx : l[k]? = some x) (hp : p x = true) : l.find? p = some x := by
  have e : l = l.take k ++ x :: l.drop (k + 1) := by
    have hk := (List.getElem?_eq_some_iff.1 hx)
    obtain ⟨hk1, hk2⟩ := hk
    rw [← hk2, ← List.drop_eq_getElem_cons hk1, List.take_append_drop]
  rw [e, List.find?_append, h]
  simp [hp]
theorem find_not {α : Type} {p : α → Bool} {l : List α} {k : Nat} {x : α} (h : (l.take k).find? p = none) (hx : l[k]? = some x) (hp : p x = false) : (l.take (k + 1)).find? p = none := by
  rw [List.take_add_one, hx, List.find?_append, h]
  simp [hp]

section
variable {L : World → Nat → Addr → List Fl → Prop}

set_option maxRecDepth 100000 in
set_option maxHeartbeats 1000000 in
theorem bands_no (hO : ListOk L) (A : Option Addr) (n c : Nat) (fs : List Fl) (a z y : Int) (w : World) (hn : n = fs.length) (hlen : n ≤ 9223372036854775807) (hx : Floats w w.heap.size A fs) (hv : (fs.all nearF && decide ((n : Int) ≤ 40)) = false) :
    Calls Try.prog 4 #[.slice A n c, .int .i64 a, .int .i64 z, .int .i64 y] w fun e w' => e = .returned (.bool true) ∧ Below w.heap.size w w' := by
  have HFew := Lib.hid (fun w1 (k : Below w.heap.size w w1) => few_is A n c fs 40 false w1 hn hlen (hx.thru k) hv)
  clear hx hn hv
  go_enter Try.func4, Try.ntmps4
  go_upto_region 2 with (first
    | (go_at_call 9; refine (sspeaks hO _).mono ?_; rintro e w1 ⟨rfl, k1⟩; have K1 := Lib.hid k1; clear k1)
    | (go_at_call 10; refine (HFew.out _ K1.out).mono ?_; rintro e w2 ⟨rfl, k2⟩; have K2 := Lib.hid (thru K1.out k2); clear k2))
  go_wp2_with (first
    | (go_at_call 9; refine (sspeaks hO _).mono ?_; rintro e w9 ⟨rfl, k9⟩; have K9 := Lib.hid (thru K2.out k9); clear k9))
  go_ret
  exact ⟨rfl, K9.out⟩

set_option maxRecDepth 100000 in
set_option maxHeartbeats 1000000 in
theorem bands_far (hO : ListOk L) (A : Option Addr) (n c : Nat) (fs : List Fl) (a z y : Int) (w : World) (hn : n = fs.length) (hlen : n ≤ 9223372036854775807) (hx : Floats w w.heap.size A fs) (hv : (fs.all nearF && decide ((n : Int) ≤ 40)) = true) (hs : [a, z, 0, 0].all inS = false) :
    Calls Try.prog 4 #[.slice A n c, .int .i64 a, .int .i64 z, .int .i64 y] w fun e w' => e = .returned (.bool true) ∧ Below w.heap.size w w' := by
  have HFew := Lib.hid (fun w1 (k : Below w.heap.size w w1) => few_is A n c fs 40 true w1 hn hlen (hx.thru k) hv)
  have HSm := Lib.hid (fun w1 => smallR_is a z 0 0 false hs w1)
  clear hx hn hv hs
  go_enter Try.func4, Try.ntmps4
  go_upto_region 2 with (first
    | (go_at_call 9; refine (sspeaks hO _).mono ?_; rintro e w1 ⟨rfl, k1⟩; have K1 := Lib.hid k1; clear k1)
    | (go_at_call 10; refine (HFew.out _ K1.out).mono ?_; rintro e w2 ⟨rfl, k2⟩; have K2 := Lib.hid (thru K1.out k2); clear k2)
    | (go_at_call 14; refine (HSm.out _).mono ?_; rintro e w3 ⟨rfl, k3⟩; have K3 := Lib.hid (thru K2.out k3); clear k3))
  go_wp2_with (first
    | (go_at_call 9; refine (sspeaks hO _).mono ?_; rintro e w9 ⟨rfl, k9⟩; have K9 := Lib.hid (thru K3.out k9); clear k9))
  go_ret
  exact ⟨rfl, K9.out⟩

set_option maxRecDepth 100000 in
set_option maxHeartbeats 4000000 in
theorem bands_yes (hO : ListOk L) (A : Option Addr) (n c : Nat) (fs : List Fl) (a z y : Int) (w : World) (hn : n = fs.length) (hx : Floats w w.heap.size A fs) (hs : fs.all nearF = true) (h40 : n ≤ 40) (haz : [a, z, 0, 0].all inS = true) :
    Calls Try.prog 4 #[.slice A n c, .int .i64 a, .int .i64 z, .int .i64 y] w fun e w' => e = .returned (.bool true) ∧ Below w.heap.size w w' := by
  have hin : inS a = true ∧ inS z = true := by
    simp only [List.all_cons, Bool.and_eq_true] at haz
    exact ⟨haz.1, haz.2.1⟩
  have HFew := Lib.hid (fun w1 (k : Below w.heap.size w w1) => few_is A n c fs 40 true w1 hn (by omega) (hx.thru k) (by rw [hs]; simp; omega))
  have HSm := Lib.hid (fun w1 => smallR_is a z 0 0 true haz w1)
  have HBe := Lib.hid (fun w1 (k : Below w.heap.size w w1) => begin_any hO A n c fs w1 hn (by omega) (hx.thru k) hs)
  have HRf := Lib.hid (fun w1 (k : Below w.heap.size w w1) => refshelves_any A n c fs w1 hn (by omega) (hx.thru k))
  have HRb := Lib.hid (fun w1 (k : Below w.heap.size w w1) => refband_any A n c fs a z w1 hn (by omega) (hx.thru k))
  have HBd := Lib.hid (fun w1 B p (h : L w1 B p fs) => hO.band w1 B p fs a z h hs hin.1 hin.2)
  have HAf := Lib.hid (fun w1 B p (h : L w1 B p fs) => hO.after w1 B p fs y h hs)
  obtain ⟨bl, hbl⟩ : ∃ bl, bandL fs a z = bl := ⟨_, rfl⟩
  obtain ⟨br, hbr⟩ : ∃ br, bandR fs a z = br := ⟨_, rfl⟩
  obtain ⟨ay, aok, haf⟩ : ∃ ay aok, afterD fs y = (ay, aok) := ⟨_, _, rfl⟩
  obtain ⟨ss, hss⟩ : ∃ ss, shelvesD fs = ss := ⟨_, rfl⟩
  obtain ⟨m, hm⟩ : ∃ m, ss.length = m := ⟨_, rfl⟩
  have hm0 : 0 < m := by rw [← hm, ← hss]; unfold shelvesD; simp
  have hmb : m ≤ 1000 := by have := shelvesD_len fs; rw [hss, hm] at this; omega
  rw [hss, hm] at HRf
  rw [hbl, hbr] at HRb HBd
  rw [haf] at HAf
  have HM := Lib.hid hm
  have HAD : Hid ((match ss.find? (fun x => decide (y < x.1)) with | some x => (x.1, true) | none => ((0 : Int), false)) = (ay, aok)) := Lib.hid (by rw [← haf, ← hss]; rfl)
  clear hn hx hs hss hm haf hbl hbr hin haz
  go_enter Try.func4, Try.ntmps4
  go_upto_region 7 with (first
    | (go_at_call 9; refine (sspeaks hO _).mono ?_; rintro e w1 ⟨rfl, k1⟩; have K1 := Lib.hid k1; clear k1)
    | (go_at_call 10; refine (HFew.out _ K1.out).mono ?_; rintro e w2 ⟨rfl, k2⟩; have K2 := Lib.hid (thru K1.out k2); clear k2)
    | (go_at_call 14; refine (HSm.out _).mono ?_; rintro e w3 ⟨rfl, k3⟩; have K3 := Lib.hid (thru K2.out k3); clear k3)
    | (go_at_call 11; refine (HBe.out _ K3.out).mono ?_; rintro e w4 ⟨⟨p, rfl, hL⟩, k4⟩; have HL := Lib.hid hL; have K4 := Lib.hid (thru K3.out k4); clear hL k4)
    | (go_at_call 15; refine (HRb.out _ K4.out).mono ?_; rintro e w5 ⟨rfl, k5⟩; have HL5 := Lib.hid (hO.keep _ _ _ _ _ HL.out k5); have K5 := Lib.hid (thru K4.out k5); clear k5))
  go_wp2_with (first
    | (go_at_call 16; refine (HBd.out _ _ _ HL5.out).mono ?_; rintro e w6 ⟨rfl, k6⟩; have HL6 := Lib.hid (hO.keep _ _ _ _ _ HL5.out k6); have K6 := Lib.hid (thru K5.out k6); have EQ := eqSpan_same bl br w6; clear k6)
    | (go_at_call 17; refine (HAf.out _ _ _ HL6.out).mono ?_; rintro e w7 ⟨rfl, k7⟩; have K7 := Lib.hid (thru K6.out k7); clear k7)
    | (go_at_call 13; refine (HRf.out _ K7.out).mono ?_; rintro e w8 ⟨⟨Ab, cb, rfl, h8⟩, k8⟩; have MB := Lib.hid h8; have K8 := Lib.hid (thru K7.out k8); clear h8 k8))
  obtain ⟨gb, rfl, hb1, hb2, -, -⟩ := MB.out.form hm0
  go_loopw [60] (fun i wr => ∃ k : Nat, k ≤ m ∧ i = .int .i64 (k : Int) ∧ Hid ((ss.take k).find? (fun x => decide (y < x.1)) = none ∧ Below w8.heap.size w8 wr)) (fun i _ => m - (intOf i).toNat)
  case atStart => exact ⟨0, Nat.zero_le _, rfl, Lib.hid ⟨by simp, Below.refl _ _⟩⟩
  case round =>
    obtain ⟨k, hk, rfl, H⟩ := hrel
    by_cases hlt : k < m
    · have hki : (k : Int) < (m : Int) := by omega
      have hk0 : ¬ (k : Int) < 0 := by omega
      obtain ⟨x, hx⟩ : ∃ x, ss[k]? = some x := ⟨_, List.getElem?_eq_getElem (by rw [HM.out]; exact hlt)⟩
      have a0 : wr.cell? ⟨gb, k * 3, none⟩ = some (.int .i64 x.1) := (H.out.2.cell (p := ⟨gb, k * 3, none⟩) hb2).trans (MB.out.at k x hx 0 (by decide))
      have a1 : wr.cell? ⟨gb, k * 3 + 1, none⟩ = some (.int .i64 x.2.1) := (H.out.2.cell (p := ⟨gb, k * 3 + 1, none⟩) hb2).trans (MB.out.at k x hx 1 (by decide))
      have a2 : wr.cell? ⟨gb, k * 3 + 2, none⟩ = some (.int .i64 x.2.2) := (H.out.2.cell (p := ⟨gb, k * 3 + 2, none⟩) hb2).trans (MB.out.at k x hx 2 (by decide))
      have HX1 := Lib.hid hx
      clear hx
      by_cases hp : y < x.1
      · have had := HAD.out
        rw [find_here H.out.1 HX1.out (by simp [hp])] at had
        injection had with h1 h2
        subst h1 h2
        clear HAD
        go_wp2_with fail
        go_ret
        exact ⟨rfl, thru K8.out (thru H.out.2 (ba1 wr _))⟩
      · have HNF := Lib.hid (find_not H.out.1 HX1.out (show decide (y < x.1) = false by simp; omega))
        go_wp2_with fail
        go_roundw
        case rel => exact ⟨k + 1, by omega, by go_num, Lib.hid ⟨HNF.out, thru H.out.2 (ba1 wr _)⟩⟩
        case measure => simp [intOf]; omega
    · obtain rfl : k = m := by omega
      have had := HAD.out
      have hnf := H.out.1
      rw [List.take_of_length_le (by rw [HM.out]; exact Nat.le_refl _)] at hnf
      rw [hnf] at had
      injection had with h1 h2
      subst h1 h2
      clear HAD hnf
      go_wp2_with fail
      go_ret
      exact ⟨rfl, thru K8.out H.out.2⟩

theorem bands_any (hO : ListOk L) (A : Option Addr) (n c : Nat) (fs : List Fl) (a z y : Int) (w : World) (hn : n = fs.length) (hm : n ≤ 9223372036854775807) (hx : Floats w w.heap.size A fs) :
    Calls Try.prog 4 #[.slice A n c, .int .i64 a, .int .i64 z, .int .i64 y] w fun e w' => e = .returned (.bool true) ∧ Below w.heap.size w w' := by
  by_cases h : (fs.all nearF && decide ((n : Int) ≤ 40)) = true
  · cases hs : [a, z, 0, 0].all inS
    · exact bands_far hO A n c fs a z y w hn hm hx h hs
    · simp only [Bool.and_eq_true, decide_eq_true_eq] at h
      exact bands_yes hO A n c fs a z y w hn hx h.1 (by omega) hs
  · exact bands_no hO A n c fs a z y w hn hm hx (by simpa using h)
end

end Go.Proofs.Ytdofmpmgcpobfaa.Shelf
