/- The law's example; the law of the shelves. -/
import Derived.Test.YtdofmpmgcpobfaaShelfSOk
import Derived.Laws.StructEq
namespace Go.Proofs.Ytdofmpmgcpobfaa.Shelf
open Go.RowKit Go.Sort Go.Proofs.Ytdofmpmgcpobfaa.Rect Go.Proofs.Ytdofmpmgcpobfaa.More

theorem eqSh_same (a b c : Int) (w : World) : (Op.equalIn 10000 33 (.agg #[.int .i64 a, .int .i64 b, .int .i64 c]) (.agg #[.int .i64 a, .int .i64 b, .int .i64 c])).run Try.prog w = .ok true w := by
  have u3 := Try.underlying3
  have a3 := Try.isAgg3
  have z3 := Try.sizeOf3
  have hS : Try.prog.underlying 33 = some (.struct (Try.prog.fieldsOf 33)) := by kernel_rfl
  rw [show (10000 : Nat) = 9999 + 1 from rfl, run_equalIn_agg w 9999 33 _ _ hS (by kernel_rfl)]
  simp only [Program.fieldsOf, Try.underlying33]
  go_simp

theorem field_sp (a b : Int) (w : World) : (Instr.field 40 (.agg #[.int .i64 a, .int .i64 b]) 0).run Try.prog w = .ok (.int .i64 a) w := by
  kernel_rfl

/-- The example's float. -/
def exF : Fl := ⟨1, 0, 2, 3, 5⟩

section
variable {L : World → Nat → Addr → List Fl → Prop}

set_option maxRecDepth 100000 in
set_option maxHeartbeats 2000000 in
theorem sspeaks (hO : ListOk L) (w : World) : Calls Try.prog 9 #[] w fun e w' => e = .returned (.bool true) ∧ Below w.heap.size w w' := by
  have HNew := Lib.hid (hO.new w)
  have hl : (shelvesD [exF]).length = 3 := by decide
  have hb : bandL [exF] 0 9 = 3 := by decide
  have HAdd := Lib.hid (fun w1 p (h : L w1 w.heap.size p []) (k : Below w.heap.size w w1) => hO.add w1 w.heap.size p [] exF h k.size (by decide) (by decide) (by decide))
  have HSh := Lib.hid (fun w1 p (h : L w1 w.heap.size p [exF]) => hO.shelves w1 w.heap.size p [exF] h (by decide))
  rw [hl] at HSh
  have HBd := Lib.hid (fun w1 p (h : L w1 w.heap.size p [exF]) => hO.band w1 w.heap.size p [exF] 0 9 h (by decide) (by decide) (by decide))
  obtain ⟨R, hR⟩ : ∃ R, bandR [exF] 0 9 = R := ⟨_, rfl⟩
  rw [hb, hR] at HBd
  clear hl hb hR
  go_enter Try.func9, Try.ntmps9
  go_wp2_with (first
    | (go_at_call 19; refine HNew.out.mono ?_; rintro e w1 ⟨⟨p, rfl, hL⟩, k1⟩; have HL := Lib.hid hL; have K1 := Lib.hid k1; clear hL k1)
    | (go_at_call 20; refine (HAdd.out _ _ HL.out K1.out).mono ?_; rintro e w2 ⟨⟨v, rfl⟩, hL2, k2⟩; have HL2 := Lib.hid hL2; have K2 := Lib.hid (K1.out.trans k2); clear hL2 k2)
    | (go_at_call 12; refine (HSh.out _ _ HL2.out).mono ?_; rintro e w3 ⟨⟨A3, c3, rfl, -⟩, k3⟩; have HL3 := Lib.hid (hO.keep _ _ _ _ _ HL2.out k3); have K3 := Lib.hid (thru K2.out k3); clear k3)
    | (go_at_call 16; refine (HBd.out _ _ HL3.out).mono ?_; rintro e w4 ⟨rfl, k4⟩; have K4 := Lib.hid (thru K3.out k4); have hf := field_sp 3 R w4; clear k4))
  go_ret
  exact ⟨rfl, K4.out⟩

set_option maxRecDepth 100000 in
set_option maxHeartbeats 1000000 in
theorem lays_no (hO : ListOk L) (A : Option Addr) (n c : Nat) (fs : List Fl) (w : World) (hn : n = fs.length) (hlen : n ≤ 9223372036854775807) (hx : Floats w w.heap.size A fs) (hv : (fs.all nearF && decide ((n : Int) ≤ 40)) = false) :
    Calls Try.prog 3 #[.slice A n c] w fun e w' => e = .returned (.bool true) ∧ Below w.heap.size w w' := by
  have HFew := Lib.hid (fun w1 (k : Below w.heap.size w w1) => few_is A n c fs 40 false w1 hn hlen (hx.thru k) hv)
  clear hx hn hv
  go_enter Try.func3, Try.ntmps3
  go_upto_region 2 with (first
    | (go_at_call 9; refine (sspeaks hO _).mono ?_; rintro e w1 ⟨rfl, k1⟩; have K1 := Lib.hid k1; clear k1)
    | (go_at_call 10; refine (HFew.out _ K1.out).mono ?_; rintro e w2 ⟨rfl, k2⟩; have K2 := Lib.hid (thru K1.out k2); clear k2))
  go_wp2_with (first
    | (go_at_call 9; refine (sspeaks hO _).mono ?_; rintro e w3 ⟨rfl, k3⟩; have K3 := Lib.hid (thru K2.out k3); clear k3))
  go_ret
  exact ⟨rfl, K3.out⟩

set_option maxRecDepth 100000 in
set_option maxHeartbeats 4000000 in
theorem lays_yes (hO : ListOk L) (A : Option Addr) (n c : Nat) (fs : List Fl) (w : World) (hn : n = fs.length) (hx : Floats w w.heap.size A fs) (hs : fs.all nearF = true) (h40 : n ≤ 40) :
    Calls Try.prog 3 #[.slice A n c] w fun e w' => e = .returned (.bool true) ∧ Below w.heap.size w w' := by
  have HFew := Lib.hid (fun w1 (k : Below w.heap.size w w1) => few_is A n c fs 40 true w1 hn (by omega) (hx.thru k) (by rw [hs]; simp; omega))
  have HBe := Lib.hid (fun w1 (k : Below w.heap.size w w1) => begin_any hO A n c fs w1 hn (by omega) (hx.thru k) hs)
  have HRf := Lib.hid (fun w1 (k : Below w.heap.size w w1) => refshelves_any A n c fs w1 hn (by omega) (hx.thru k))
  have HSh := Lib.hid (fun w1 B p (h : L w1 B p fs) => hO.shelves w1 B p fs h hs)
  obtain ⟨ss, hss⟩ : ∃ ss, shelvesD fs = ss := ⟨_, rfl⟩
  obtain ⟨m, hm⟩ : ∃ m, ss.length = m := ⟨_, rfl⟩
  have hm0 : 0 < m := by rw [← hm, ← hss]; unfold shelvesD; simp
  have hmb : m ≤ 1000 := by have := shelvesD_len fs; rw [hss, hm] at this; omega
  rw [hss, hm] at HRf HSh
  have HM := Lib.hid hm
  clear hn hx hs hss hm
  go_enter Try.func3, Try.ntmps3
  go_wp2_with (first
    | (go_at_call 9; refine (sspeaks hO _).mono ?_; rintro e w1 ⟨rfl, k1⟩; have K1 := Lib.hid k1; clear k1)
    | (go_at_call 10; refine (HFew.out _ K1.out).mono ?_; rintro e w2 ⟨rfl, k2⟩; have K2 := Lib.hid (thru K1.out k2); clear k2)
    | (go_at_call 11; refine (HBe.out _ K2.out).mono ?_; rintro e w3 ⟨⟨p, rfl, hL⟩, k3⟩; have HL := Lib.hid hL; have K3 := Lib.hid (thru K2.out k3); clear hL k3)
    | (go_at_call 12; refine (HSh.out _ _ _ HL.out).mono ?_; rintro e w4 ⟨⟨Aa, ca, rfl, h4⟩, k4⟩; have MA := Lib.hid h4; have K4 := Lib.hid (thru K3.out k4); clear h4 k4)
    | (go_at_call 13; refine (HRf.out _ K4.out).mono ?_; rintro e w5 ⟨⟨Ab, cb, rfl, h5⟩, k5⟩; have MB := Lib.hid h5; have L5 := Lib.hid k5; have K5 := Lib.hid (thru K4.out k5); clear h5 k5))
  obtain ⟨ga, rfl, ha1, ha2, -, -⟩ := MA.out.form hm0
  obtain ⟨gb, rfl, hb1, hb2, -, -⟩ := MB.out.form hm0
  go_loopw [31] (fun i wr => ∃ k : Nat, k ≤ m ∧ i = .int .i64 (k : Int) ∧ Hid (Below w5.heap.size w5 wr)) (fun i _ => m - (intOf i).toNat)
  case atStart => exact ⟨0, Nat.zero_le _, rfl, Lib.hid (Below.refl _ _)⟩
  case round =>
    obtain ⟨k, hk, rfl, H⟩ := hrel
    by_cases hlt : k < m
    · have hki : (k : Int) < (m : Int) := by omega
      have hk0 : ¬ (k : Int) < 0 := by omega
      obtain ⟨x, hx⟩ : ∃ x, ss[k]? = some x := ⟨_, List.getElem?_eq_getElem (by rw [HM.out]; exact hlt)⟩
      have a0 : wr.cell? ⟨ga, k * 3, none⟩ = some (.int .i64 x.1) := ((thru L5.out H.out).cell (p := ⟨ga, k * 3, none⟩) ha2).trans (MA.out.at k x hx 0 (by decide))
      have a1 : wr.cell? ⟨ga, k * 3 + 1, none⟩ = some (.int .i64 x.2.1) := ((thru L5.out H.out).cell (p := ⟨ga, k * 3 + 1, none⟩) ha2).trans (MA.out.at k x hx 1 (by decide))
      have a2 : wr.cell? ⟨ga, k * 3 + 2, none⟩ = some (.int .i64 x.2.2) := ((thru L5.out H.out).cell (p := ⟨ga, k * 3 + 2, none⟩) ha2).trans (MA.out.at k x hx 2 (by decide))
      have G0 := Lib.hid (fun w' (j : Below w5.heap.size w5 w') => ((j.cell (p := ⟨gb, k * 3, none⟩) hb2).trans (MB.out.at k x hx 0 (by decide)) : w'.cell? ⟨gb, k * 3, none⟩ = some (.int .i64 x.1)))
      have G1 := Lib.hid (fun w' (j : Below w5.heap.size w5 w') => ((j.cell (p := ⟨gb, k * 3 + 1, none⟩) hb2).trans (MB.out.at k x hx 1 (by decide)) : w'.cell? ⟨gb, k * 3 + 1, none⟩ = some (.int .i64 x.2.1)))
      have G2 := Lib.hid (fun w' (j : Below w5.heap.size w5 w') => ((j.cell (p := ⟨gb, k * 3 + 2, none⟩) hb2).trans (MB.out.at k x hx 2 (by decide)) : w'.cell? ⟨gb, k * 3 + 2, none⟩ = some (.int .i64 x.2.2)))
      clear hx
      go_upto_region 12 with fail
      generalize hW : World.alloc wr _ = W
      have hbW : Below wr.heap.size wr W := by rw [← hW]; exact ba1 _ _
      have e0 : W.cell? ⟨wr.heap.size, 0, none⟩ = some (.int .i64 x.1) := by rw [← hW]; simp [go_sem]
      have e1 : W.cell? ⟨wr.heap.size, 1, none⟩ = some (.int .i64 x.2.1) := by rw [← hW]; simp [go_sem]
      have e2 : W.cell? ⟨wr.heap.size, 2, none⟩ = some (.int .i64 x.2.2) := by rw [← hW]; simp [go_sem]
      have KW := Lib.hid (thru H.out hbW)
      have GB0 := Lib.hid (fun w' (j : Below W.heap.size W w') => G0.out w' (thru KW.out j))
      have GB1 := Lib.hid (fun w' (j : Below W.heap.size W w') => G1.out w' (thru KW.out j))
      have GB2 := Lib.hid (fun w' (j : Below W.heap.size W w') => G2.out w' (thru KW.out j))
      clear hW hbW a0 a1 a2 G0 G1 G2
      refine Hold.wp_region_hold [.val (.agg #[.int .i64 x.1, .int .i64 x.2.1, .int .i64 x.2.2]), .val (.slice (some ⟨gb, 0, none⟩) m cb), .val (.int .i64 (k : Int)), .val (.pointer (some ⟨gb, k * 3, none⟩)), .val (.agg #[.int .i64 x.1, .int .i64 x.2.1, .int .i64 x.2.2])] (by kernel_rfl) (by kernel_rfl) (by kernel_rfl) ?_ ?_
      · simp only [Hold.fill, Hold.Leave.value]
        refine ⟨?_, ?_, ?_, ?_, ?_, trivial⟩
        · intro gg w' hw hk
          have q0 := (hw.cell (p := ⟨wr.heap.size, 0, none⟩) (block_lt_of_cell e0)).trans e0
          have q1 := (hw.cell (p := ⟨wr.heap.size, 1, none⟩) (block_lt_of_cell e1)).trans e1
          have q2 := (hw.cell (p := ⟨wr.heap.size, 2, none⟩) (block_lt_of_cell e2)).trans e2
          go_simp
          exact ⟨rfl, rfl⟩
        · intro gg w' hw hk
          go_simp
          exact ⟨rfl, rfl⟩
        · intro gg w' hw hk
          go_simp
          exact ⟨rfl, rfl⟩
        · intro gg w' hw hk
          go_simp
          exact ⟨rfl, rfl⟩
        · intro gg w' hw hk
          have q0 := GB0.out w' hw
          have q1 := GB1.out w' hw
          have q2 := GB2.out w' hw
          go_simp
          exact ⟨rfl, rfl⟩
      intro gg w2 k2 hgg
      clear hgg
      simp only [Hold.fill, Hold.Leave.value, List.length_cons, List.length_nil, List.drop_succ_cons, List.drop_zero]
      have HR := Lib.hid (thru KW.out k2)
      have EQ := eqSh_same x.1 x.2.1 x.2.2 w2
      clear k2 e0 e1 e2
      go_wp2_with fail
      go_roundw
      case rel => exact ⟨k + 1, by omega, by go_num, HR⟩
      case measure => simp [intOf]; omega
    · obtain rfl : k = m := by omega
      go_wp2_with fail
      go_ret
      exact ⟨rfl, thru K5.out H.out⟩

theorem lays_any (hO : ListOk L) (A : Option Addr) (n c : Nat) (fs : List Fl) (w : World) (hn : n = fs.length) (hm : n ≤ 9223372036854775807) (hx : Floats w w.heap.size A fs) :
    Calls Try.prog 3 #[.slice A n c] w fun e w' => e = .returned (.bool true) ∧ Below w.heap.size w w' := by
  by_cases h : (fs.all nearF && decide ((n : Int) ≤ 40)) = true
  · simp only [Bool.and_eq_true, decide_eq_true_eq] at h
    exact lays_yes hO A n c fs w hn hx h.1 (by omega)
  · exact lays_no hO A n c fs w hn hm hx (by simpa using h)
end

end Go.Proofs.Ytdofmpmgcpobfaa.Shelf
