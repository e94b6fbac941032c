/- The law of what a space leaves free. -/
import Derived.Test.YtpfcefflcmeobaaSpacePTells
namespace Go.Proofs.Ytpfcefflcmeobaa.Space
open Go.RowKit Go.Sort Go.Proofs.Ytpfcefflcmeobaa.Rect Go.Proofs.Ytpfcefflcmeobaa.More Go.Proofs.Ytpfcefflcmeobaa.Shelf
set_option linter.unusedVariables false

theorem eqSpan_same (a b : Int) (w : World) : (Op.equalIn 10000 49 (.agg #[.int .i64 a, .int .i64 b]) (.agg #[.int .i64 a, .int .i64 b])).run Try.prog w = .ok true w := by
  have u3 := Try.underlying3
  have a3 := Try.isAgg3
  have z3 := Try.sizeOf3
  have hS : Try.prog.underlying 49 = some (.struct (Try.prog.fieldsOf 49)) := by kernel_rfl
  rw [show (10000 : Nat) = 9999 + 1 from rfl, run_equalIn_agg w 9999 49 _ _ hS (by kernel_rfl)]
  simp only [Program.fieldsOf, Try.underlying49]
  go_simp

section
variable {S : World → (Nat → Prop) → Addr → List Fl → Prop}

set_option maxRecDepth 100000 in
set_option maxHeartbeats 600000 in
theorem frees_few (hO : SpaceOk S) (A : Option Addr) (n c : Nat) (fs : List Fl) (a z y h : Int) (w : World) (hn : n = fs.length) (hlen : n ≤ 9223372036854775807) (hx : Floats w w.heap.size A fs) (hv : (fs.all nearF && decide ((n : Int) ≤ 40)) = false) :
    Calls Try.prog 4 #[.slice A n c, .int .i64 a, .int .i64 z, .int .i64 y, .int .i64 h] w fun e w' => e = .returned (.bool true) ∧ Below w.heap.size w w' := by
  have HFew := Lib.hid (fun w1 (k : Below w.heap.size w w1) => few_is A n c fs 40 false w1 hn hlen (hx.thru k) hv)
  clear hx hn hv
  go_enter Try.func4, Try.ntmps4
  go_upto_region 2 with (first
    | (go_at_call 8; refine (pspeaks hO _).mono ?_; rintro e w1 ⟨rfl, k1⟩; have K1 := Lib.hid k1; clear k1)
    | (go_at_call 9; refine (HFew.out _ K1.out).mono ?_; rintro e w2 ⟨rfl, k2⟩; have K2 := Lib.hid (thru K1.out k2); clear k2))
  go_wp2_with (first
    | (go_at_call 8; refine (pspeaks hO _).mono ?_; rintro e w9 ⟨rfl, k9⟩; have K9 := Lib.hid (thru K2.out k9); clear k9))
  go_ret
  exact ⟨rfl, K9.out⟩

set_option maxRecDepth 100000 in
set_option maxHeartbeats 600000 in
theorem frees_sides (hO : SpaceOk S) (A : Option Addr) (n c : Nat) (fs : List Fl) (a z y h : Int) (w : World) (hn : n = fs.length) (hlen : n ≤ 40) (hx : Floats w w.heap.size A fs) (hs : fs.all nearF = true) (hv : fs.all sideF = false) :
    Calls Try.prog 4 #[.slice A n c, .int .i64 a, .int .i64 z, .int .i64 y, .int .i64 h] w fun e w' => e = .returned (.bool true) ∧ Below w.heap.size w w' := by
  have HFew := Lib.hid (fun w1 (k : Below w.heap.size w w1) => few_is A n c fs 40 true w1 hn (by omega) (hx.thru k) (by rw [hs]; simp; omega))
  have HSd := Lib.hid (fun w1 (k : Below w.heap.size w w1) => sides_is A n c fs false w1 hn (by omega) (hx.thru k) hv)
  clear hx hn hv hs
  go_enter Try.func4, Try.ntmps4
  go_upto_region 2 with (first
    | (go_at_call 8; refine (pspeaks hO _).mono ?_; rintro e w1 ⟨rfl, k1⟩; have K1 := Lib.hid k1; clear k1)
    | (go_at_call 9; refine (HFew.out _ K1.out).mono ?_; rintro e w2 ⟨rfl, k2⟩; have K2 := Lib.hid (thru K1.out k2); clear k2)
    | (go_at_call 10; refine (HSd.out _ K2.out).mono ?_; rintro e w3 ⟨rfl, k3⟩; have K3 := Lib.hid (thru K2.out k3); clear k3))
  go_wp2_with (first
    | (go_at_call 8; refine (pspeaks hO _).mono ?_; rintro e w9 ⟨rfl, k9⟩; have K9 := Lib.hid (thru K3.out k9); clear k9))
  go_ret
  exact ⟨rfl, K9.out⟩

set_option maxRecDepth 100000 in
set_option maxHeartbeats 1000000 in
theorem frees_yes (hO : SpaceOk S) (A : Option Addr) (n c : Nat) (fs : List Fl) (a z y h : Int) (w : World) (hn : n = fs.length) (hlen : n ≤ 40) (hx : Floats w w.heap.size A fs) (hs : fs.all nearF = true) (hsd : fs.all sideF = true) :
    Calls Try.prog 4 #[.slice A n c, .int .i64 a, .int .i64 z, .int .i64 y, .int .i64 h] w fun e w' => e = .returned (.bool true) ∧ Below w.heap.size w w' := by
  have HFew := Lib.hid (fun w1 (k : Below w.heap.size w w1) => few_is A n c fs 40 true w1 hn (by omega) (hx.thru k) (by rw [hs]; simp; omega))
  have HSd := Lib.hid (fun w1 (k : Below w.heap.size w w1) => sides_is A n c fs true w1 hn (by omega) (hx.thru k) hsd)
  have HBe := Lib.hid (fun w1 (k : Below w.heap.size w w1) => pbegin_any hO A n c fs w1 hn (by omega) (hx.thru k) hs hsd)
  have HHi := Lib.hid (fun w => high_is h w)
  have hz1 := highZ_pos h
  have hz3 : highZ h ≤ max 1 h := by unfold highZ; split <;> omega
  have HRo0 := Lib.hid (fun w hy hh => hO.rows y h w hy hh)
  have HBo0 := Lib.hid (fun w1 F p hy hh (h' : S w1 F p fs) => hO.bounds w1 F p fs y (y + highZ h) h' hs hy hh)
  have HFr0 := Lib.hid (fun w1 F p hy hh (h' : S w1 F p fs) => hO.free w1 F p fs a z y (y + highZ h) h' hs hy hh)
  have HBr0 := Lib.hid (fun w1 hy hh (k : Below w.heap.size w w1) => refrows_any A n c fs y h w1 hn (by omega) (hx.thru k) hy hh)
  have HFr1 := Lib.hid (fun w1 hy hh (k : Below w.heap.size w w1) => reffree_any A n c fs a z y h w1 hn (by omega) (hx.thru k) hy hh)
  obtain ⟨t, ht⟩ : ∃ t, y + highZ h = t := ⟨_, rfl⟩
  obtain ⟨L, hL⟩ : ∃ L, bandL fs y t = L := ⟨_, rfl⟩
  obtain ⟨R, hR⟩ : ∃ R, bandR fs y t = R := ⟨_, rfl⟩
  obtain ⟨L2, hL2⟩ : ∃ L2, max a L = L2 := ⟨_, rfl⟩
  obtain ⟨R2, hR2⟩ : ∃ R2, min z R = R2 := ⟨_, rfl⟩
  rw [ht] at HRo0 HBo0 HFr0 HBr0 HFr1
  rw [hL, hR] at HBo0 HFr0 HBr0 HFr1
  rw [hL2, hR2] at HFr0 HFr1
  obtain ⟨g, hg⟩ : ∃ g, highZ h = g := ⟨_, rfl⟩
  rw [hg] at HHi ht hz1 hz3
  obtain ⟨xs, hxs⟩ : ∃ xs : List Int, [a, z, y, h] = xs := ⟨_, rfl⟩
  have HXS := Lib.hid hxs
  have HT := Lib.hid (⟨ht, hz1, hz3⟩ : y + g = t ∧ 1 ≤ g ∧ g ≤ max 1 h)
  clear hx hn hs hsd ht hL hR hL2 hR2 hg hz1 hz3 hxs
  go_enter Try.func4, Try.ntmps4
  go_upto_region 3 with (first
    | (go_at_call 8; refine (pspeaks hO _).mono ?_; rintro e w1 ⟨rfl, k1⟩; have K1 := Lib.hid k1; clear k1)
    | (go_at_call 9; refine (HFew.out _ K1.out).mono ?_; rintro e w2 ⟨rfl, k2⟩; have K2 := Lib.hid (thru K1.out k2); clear k2)
    | (go_at_call 10; refine (HSd.out _ K2.out).mono ?_; rintro e w3 ⟨rfl, k3⟩; have K3 := Lib.hid (thru K2.out k3); clear k3))
  go_upto_region 4 with fail
  generalize hW : World.alloc w3 _ = W
  obtain ⟨rb, hrb⟩ : ∃ rb, w3.heap.size = rb := ⟨_, rfl⟩
  have hkW : Below w3.heap.size w3 W := by rw [← hW]; exact ba1 _ _
  have hcs : ∀ k : Nat, k < 4 → W.cell? ⟨rb, k, none⟩ = some (.int .i64 (xs.getD k 0)) := by
    intro k hk
    rw [← hW, ← hrb, ← HXS.out]
    match k, hk with
    | 0, _ => simp [go_sem]
    | 1, _ => simp [go_sem]
    | 2, _ => simp [go_sem]
    | 3, _ => simp [go_sem]
    | k + 4, h => omega
  rw [hrb]
  have HCS := Lib.hid hcs
  have KW := Lib.hid (thru K3.out hkW)
  have hrl := Lib.hid (block_lt_of_cell (hcs 0 (by omega)))
  clear hW hkW hrb hcs
  go_loopw [38] (fun i wr => ∃ k : Nat, k ≤ 4 ∧ i = .int .i64 (k : Int) ∧ Hid ((∀ j, j < k → -1125899906842624 ≤ xs.getD j 0 ∧ xs.getD j 0 ≤ 1125899906842624) ∧ Below W.heap.size W wr)) (fun i _ => 4 - (intOf i).toNat)
  case atStart => exact ⟨0, by omega, rfl, Lib.hid ⟨fun j hj => by omega, Below.refl _ _⟩⟩
  case round =>
    obtain ⟨k, hk, rfl, H⟩ := hrel
    by_cases hlt : k < 4
    · have hki : (k : Int) < 4 := by omega
      have hk0 : ¬ (k : Int) < 0 := by omega
      have hcell := (H.out.2.cell (p := ⟨rb, k, none⟩) hrl.out).trans (HCS.out k hlt)
      obtain ⟨x, hxk⟩ : ∃ x, xs.getD k 0 = x := ⟨_, rfl⟩
      rw [hxk] at hcell
      have HXK := Lib.hid hxk
      clear hxk
      by_cases c1 : x > 1125899906842624
      · go_wp2_with fail
        go_ret
        exact ⟨rfl, thru KW.out H.out.2⟩
      · by_cases c2 : x < -1125899906842624
        · go_wp2_with fail
          go_ret
          exact ⟨rfl, thru KW.out H.out.2⟩
        · have HJ := Lib.hid (show ∀ j, j < k + 1 → -1125899906842624 ≤ xs.getD j 0 ∧ xs.getD j 0 ≤ 1125899906842624 from fun j hj => by
            rcases (show j < k ∨ j = k by omega) with e | e
            · exact H.out.1 j e
            · rw [e, HXK.out]; omega)
          go_wp2_with fail
          go_roundw
          case rel => exact ⟨k + 1, by omega, by go_num, Lib.hid ⟨HJ.out, H.out.2⟩⟩
          case measure => simp [intOf]; omega
    · obtain rfl : k = 4 := by omega
      have hy : -1125899906842624 ≤ y ∧ y ≤ 1125899906842624 := by have := H.out.1 2 (by omega); rw [← HXS.out] at this; exact this
      have hh : -1125899906842624 ≤ h ∧ h ≤ 1125899906842624 := by have := H.out.1 3 (by omega); rw [← HXS.out] at this; exact this
      have hT := HT.out
      have HRo := Lib.hid (fun w => HRo0.out w ⟨by omega, by omega⟩ (by omega))
      have HBo := Lib.hid (fun w1 F p (h' : S w1 F p fs) => HBo0.out w1 F p (by omega) (by omega) h')
      have HFr := Lib.hid (fun w1 F p (h' : S w1 F p fs) => HFr0.out w1 F p (by omega) (by omega) h')
      have HBr := Lib.hid (fun w1 (k : Below w.heap.size w w1) => HBr0.out w1 ⟨by omega, by omega⟩ (by omega) k)
      have HFf := Lib.hid (fun w1 (k : Below w.heap.size w w1) => HFr1.out w1 ⟨by omega, by omega⟩ (by omega) k)
      have hw : IntKind.i64.wrap (y + g) = t := by rw [IntWalk.i64_in _ (by omega)]; omega
      have KR := Lib.hid (thru KW.out H.out.2)
      have HW := Lib.hid hw
      clear H HCS hlt hT hy hh HRo0 HBo0 HFr0 HBr0 HFr1 hw
      go_upto_region 12 with (first
        | (go_at_call 11; refine (HBe.out _ KR.out).mono ?_; rintro e w4 ⟨⟨p, F, rfl, hL, hF⟩, k4⟩; have HL := Lib.hid hL; have K4 := Lib.hid (thru KR.out k4); clear hL hF k4))
      go_upto_region 13 with (first
        | (go_at_call 20; refine (HRo.out _).mono ?_; rintro e w5 ⟨rfl, k5⟩; have HL5 := Lib.hid (hO.thru HL.out k5); have K5 := Lib.hid (thru K4.out k5); clear k5))
      generalize hV : World.alloc w5 _ = V
      obtain ⟨vb, hvb⟩ : ∃ vb, w5.heap.size = vb := ⟨_, rfl⟩
      have hkV : Below w5.heap.size w5 V := by rw [← hV]; exact ba1 _ _
      have e0 : V.cell? ⟨vb, 0, none⟩ = some (.int .i64 y) := by rw [← hV, ← hvb]; simp [go_sem]
      have e1 : V.cell? ⟨vb, 1, none⟩ = some (.int .i64 t) := by rw [← hV, ← hvb]; simp [go_sem]
      rw [hvb]
      have hvl : vb < V.heap.size := block_lt_of_cell e0
      have HE := Lib.hid (fun w' (j : Below V.heap.size V w') => (⟨(j.cell (p := ⟨vb, 0, none⟩) hvl).trans e0, (j.cell (p := ⟨vb, 1, none⟩) hvl).trans e1⟩ : w'.cell? ⟨vb, 0, none⟩ = some (.int .i64 y) ∧ w'.cell? ⟨vb, 1, none⟩ = some (.int .i64 t)))
      have HLV := Lib.hid (hO.thru HL5.out hkV)
      have KV := Lib.hid (thru K5.out hkV)
      clear hV hkV hvb e0 e1 hvl
      refine HoldAll.wp_region_hold_all [.val (.agg #[.int .i64 y, .int .i64 t]), .val (.int .i64 y), .val (.int .i64 y), .val (.int .i64 h), .val (.int .i64 g), .val (.int .i64 t), .val (.agg #[.int .i64 y, .int .i64 t]), .val (.bool false)] (by kernel_rfl) (by kernel_rfl) (by kernel_rfl) ?_ ?_
      · simp only [Hold.fill, Hold.Leave.value]
        refine ⟨?_, ?_, ?_, ?_, ?_, ?_, ?_, ?_, trivial⟩
        · intro gg w' hw hk
          have q := HE.out w' hw
          have q1 := q.1
          have q2 := q.2
          clear q
          go_simp
          exact ⟨rfl, rfl⟩
        · intro gg w' hw hk
          go_simp
          exact ⟨rfl, rfl⟩
        · intro gg w' hw hk
          go_simp
          exact ⟨rfl, rfl⟩
        · intro gg w' hw hk
          go_simp
          exact ⟨rfl, rfl⟩
        · intro gg w' hw hk
          go_simp
          exact Hold.stays_call (HHi.out w')
        · intro gg w' hw hk
          have q := HW.out
          go_simp
          exact ⟨rfl, rfl⟩
        · intro gg w' hw hk
          go_simp
          exact ⟨rfl, rfl⟩
        · intro gg w' hw hk
          have q := eqSpan_same y t w'
          go_simp
          exact ⟨rfl, rfl⟩
      intro gg w6 k6 hgg
      clear hgg
      simp only [Hold.fill, Hold.Leave.value]
      have HL6 := Lib.hid (hO.thru HLV.out k6)
      have K6 := Lib.hid (thru KV.out k6)
      have Q6 := Lib.hid k6
      clear k6
      go_simp
      go_upto_region 17 with (first
        | (go_at_call 22; refine (HBr.out _ K6.out).mono ?_; rintro e w7 ⟨rfl, k7⟩; have S7 := Lib.hid (⟨hO.thru HL6.out k7, thru Q6.out k7, thru K6.out k7⟩ : S w7 F p fs ∧ Below V.heap.size V w7 ∧ Below w.heap.size w w7); clear k7)
        | (go_at_call 23; refine (HFf.out _ S7.out.2.2).mono ?_; rintro e w8 ⟨rfl, k8⟩; have S8 := Lib.hid (⟨hO.thru S7.out.1 k8, thru S7.out.2.1 k8, thru S7.out.2.2 k8⟩ : S w8 F p fs ∧ Below V.heap.size V w8 ∧ Below w.heap.size w w8); clear k8))
      have hq := HE.out w8 S8.out.2.1
      have q0 := hq.1
      have q1 := hq.2
      clear hq
      go_wp2_with (first
        | (go_at_call 24; refine (HBo.out _ _ _ S8.out.1).mono ?_; rintro e w9 ⟨rfl, k9⟩; have S9 := Lib.hid (⟨hO.thru S8.out.1 k9, thru S8.out.2.2 k9⟩ : S w9 F p fs ∧ Below w.heap.size w w9); have eq9 := eqSpan_same L R w9; have hq := HE.out w9 (thru S8.out.2.1 k9); have p0 := hq.1; have p1 := hq.2; clear hq k9 q0 q1)
        | (go_at_call 25; refine (HFr.out _ _ _ S9.out.1).mono ?_; rintro e w10 ⟨rfl, k10⟩; have S10 := Lib.hid (thru S9.out.2 k10); have eq10 := eqSpan_same L2 R2 w10; clear k10))
      go_ret
      exact ⟨rfl, S10.out⟩

theorem frees_any (hO : SpaceOk S) (A : Option Addr) (n c : Nat) (fs : List Fl) (a z y h : Int) (w : World) (hn : n = fs.length) (hm : n ≤ 9223372036854775807) (hx : Floats w w.heap.size A fs) :
    Calls Try.prog 4 #[.slice A n c, .int .i64 a, .int .i64 z, .int .i64 y, .int .i64 h] w fun e w' => e = .returned (.bool true) ∧ Below w.heap.size w w' := by
  by_cases hh : (fs.all nearF && decide ((n : Int) ≤ 40)) = true
  · simp only [Bool.and_eq_true, decide_eq_true_eq] at hh
    by_cases h2 : fs.all sideF = true
    · exact frees_yes hO A n c fs a z y h w hn (by omega) hx hh.1 h2
    · exact frees_sides hO A n c fs a z y h w hn (by omega) hx hh.1 (by simpa using h2)
  · exact frees_few hO A n c fs a z y h w hn hm hx (by simpa using hh)

end

end Go.Proofs.Ytpfcefflcmeobaa.Space
