/- The contract of the program's columns of all contents. -/
import Derived.Test.YtnmfgcdenngpfaaPart16
import Derived.Test.YtnmfgcdenngpfaaPart10
import Derived.Test.YtnmfgcdenngpfaaPart17
import Derived.Test.YtnmfgcdenngpfaaPart9
import Derived.Test.YtnmfgcdenngpfaaPart18
namespace Go.Proofs.Ytnmfgcdenngpfaa.Width
open Go.RowKit Go.Sort Go.Proofs.Ytnmfgcdenngpfaa.Record Go.Proofs.Ytnmfgcdenngpfaa.Script Go.Proofs.Ytnmfgcdenngpfaa.Tree Go.Proofs.Ytnmfgcdenngpfaa.More

/-- The first k columns have been written. -/
def partS (bs : List Bx) (k : Nat) : List Sp := (List.range bs.length).map fun j => if j < k then ⟨lefD bs j, lefD bs j + widD bs j⟩ else ⟨0, 0⟩

theorem partS_len (bs : List Bx) (k : Nat) : (partS bs k).length = bs.length := by simp [partS]
theorem partS_at {bs : List Bx} {k j : Nat} (hj : j < bs.length) : (partS bs k)[j]? = some (if j < k then ⟨lefD bs j, lefD bs j + widD bs j⟩ else ⟨0, 0⟩) := by simp [partS, hj]
theorem partS_zero (bs : List Bx) : partS bs 0 = List.replicate bs.length ⟨0, 0⟩ := by
  refine List.ext_getElem? fun j => ?_
  by_cases hj : j < bs.length
  · rw [partS_at hj, if_neg (by omega)]; simp [hj]
  · rw [List.getElem?_eq_none (by rw [partS_len]; omega), List.getElem?_eq_none (by simp; omega)]
theorem partS_all (bs : List Bx) : partS bs bs.length = spsD bs := by
  refine List.ext_getElem? fun j => ?_
  by_cases hj : j < bs.length
  · rw [partS_at hj, if_pos hj, spsD_at hj]
  · rw [List.getElem?_eq_none (by rw [partS_len]; omega), List.getElem?_eq_none (by rw [spsD_len]; omega)]
theorem partS_step {bs : List Bx} {k : Nat} (hk : k < bs.length) : partS bs (k + 1) = (partS bs k).set k ⟨lefD bs k, lefD bs k + widD bs k⟩ := by
  refine List.ext_getElem? fun j => ?_
  by_cases hj : j < bs.length
  · rw [partS_at hj]
    by_cases e : j = k
    · subst e
      rw [if_pos (by omega), List.getElem?_set_self (by rw [partS_len]; exact hj)]
    · rw [List.getElem?_set_ne (fun h => e h.symm), partS_at hj]
      by_cases h2 : j < k
      · rw [if_pos (by omega), if_pos h2]
      · rw [if_neg (by omega), if_neg h2]
  · rw [List.getElem?_eq_none (by rw [partS_len]; omega), List.getElem?_eq_none (by rw [List.length_set, partS_len]; omega)]

theorem make_spans (w : World) (n : Nat) (hn : n ≤ 1000) : ∃ w', (Instr.makeSlice 38 (.int .i64 (n : Int)) (.int .i64 (n : Int))).run Try.prog w = .ok (.slice (some ⟨w.heap.size, 0, none⟩) n n) w' ∧
    MineE encSp 41 w' w.heap.size (some ⟨w.heap.size, 0, none⟩) n n (List.replicate n ⟨0, 0⟩) ∧ Below w.heap.size w w' :=
  run_make_E encSp (bytes := 16) ⟨0, 0⟩ (.agg #[.int .i64 0, .int .i64 0]) rfl Try.underlying38 (by kernel_rfl) (by omega) w n (by omega)

theorem oneS_mine (w : World) : MineE encSp 41 (w.alloc (.cells #[.int .i64 0, .int .i64 0] 41)) w.heap.size (some ⟨w.heap.size, 0, none⟩) 1 1 [⟨0, 0⟩] := by
  have := World.ownsRow_lit (e := 41) (size := 2) (base := w.heap.size) w #[.int .i64 0, .int .i64 0] 1 (Nat.le_refl _) (by unfold maxLen; omega) rfl
  simpa [MineE, encSp] using this

theorem grow_at (W : World) (g o : Nat) (v : Value) : W.grownBy (W.setCell ⟨g, o, none⟩ v) (some g) :=
  ⟨rfl, rfl, rfl, by simp [World.setCell], fun k _ hk => Below.heap_setCell _ _ _ k (fun e => hk (by rw [e]))⟩

/-- Both numbers of a span in a list of one's own, written. -/
theorem span_put {w : World} {B g n c k : Nat} {xs : List Sp} (h : MineE encSp 41 w B (some ⟨g, 0, none⟩) n c xs) (s : Sp) (hs : xs[k]? = some s) (f t : Int) :
    MineE encSp 41 ((w.setCell ⟨g, k * 2, none⟩ (.int .i64 f)).setCell ⟨g, k * 2 + 1, none⟩ (.int .i64 t)) B (some ⟨g, 0, none⟩) n c (xs.set k ⟨f, t⟩) := by
  have hk := (List.getElem?_eq_some_iff.1 hs).1
  have h1 := (MineE.stored h k s ⟨f, s.t⟩ hs 0 (by decide) (.int .i64 f) rfl).1
  have h2 := (MineE.stored h1 k ⟨f, s.t⟩ ⟨f, t⟩ (List.getElem?_set_self hk) 1 (by decide) (.int .i64 t) rfl).1
  rw [List.set_set] at h2
  exact h2

/-- Whether a kind's columns begin at 0. -/
theorem zero_is (y : Bx) (v : Bool) (hv : selfB y = v) (w : World) : Calls Try.prog 38 #[.int .i64 y.k] w fun e w' => e = .returned (.bool v) ∧ Below w.heap.size w w' := by
  obtain ⟨o, ho⟩ : ∃ o, openB y.k = o := ⟨_, rfl⟩
  unfold selfB at hv
  rw [ho] at hv
  have HO := Lib.hid (fun w => open_is y.k o ho w)
  have HV := Lib.hid hv
  clear hv ho
  cases o
  · by_cases h5 : y.k = 5
    · have hv2 : v = true := by rw [← HV.out]; simp [h5]
      have hk : (y.k == 5) = true := by simp [h5]
      subst hv2
      clear HV h5
      go_enter Try.func38, Try.ntmps38
      go_wp2_with (first
        | (go_at_call 43; refine (calls_same_below (HO.out _)).mono ?_; rintro e w1 ⟨rfl, k1⟩; have K1 := Lib.hid k1; clear k1))
      go_ret
      exact ⟨rfl, K1.out⟩
    · have hv2 : v = false := by rw [← HV.out]; simp [h5]
      have hk : (y.k == 5) = false := by simp [h5]
      subst hv2
      clear HV h5
      go_enter Try.func38, Try.ntmps38
      go_wp2_with (first
        | (go_at_call 43; refine (calls_same_below (HO.out _)).mono ?_; rintro e w1 ⟨rfl, k1⟩; have K1 := Lib.hid k1; clear k1))
      go_ret
      exact ⟨rfl, K1.out⟩
  · have hv2 : v = true := by rw [← HV.out]; simp
    subst hv2
    clear HV
    go_enter Try.func38, Try.ntmps38
    go_wp2_with (first
      | (go_at_call 43; refine (calls_same_below (HO.out _)).mono ?_; rintro e w1 ⟨rfl, k1⟩; have K1 := Lib.hid k1; clear k1))
    go_ret
    exact ⟨rfl, K1.out⟩

set_option maxRecDepth 100000 in
set_option maxHeartbeats 4000000 in
/-- The columns of one box in the columns around it. -/
theorem frame_any (y : Bx) (lp zp x lf d z : Int) (hgood : pickN (brokenOf y) = 0) (hlp : -4611686018427 ≤ lp ∧ lp ≤ 4611686018427) (hzp : -4611686018427387904 ≤ zp ∧ zp ≤ 4611686018427387903) (hx : zp - lp = x) (hok : okX x = true)
    (hl : (if selfB y = true then 0 else lp + y.m3 + y.e3) = lf) (hd : conZ y x = d) (hz : lf + d = z) (hzb : -4611686018427387904 ≤ z ∧ z ≤ 4611686018427387903) (w : World) :
    Calls Try.prog 33 #[y.v, .agg #[.int .i64 lp, .int .i64 zp]] w fun e w' => e = .returned (.agg #[.int .i64 lf, .int .i64 z]) ∧ Below w.heap.size w w' := by
  have HLe := Lib.hid (fun w => slen_is lp zp x (by omega) hzp hx w)
  have HCo := Lib.hid (fun w => pcon_any y x w hgood hok)
  rw [hd] at HCo
  have hsm := small_of hgood
  have b1 := hsm.m3
  have b2 := hsm.e3
  have a1 : IntKind.i64.wrap (lp + y.m3) = lp + y.m3 := IntWalk.i64_in _ (by omega)
  have a2 : IntKind.i64.wrap (lp + y.m3 + y.e3) = lp + y.m3 + y.e3 := IntWalk.i64_in _ (by omega)
  have a3 : IntKind.i64.wrap (lf + d) = z := by rw [IntWalk.i64_in _ (by omega)]; exact hz
  obtain ⟨v, hv⟩ : ∃ v, selfB y = v := ⟨_, rfl⟩
  have HZe := Lib.hid (fun w => zero_is y v hv w)
  rw [hv] at hl
  clear hgood hlp hzp hx hok hd hz hzb hsm b1 b2 hv
  go_enter Try.func33, Try.ntmps33
  go_upto_region 1 with fail
  generalize hWa : World.alloc w _ = Wa
  obtain ⟨hat, hba⟩ := box_in y hWa
  have hsa : Wa.heap.size = w.heap.size + 1 := by rw [← hWa]; simp
  clear hWa
  generalize hWb : World.alloc Wa _ = Wb
  have hbb : Below Wa.heap.size Wa Wb := by rw [← hWb]; exact ba1 _ _
  have hsb : Wb.heap.size = Wa.heap.size + 1 := by rw [← hWb]; simp
  have t0 : Wb.cell? ⟨w.heap.size + 1, 0, none⟩ = some (.int .i64 lp) := by rw [← hWb, ← hsa]; simp [go_sem]
  have t1 : Wb.cell? ⟨w.heap.size + 1, 1, none⟩ = some (.int .i64 zp) := by rw [← hWb, ← hsa]; simp [go_sem]
  clear hWb
  generalize hWc : World.alloc Wb _ = Wc
  have hbc : Below Wb.heap.size Wb Wc := by rw [← hWc]; exact ba1 _ _
  have hsc : Wc.heap.size = Wb.heap.size + 1 := by rw [← hWc]; simp
  have ho := oneS_mine Wb
  rw [hWc] at ho
  clear hWc
  obtain ⟨b0, hb0⟩ : ∃ b0, w.heap.size = b0 := ⟨_, rfl⟩
  obtain ⟨b1, hb1e⟩ : ∃ b1, b0 + 1 = b1 := ⟨_, rfl⟩
  obtain ⟨b2, hb2e⟩ : ∃ b2, b1 + 1 = b2 := ⟨_, rfl⟩
  have hwb2 : Wb.heap.size = b2 := by omega
  rw [hwb2] at ho
  rw [hb0] at hat
  rw [hb0, hb1e] at t0 t1
  rw [hb0, hb1e, hb2e]
  have hac := (hat.below (by omega) hbb).below (by omega) hbc
  have HT0 := Lib.hid (show Wc.cell? ⟨b1, 0, none⟩ = some (.int .i64 lp) from (hbc.cell (p := ⟨b1, 0, none⟩) (by show b1 < _; omega)).trans t0)
  have HT1 := Lib.hid (show Wc.cell? ⟨b1, 1, none⟩ = some (.int .i64 zp) from (hbc.cell (p := ⟨b1, 1, none⟩) (by show b1 < _; omega)).trans t1)
  have hl0 : b0 < Wc.heap.size := by omega
  have hl1 : b1 < Wc.heap.size := by omega
  have KC := Lib.hid (show Below w.heap.size w Wc from thru (thru hba hbb) hbc)
  have HO := Lib.hid ho
  have HA := Lib.hid hac
  have c1 := atc1 HA.out
  have hw2 : w.heap.size ≤ b2 := by omega
  clear hat hba hsa hbb hsb t0 t1 hbc ho hb0 hb1e hwb2 hac
  clear hsc hb2e
  cases v
  · have a5 : IntKind.i64.wrap (lp + y.m3 + y.e3) = lf := by rw [a2, ← hl]; rfl
    clear a2 hl
    go_upto_region 3 with (first
      | (go_at_call 38; refine (HZe.out _).mono ?_; rintro e w3 ⟨rfl, k3⟩; have A3 := Lib.hid (HA.out.below hl0 k3); have S0 := Lib.hid ((k3.cell (p := ⟨b1, 0, none⟩) hl1).trans HT0.out); have S1 := Lib.hid ((k3.cell (p := ⟨b1, 1, none⟩) hl1).trans HT1.out); have O3 := Lib.hid (HO.out.below k3); have K3 := Lib.hid (thru KC.out k3); clear k3))
    have c9 := atc9 A3.out
    have c13 := atc13 A3.out
    have s0 := S0.out
    clear c1
    go_upto_region 4 with fail
    clear c9 c13 s0
    have HAt := Lib.hid (fun w' (hw : Below w3.heap.size w3 w') => A3.out.below (block_lt_of_cell (atc0 A3.out)) hw)
    have s0 := S0.out
    have s1 := S1.out
    have hb1 : b1 < w3.heap.size := block_lt_of_cell s0
    refine Hold.wp_region_hold [.val (.int .i64 lf), .val (.int .i64 lf), .val y.v, .val (.agg #[.int .i64 lp, .int .i64 zp]), .val (.int .i64 x), .val (.int .i64 d), .val (.int .i64 z), .val (.agg #[.int .i64 lf, .int .i64 z])] (by kernel_rfl) (by kernel_rfl) (by kernel_rfl) ?_ ?_
    · simp only [Hold.fill, Hold.Leave.value]
      refine ⟨?_, ?_, ?_, ?_, ?_, ?_, ?_, ?_, trivial⟩
      · intro gg w' hw hk
        go_simp
        exact ⟨rfl, rfl⟩
      · intro gg w' hw hk
        go_simp
        exact ⟨rfl, rfl⟩
      · intro gg w' hw hk
        have hq := HAt.out w' hw
        have c0 := atc0 hq
        have c1 := atc1 hq
        have c2 := atc2 hq
        have c3 := atc3 hq
        have c4 := atc4 hq
        have c5 := atc5 hq
        have c6 := atc6 hq
        have c7 := atc7 hq
        have c8 := atc8 hq
        have c9 := atc9 hq
        have c10 := atc10 hq
        have c11 := atc11 hq
        have c12 := atc12 hq
        have c13 := atc13 hq
        clear hq
        go_simp
        exact ⟨rfl, rfl⟩
      · intro gg w' hw hk
        have q0 := (hw.cell (p := ⟨b1, 0, none⟩) hb1).trans s0
        have q1 := (hw.cell (p := ⟨b1, 1, none⟩) hb1).trans s1
        go_simp
        exact ⟨rfl, rfl⟩
      · intro gg w' hw hk
        go_simp
        exact Hold.stays_call (HLe.out w')
      · intro gg w' hw hk
        go_simp
        exact Hold.stays_call (HCo.out w')
      · intro gg w' hw hk
        go_simp
        exact ⟨rfl, rfl⟩
      · intro gg w' hw hk
        go_simp
        exact ⟨rfl, rfl⟩
    intro gg w2 k2 hgg
    clear hgg
    simp only [Hold.fill, Hold.Leave.value, List.length_cons, List.length_nil, List.drop_succ_cons, List.drop_zero]
    clear s0 s1
    have m3 := O3.out.below k2
    have K4 := Lib.hid (thru K3.out k2)
    have e0 := MineE.at m3 0 _ rfl 0 (by decide)
    have e1 := MineE.at m3 0 _ rfl 1 (by decide)
    have f0 := MineE.frozen m3 0
    have f1 := MineE.frozen m3 1
    replace e0 : w2.cell? ⟨b2, 0, none⟩ = some (.int .i64 0) := e0
    replace e1 : w2.cell? ⟨b2, 1, none⟩ = some (.int .i64 0) := e1
    have k4 := (K4.out.setCell (p := ⟨b2, 0, none⟩) hw2 (.int .i64 lf)).setCell (p := ⟨b2, 1, none⟩) hw2 (.int .i64 z)
    have HR := Lib.hid k4
    clear m3 k4 k2
    go_wp2_with fail
    exact bodyPost_ret (v := .agg #[.int .i64 lf, .int .i64 z]) (by simp [results, Try.results33, go_sem, e0, e1]) rfl ⟨rfl, HR.out⟩
  · have hl : lf = 0 := hl.symm
    subst hl
    have a4 : IntKind.i64.wrap d = z := by rwa [Int.zero_add] at a3
    clear a1 a2
    go_upto_region 4 with (first
      | (go_at_call 38; refine (HZe.out _).mono ?_; rintro e w3 ⟨rfl, k3⟩; have A3 := Lib.hid (HA.out.below hl0 k3); have S0 := Lib.hid ((k3.cell (p := ⟨b1, 0, none⟩) hl1).trans HT0.out); have S1 := Lib.hid ((k3.cell (p := ⟨b1, 1, none⟩) hl1).trans HT1.out); have O3 := Lib.hid (HO.out.below k3); have K3 := Lib.hid (thru KC.out k3); clear k3))
    clear c1
    have HAt := Lib.hid (fun w' (hw : Below w3.heap.size w3 w') => A3.out.below (block_lt_of_cell (atc0 A3.out)) hw)
    have s0 := S0.out
    have s1 := S1.out
    have hb1 : b1 < w3.heap.size := block_lt_of_cell s0
    refine Hold.wp_region_hold [.val (.int .i64 0), .val (.int .i64 0), .val y.v, .val (.agg #[.int .i64 lp, .int .i64 zp]), .val (.int .i64 x), .val (.int .i64 d), .val (.int .i64 z), .val (.agg #[.int .i64 0, .int .i64 z])] (by kernel_rfl) (by kernel_rfl) (by kernel_rfl) ?_ ?_
    · simp only [Hold.fill, Hold.Leave.value]
      refine ⟨?_, ?_, ?_, ?_, ?_, ?_, ?_, ?_, trivial⟩
      · intro gg w' hw hk
        go_simp
        exact ⟨rfl, rfl⟩
      · intro gg w' hw hk
        go_simp
        exact ⟨rfl, rfl⟩
      · intro gg w' hw hk
        have hq := HAt.out w' hw
        have c0 := atc0 hq
        have c1 := atc1 hq
        have c2 := atc2 hq
        have c3 := atc3 hq
        have c4 := atc4 hq
        have c5 := atc5 hq
        have c6 := atc6 hq
        have c7 := atc7 hq
        have c8 := atc8 hq
        have c9 := atc9 hq
        have c10 := atc10 hq
        have c11 := atc11 hq
        have c12 := atc12 hq
        have c13 := atc13 hq
        clear hq
        go_simp
        exact ⟨rfl, rfl⟩
      · intro gg w' hw hk
        have q0 := (hw.cell (p := ⟨b1, 0, none⟩) hb1).trans s0
        have q1 := (hw.cell (p := ⟨b1, 1, none⟩) hb1).trans s1
        go_simp
        exact ⟨rfl, rfl⟩
      · intro gg w' hw hk
        go_simp
        exact Hold.stays_call (HLe.out w')
      · intro gg w' hw hk
        go_simp
        exact Hold.stays_call (HCo.out w')
      · intro gg w' hw hk
        go_simp
        exact ⟨rfl, rfl⟩
      · intro gg w' hw hk
        go_simp
        exact ⟨rfl, rfl⟩
    intro gg w2 k2 hgg
    clear hgg
    simp only [Hold.fill, Hold.Leave.value, List.length_cons, List.length_nil, List.drop_succ_cons, List.drop_zero]
    clear s0 s1
    have m3 := O3.out.below k2
    have K4 := Lib.hid (thru K3.out k2)
    have e0 := MineE.at m3 0 _ rfl 0 (by decide)
    have e1 := MineE.at m3 0 _ rfl 1 (by decide)
    have f0 := MineE.frozen m3 0
    have f1 := MineE.frozen m3 1
    replace e0 : w2.cell? ⟨b2, 0, none⟩ = some (.int .i64 0) := e0
    replace e1 : w2.cell? ⟨b2, 1, none⟩ = some (.int .i64 0) := e1
    have k4 := (K4.out.setCell (p := ⟨b2, 0, none⟩) hw2 (.int .i64 0)).setCell (p := ⟨b2, 1, none⟩) hw2 (.int .i64 z)
    have HR := Lib.hid k4
    clear m3 k4 k2
    go_wp2_with fail
    exact bodyPost_ret (v := .agg #[.int .i64 0, .int .i64 z]) (by simp [results, Try.results33, go_sem, e0, e1]) rfl ⟨rfl, HR.out⟩

section
variable {T : World → Addr → List Bx → Prop}

set_option maxRecDepth 100000 in
set_option maxHeartbeats 8000000 in
theorem pframes_any (hT : TreeOk T) (w : World) (p : Addr) (bs : List Bx) (ht : T w p bs) (hlen : bs.length ≤ 1000) (hs : Shape (dOf bs) bs.length) (hf : Fine bs bs.length) :
    Calls Try.prog 19 #[.pointer (some p)] w fun r w' => (∃ A c, r = .returned (.slice A bs.length c) ∧ MineE encSp 41 w' w.heap.size A bs.length c (spsD bs)) ∧ Below w.heap.size w w' := by
  have HT := Lib.hid ht
  have HS := Lib.hid hs
  have HF := Lib.hid hf
  have HLen := Lib.hid (hT.len w p bs ht)
  obtain ⟨n, hn⟩ : ∃ n, bs.length = n := ⟨_, rfl⟩
  rw [hn] at HLen hlen
  have HN := Lib.hid hn
  have h0 := hs.pos
  rw [hn] at h0
  rw [hn]
  clear ht hs hf hn
  go_enter Try.func19, Try.ntmps19
  go_wp2_with (first
    | (go_at_call 32; refine HLen.out.mono ?_; rintro e w1 ⟨rfl, k1⟩; obtain ⟨w2, hmk, hm2, k2⟩ := make_spans w1 n (by omega); obtain ⟨g, hg⟩ : ∃ g, w1.heap.size = g := ⟨_, rfl⟩; rw [hg] at hmk hm2; have HM2 := Lib.hid (MineE.mono (C := w.heap.size) hm2 (by rw [← hg]; exact k1.size)); have K2 := Lib.hid (thru k1 k2); clear hm2 k1 k2))
  clear hmk
  go_loopw [12] (fun t wr => ∃ k : Nat, k ≤ n ∧ t = .int .i64 (k : Int) ∧ Hid (MineE encSp 41 wr w.heap.size (some ⟨g, 0, none⟩) n n (partS bs k) ∧ Below w.heap.size w wr)) (fun t _ => n - (intOf t).toNat)
  case atStart => exact ⟨0, Nat.zero_le _, rfl, Lib.hid ⟨by rw [partS_zero, HN.out]; exact HM2.out, K2.out⟩⟩
  case round =>
    clear HM2 K2
    obtain ⟨k, hk, rfl, H⟩ := hrel
    by_cases hlt : k < n
    · have hki : (k : Int) < (n : Int) := by omega
      have hk0 : ¬ (k : Int) < 0 := by omega
      have hkl : k < bs.length := by rw [HN.out]; exact hlt
      have hgl := (H.out.1.lt g rfl).2
      have hwb := wide_bound HS.out HF.out (k + 1) k (by omega) hkl
      have hlb := left_bound HS.out HF.out (k + 1) k (by omega) hkl
      have hst := partS_step hkl
      obtain ⟨y, hy⟩ : ∃ y, bs.getD k noB = y := ⟨_, rfl⟩
      obtain ⟨lf, hlf⟩ : ∃ lf, lefD bs k = lf := ⟨_, rfl⟩
      obtain ⟨d, hd⟩ : ∃ d, widD bs k = d := ⟨_, rfl⟩
      obtain ⟨z, hz⟩ : ∃ z, lf + d = z := ⟨_, rfl⟩
      rw [hlf, hd, hz] at hst
      rw [hlf] at hlb
      rw [hd] at hwb
      have HST := Lib.hid hst
      have hcur : (partS bs k)[k]? = some ⟨0, 0⟩ := by rw [partS_at hkl, if_neg (by omega)]
      have HCU := Lib.hid hcur
      have hgood : pickN (brokenOf y) = 0 := by rw [← hy]; exact HF.out.check hkl
      have HBx := Lib.hid (fun Y (j : Below w.heap.size w Y) => hT.box Y p bs (k : Int) (hT.keep _ _ _ _ HT.out j))
      have HPa := Lib.hid (fun Y (j : Below w.heap.size w Y) => hT.parent Y p bs (k : Int) (hT.keep _ _ _ _ HT.out j))
      rw [boxT_nat hkl, hy] at HBx
      rw [parT_nat hkl] at HPa
      clear hst hcur
      go_upto_region 5 with fail
      obtain ⟨b6, hb6e⟩ : ∃ b6, wr.heap.size = b6 := ⟨_, rfl⟩
      go_upto_region 6 with fail
      generalize hWb : World.alloc wr _ = Wb
      have hbb : Below wr.heap.size wr Wb := by rw [← hWb]; exact ba1 _ _
      have hsb : Wb.heap.size = b6 + 1 := by rw [← hWb, ← hb6e]; simp
      have ho6 : MineE encSp 41 Wb b6 (some ⟨b6, 0, none⟩) 1 1 [⟨0, 0⟩] := by rw [← hWb, ← hb6e]; exact oneS_mine wr
      have hg6 : g < b6 := by omega
      clear hWb
      rcases Nat.eq_zero_or_pos k with hz0 | hz0
      · -- the first one
        have hpar := par_bounds (dOf bs) k
        have hp1 : par (dOf bs) k = -1 := by omega
        rw [hp1] at HPa
        have hr := fine_root HF.out (show 0 < bs.length by omega)
        rw [show (0 : Nat) = k from hz0.symm, hy] at hr
        have hsf : selfB y = true := by unfold selfB openB; rw [hr.1]; rfl
        have hl0 : lf = 0 := by rw [← hlf]; exact lefD_self (by rw [hy]; exact hsf)
        have hcz : conZ y 0 = d := by
          rw [← hd, widD_top (by omega), hy]; unfold conZ; rw [if_pos hr.2]
        have HFr := Lib.hid (fun w => frame_any y 0 0 0 lf d z hgood (by omega) (by omega) rfl (by decide) (by rw [hsf, hl0]; rfl) hcz hz (by omega) w)
        clear hwb hlb hy hlf hd hz hgood hkl hz0 hpar hp1 hr hsf hl0 hcz
        go_upto_region 9 with (first
          | (go_at_call 24; refine (HPa.out _ (thru H.out.2 hbb)).mono ?_; rintro e w7 ⟨rfl, k7⟩; have M7 := Lib.hid ((H.out.1.below hbb).below k7); have O7 := Lib.hid (ho6.below k7); have K7 := Lib.hid (thru (thru H.out.2 hbb) k7); clear k7))
        clear hbb ho6
        have s0 := MineE.at O7.out 0 _ rfl 0 (by decide)
        have s1 := MineE.at O7.out 0 _ rfl 1 (by decide)
        simp only [encSp, Nat.zero_mul, Nat.zero_add, Nat.add_zero] at s0 s1
        replace s0 : w7.cell? ⟨b6, 0, none⟩ = some (.int .i64 0) := s0
        replace s1 : w7.cell? ⟨b6, 1, none⟩ = some (.int .i64 0) := s1
        have hb6 : b6 < w7.heap.size := block_lt_of_cell s0
        refine Hold.wp_region_hold [.val (.slice (some ⟨g, 0, none⟩) n n), .val (.int .i64 (k : Int)), .val (.pointer (some p)), .val (.int .i64 (k : Int)), .val y.v, .val (.agg #[.int .i64 0, .int .i64 0]), .val (.agg #[.int .i64 lf, .int .i64 z])] (by kernel_rfl) (by kernel_rfl) (by kernel_rfl) ?_ ?_
        · simp only [Hold.fill, Hold.Leave.value]
          refine ⟨?_, ?_, ?_, ?_, ?_, ?_, ?_, trivial⟩
          · intro gg w' hw hk
            go_simp
            exact ⟨rfl, rfl⟩
          · intro gg w' hw hk
            go_simp
            exact ⟨rfl, rfl⟩
          · intro gg w' hw hk
            go_simp
            exact ⟨rfl, rfl⟩
          · intro gg w' hw hk
            go_simp
            exact ⟨rfl, rfl⟩
          · intro gg w' hw hk
            go_simp
            exact Hold.stays_call (HBx.out w' (thru K7.out hw))
          · intro gg w' hw hk
            have q0 := (hw.cell (p := ⟨b6, 0, none⟩) hb6).trans s0
            have q1 := (hw.cell (p := ⟨b6, 1, none⟩) hb6).trans s1
            go_simp
            exact ⟨rfl, rfl⟩
          · intro gg w' hw hk
            go_simp
            exact Hold.stays_call (HFr.out w')
        intro gg w2 k2 hgg
        clear hgg
        simp only [Hold.fill, Hold.Leave.value, List.length_cons, List.length_nil, List.drop_succ_cons, List.drop_zero]
        clear s0 s1
        have m3 := M7.out.below k2
        have K3 := Lib.hid (thru K7.out k2)
        have e0 := MineE.at m3 k _ HCU.out 0 (by decide)
        have e1 := MineE.at m3 k _ HCU.out 1 (by decide)
        replace e0 : w2.cell? ⟨g, k * 2, none⟩ = some (.int .i64 0) := e0
        replace e1 : w2.cell? ⟨g, k * 2 + 1, none⟩ = some (.int .i64 0) := e1
        have f0 := MineE.frozen m3 (k * 2)
        have f1 := MineE.frozen m3 (k * 2 + 1)
        have m4 := span_put m3 ⟨0, 0⟩ HCU.out lf z
        have hgw := (m3.lt g rfl).1
        have k4 := (K3.out.setCell (p := ⟨g, k * 2, none⟩) hgw (.int .i64 lf)).setCell (p := ⟨g, k * 2 + 1, none⟩) hgw (.int .i64 z)
        rw [← HST.out] at m4
        have HR := Lib.hid (show _ ∧ _ from ⟨m4, k4⟩)
        clear m3 m4 k4 k2
        go_wp2_with fail
        go_roundw
        case rel => exact ⟨k + 1, by omega, by go_num, HR⟩
        case measure => simp [intOf]; omega
      · obtain ⟨p1, hpp, hpi, -, -⟩ := HS.out.parent k hz0 hkl
        have hp1 : par (dOf bs) k = (p1 : Int) := hpp
        have hpl : p1 < bs.length := by omega
        have hwp := wide_bound HS.out HF.out (p1 + 1) p1 (by omega) hpl
        have hlp := left_bound HS.out HF.out (p1 + 1) p1 (by omega) hpl
        obtain ⟨lp, hlpe⟩ : ∃ lp, lefD bs p1 = lp := ⟨_, rfl⟩
        obtain ⟨x, hxe⟩ : ∃ x, widD bs p1 = x := ⟨_, rfl⟩
        obtain ⟨zp, hzp⟩ : ∃ zp, lp + x = zp := ⟨_, rfl⟩
        have hpart : (partS bs k)[p1]? = some ⟨lp, zp⟩ := by rw [partS_at hpl, if_pos hpi, ← hzp, ← hlpe, ← hxe]
        have HPT := Lib.hid hpart
        rw [hp1] at HPa
        rw [hlpe] at hlp
        rw [hxe] at hwp
        have hcz : conZ y x = d := by rw [← hd, widD_in hp1, hy, hxe]
        have hpn : (p1 : Int) < (n : Int) := by omega
        have hp0 : ¬ (p1 : Int) < 0 := by omega
        have hpg : (p1 : Int) ≥ 0 := by omega
        have hleft : (if selfB y = true then 0 else lp + y.m3 + y.e3) = lf := by
          cases hv : selfB y
          · rw [if_neg Bool.false_ne_true, ← hlf, lefD_in (by rw [hy]; exact hv) hp1, hy, hlpe]
          · rw [if_pos rfl, ← hlf]; exact (lefD_self (by rw [hy]; exact hv)).symm
        have HFr := Lib.hid (fun w => frame_any y lp zp x lf d z hgood (by omega) (by omega) (by omega) (okX_iff.2 (by omega)) hleft hcz hz (by omega) w)
        clear hwb hlb hy hlf hd hz hgood hkl hz0 hpp hp1 hpart hlpe hxe hzp hwp hlp hcz hpl hleft
        go_upto_region 8 with (first
          | (go_at_call 24; refine (HPa.out _ (thru H.out.2 hbb)).mono ?_; rintro e w7 ⟨rfl, k7⟩; have M7 := Lib.hid ((H.out.1.below hbb).below k7); have O7 := Lib.hid (ho6.below k7); have K7 := Lib.hid (thru (thru H.out.2 hbb) k7); clear k7))
        clear hbb ho6
        have e0 := MineE.at M7.out p1 _ HPT.out 0 (by decide)
        have e1 := MineE.at M7.out p1 _ HPT.out 1 (by decide)
        have s0 := MineE.at O7.out 0 _ rfl 0 (by decide)
        have s1 := MineE.at O7.out 0 _ rfl 1 (by decide)
        have f0 := MineE.frozen O7.out 0
        have f1 := MineE.frozen O7.out 1
        simp only [encSp, Nat.zero_mul, Nat.zero_add, Nat.add_zero] at e0 e1 s0 s1
        replace e0 : w7.cell? ⟨g, p1 * 2, none⟩ = some (.int .i64 lp) := e0
        replace e1 : w7.cell? ⟨g, p1 * 2 + 1, none⟩ = some (.int .i64 zp) := e1
        replace s0 : w7.cell? ⟨b6, 0, none⟩ = some (.int .i64 0) := s0
        replace s1 : w7.cell? ⟨b6, 1, none⟩ = some (.int .i64 0) := s1
        go_upto_region 9 with fail
        have m8 := MineE.kept (MineE.kept M7.out (grow_at w7 b6 0 (.int .i64 lp)) (fun q e e2 => by have e3 : g = q := Option.some.inj e; injection e2 with e2; omega)) (grow_at _ b6 1 (.int .i64 zp)) (fun q e e2 => by have e3 : g = q := Option.some.inj e; injection e2 with e2; omega)
        have o8 := span_put O7.out ⟨0, 0⟩ rfl lp zp (k := 0)
        have hwb6 : w.heap.size ≤ b6 := by rw [← hb6e]; exact H.out.2.size
        have kk8 := (K7.out.setCell (p := ⟨b6, 0, none⟩) hwb6 (.int .i64 lp)).setCell (p := ⟨b6, 1, none⟩) hwb6 (.int .i64 zp)
        simp only [Nat.zero_mul, Nat.zero_add, List.set_cons_zero] at o8
        generalize World.setCell (World.setCell w7 _ _) _ _ = w8 at m8 o8 kk8 ⊢
        clear M7 O7 K7 e0 e1 s0 s1 f0 f1
        have M7 := Lib.hid m8
        have O7 := Lib.hid o8
        have K7 := Lib.hid kk8
        clear m8 o8 kk8
        have s0 := MineE.at O7.out 0 _ rfl 0 (by decide)
        have s1 := MineE.at O7.out 0 _ rfl 1 (by decide)
        simp only [encSp, Nat.zero_mul, Nat.zero_add, Nat.add_zero] at s0 s1
        replace s0 : w8.cell? ⟨b6, 0, none⟩ = some (.int .i64 lp) := s0
        replace s1 : w8.cell? ⟨b6, 1, none⟩ = some (.int .i64 zp) := s1
        have hb6 : b6 < w8.heap.size := block_lt_of_cell s0
        refine Hold.wp_region_hold [.val (.slice (some ⟨g, 0, none⟩) n n), .val (.int .i64 (k : Int)), .val (.pointer (some p)), .val (.int .i64 (k : Int)), .val y.v, .val (.agg #[.int .i64 lp, .int .i64 zp]), .val (.agg #[.int .i64 lf, .int .i64 z])] (by kernel_rfl) (by kernel_rfl) (by kernel_rfl) ?_ ?_
        · simp only [Hold.fill, Hold.Leave.value]
          refine ⟨?_, ?_, ?_, ?_, ?_, ?_, ?_, trivial⟩
          · intro gg w' hw hk
            go_simp
            exact ⟨rfl, rfl⟩
          · intro gg w' hw hk
            go_simp
            exact ⟨rfl, rfl⟩
          · intro gg w' hw hk
            go_simp
            exact ⟨rfl, rfl⟩
          · intro gg w' hw hk
            go_simp
            exact ⟨rfl, rfl⟩
          · intro gg w' hw hk
            go_simp
            exact Hold.stays_call (HBx.out w' (thru K7.out hw))
          · intro gg w' hw hk
            have q0 := (hw.cell (p := ⟨b6, 0, none⟩) hb6).trans s0
            have q1 := (hw.cell (p := ⟨b6, 1, none⟩) hb6).trans s1
            go_simp
            exact ⟨rfl, rfl⟩
          · intro gg w' hw hk
            go_simp
            exact Hold.stays_call (HFr.out w')
        intro gg w2 k2 hgg
        clear hgg
        simp only [Hold.fill, Hold.Leave.value, List.length_cons, List.length_nil, List.drop_succ_cons, List.drop_zero]
        clear s0 s1
        have m3 := M7.out.below k2
        have K3 := Lib.hid (thru K7.out k2)
        have e0 := MineE.at m3 k _ HCU.out 0 (by decide)
        have e1 := MineE.at m3 k _ HCU.out 1 (by decide)
        replace e0 : w2.cell? ⟨g, k * 2, none⟩ = some (.int .i64 0) := e0
        replace e1 : w2.cell? ⟨g, k * 2 + 1, none⟩ = some (.int .i64 0) := e1
        have f0 := MineE.frozen m3 (k * 2)
        have f1 := MineE.frozen m3 (k * 2 + 1)
        have m4 := span_put m3 ⟨0, 0⟩ HCU.out lf z
        have hgw := (m3.lt g rfl).1
        have k4 := (K3.out.setCell (p := ⟨g, k * 2, none⟩) hgw (.int .i64 lf)).setCell (p := ⟨g, k * 2 + 1, none⟩) hgw (.int .i64 z)
        rw [← HST.out] at m4
        have HR := Lib.hid (show _ ∧ _ from ⟨m4, k4⟩)
        clear m3 m4 k4 k2
        go_wp2_with fail
        go_roundw
        case rel => exact ⟨k + 1, by omega, by go_num, HR⟩
        case measure => simp [intOf]; omega
    · obtain rfl : k = n := by omega
      have HE := Lib.hid (show MineE encSp 41 wr w.heap.size (some ⟨g, 0, none⟩) k k (spsD bs) by rw [← partS_all, HN.out]; exact H.out.1)
      go_wp2_with fail
      go_ret
      exact ⟨⟨_, _, rfl, HE.out⟩, H.out.2⟩

/-- The program's widths are what the laws ask. -/
theorem widthOk (hT : TreeOk T) : WidthOk T where
  con b x w h hx := pcon_any b x w h hx
  bor b x w h hx := pbor_any b x w h hx
  mar b x w h hx := pmar_any b x w h hx
  frames w p bs ht hl hs hf := pframes_any hT w p bs ht hl hs hf
end

end Go.Proofs.Ytnmfgcdenngpfaa.Width
