/- The contract of Band; what the program's lists answer, all of it. -/
import Derived.Test.YtdibdfalahjmbaaPart19
import Derived.Test.YtdibdfalahjmbaaPart13
import Derived.Test.YtdibdfalahjmbaaPart6
namespace Go.Proofs.Ytdibdfalahjmbaa.Shelf
open Go.RowKit Go.Sort Go.Proofs.Ytdibdfalahjmbaa.Rect Go.Proofs.Ytdibdfalahjmbaa.More
set_option linter.unusedVariables false

set_option maxRecDepth 100000 in
set_option maxHeartbeats 1000000 in
theorem pband_none (w : World) (p : Addr) (fs : List Fl) (a z : Int) (h : z ≤ a) :
    Calls Try.prog 73 #[.pointer (some p), .agg #[.int .i64 a, .int .i64 z]] w fun r w' => r = .returned (.agg #[.int .i64 (bandL fs a z), .int .i64 (bandR fs a z)]) ∧ Below w.heap.size w w' := by
  rw [bandL_none fs h, bandR_none fs h]
  go_enter Try.func73, Try.ntmps73
  go_wp2_with fail
  exact bodyPost_ret (v := .agg #[.int .i64 (-4503599627370496), .int .i64 4503599627370496]) (by simp [results, Try.results73, go_sem]) rfl ⟨rfl, by first | exact ba3 _ _ _ _ | skip⟩

set_option maxRecDepth 100000 in
set_option maxHeartbeats 1500000 in
theorem pband_some (w : World) (B pb g n c o1 o2 : Nat) (fs : List Fl) (a z : Int) (hl : Lst w B pb g n c (shelvesD fs)) (hd : DW (bndF fs) (-far) (shelvesD fs)) (hn : n ≤ 10000) (ha : -4503599627370496 ≤ a) (hz : z ≤ 4611686018427387904) (haz : a < z) (h1 : Thr (shelvesD fs) a (o1 + 1)) (h2 : Thr (shelvesD fs) (z - 1) (o2 + 1)) :
    Calls Try.prog 73 #[.pointer (some ⟨pb, 0, none⟩), .agg #[.int .i64 a, .int .i64 z]] w fun r w' => r = .returned (.agg #[.int .i64 (bandL fs a z), .int .i64 (bandR fs a z)]) ∧ Below w.heap.size w w' := by
  have hle := thr_mono hd h1 h2 haz
  have HM := Lib.hid (⟨hd, h1, h2, haz⟩ : DW (bndF fs) (-far) (shelvesD fs) ∧ Thr (shelvesD fs) a (o1 + 1) ∧ Thr (shelvesD fs) (z - 1) (o2 + 1) ∧ a < z)
  have hll := hl.len
  have ho2 : o2 + 1 ≤ n := by have := h2.1; omega
  obtain ⟨hnc, hc63⟩ := hl.cap
  obtain ⟨cnt, hcnt⟩ : ∃ cnt, o2 + 1 = o1 + cnt := ⟨o2 + 1 - o1, by omega⟩
  obtain ⟨z1, hz1⟩ : ∃ z1, z - 1 = z1 := ⟨_, rfl⟩
  have hw1 : IntKind.i64.wrap (z - 1) = z1 := by rw [IntWalk.i64_in _ (by omega)]; exact hz1
  have hw2 : IntKind.i64.wrap ((o2 : Int) + 1) = (o2 : Int) + 1 := IntWalk.i64_in _ (by omega)
  have HLL := Lib.hid hl
  have HO1 := Lib.hid (fun w' (k : Below w.heap.size w w') => of_next pb g n c B o1 _ a w' (hl.below k) (by omega) h1)
  have HO2 := Lib.hid (fun w' (k : Below w.heap.size w w') => of_next pb g n c B o2 _ z1 w' (hl.below k) (by omega) (by rw [← hz1]; exact h2))
  have HK := Lib.hid (⟨ho2, hcnt, hll, hle, hn⟩ : o2 + 1 ≤ n ∧ o2 + 1 = o1 + cnt ∧ (shelvesD fs).length = n ∧ o1 ≤ o2 ∧ n ≤ 10000)
  have hb1 : ¬ a ≥ z := by omega
  have hb2 : (o1 : Int) ≤ (o2 : Int) + 1 := by omega
  have hb3 : (o2 : Int) + 1 ≤ (c : Int) := by omega
  have hb4 : ¬ (c = o1) := by omega
  have hb5 : ((o2 : Int) + 1).toNat - o1 = cnt := by omega
  have hb6 : o2 + 1 - o1 = cnt := by omega
  have hb7 : ((o2 : Int) + 1).toNat = o2 + 1 := by omega
  have hb8 : (0 : Int) ≤ (o2 : Int) + 1 := by omega
  clear hl hd h1 h2 hll hle hz1 hcnt ha hz hn
  go_enter Try.func73, Try.ntmps73
  go_upto_region 2 with fail
  generalize hW : World.alloc (World.alloc (World.alloc w _) _) _ = W
  obtain ⟨tb, htb⟩ : ∃ tb, w.heap.size = tb := ⟨_, rfl⟩
  have hkW : Below w.heap.size w W := by rw [← hW]; exact ba3 _ _ _ _
  have e0 : W.cell? ⟨tb, 0, none⟩ = some (.int .i64 a) := by rw [← hW, ← htb]; simp [go_sem]
  have e1 : W.cell? ⟨tb, 1, none⟩ = some (.int .i64 z) := by rw [← hW, ← htb]; simp [go_sem]
  have r0 : W.cell? ⟨tb + 1, 0, none⟩ = some (.int .i64 0) := by rw [← hW, ← htb]; simp [go_sem]
  have r1 : W.cell? ⟨tb + 1, 1, none⟩ = some (.int .i64 0) := by rw [← hW, ← htb]; simp [go_sem]
  have s0 : W.cell? ⟨tb + 2, 0, none⟩ = some (.int .i64 (-4503599627370496)) := by rw [← hW, ← htb]; simp [go_sem]
  have s1 : W.cell? ⟨tb + 2, 1, none⟩ = some (.int .i64 4503599627370496) := by rw [← hW, ← htb]; simp [go_sem]
  have q0 : W.frozen? ⟨tb + 1, 0, none⟩ = false := by rw [← hW, ← htb]; simp [go_sem]
  have q1 : W.frozen? ⟨tb + 1, 1, none⟩ = false := by rw [← hW, ← htb]; simp [go_sem]
  have f0 : W.frozen? ⟨tb + 2, 0, none⟩ = false := by rw [← hW, ← htb]; simp [go_sem]
  have f1 : W.frozen? ⟨tb + 2, 1, none⟩ = false := by rw [← hW, ← htb]; simp [go_sem]
  rw [htb]
  obtain ⟨rb, hrb⟩ : ∃ rb, tb + 1 = rb := ⟨_, rfl⟩
  obtain ⟨bb, hbb⟩ : ∃ bb, tb + 2 = bb := ⟨_, rfl⟩
  rw [show tb + 1 + 1 = bb from hbb, hrb]
  rw [hrb] at r0 r1 q0 q1
  rw [hbb] at s0 s1 f0 f1
  have KW := Lib.hid hkW
  have HT := Lib.hid (⟨htb, by omega⟩ : w.heap.size = tb ∧ rb < bb)
  have HT2 := Lib.hid (show w.heap.size ≤ rb ∧ w.heap.size ≤ bb by omega)
  clear hW hkW htb hrb hbb
  go_upto_region 4 with fail
  have hE := fun w' (k : Below W.heap.size W w') => (⟨(k.cell (p := ⟨tb, 0, none⟩) (block_lt_of_cell e0)).trans e0, (k.cell (p := ⟨tb, 1, none⟩) (block_lt_of_cell e1)).trans e1⟩ : w'.cell? ⟨tb, 0, none⟩ = some (.int .i64 a) ∧ w'.cell? ⟨tb, 1, none⟩ = some (.int .i64 z))
  have HE := Lib.hid hE
  have HL := Lib.hid (fun w' (k : Below W.heap.size W w') => HLL.out.below (thru KW.out k))
  have HO1' := Lib.hid (fun w' (k : Below W.heap.size W w') => HO1.out w' (thru KW.out k))
  have HO2' := Lib.hid (fun w' (k : Below W.heap.size W w') => HO2.out w' (thru KW.out k))
  clear HO1 HO2 hE e0 e1
  have HO1 := HO1'
  have HO2 := HO2'
  clear HO1' HO2'
  have HS := Lib.hid (⟨⟨s0, s1, f0, f1⟩, r0, r1, q0, q1⟩ : (W.cell? ⟨bb, 0, none⟩ = some (.int .i64 (-4503599627370496)) ∧ W.cell? ⟨bb, 1, none⟩ = some (.int .i64 4503599627370496) ∧ W.frozen? ⟨bb, 0, none⟩ = false ∧ W.frozen? ⟨bb, 1, none⟩ = false) ∧ W.cell? ⟨rb, 0, none⟩ = some (.int .i64 0) ∧ W.cell? ⟨rb, 1, none⟩ = some (.int .i64 0) ∧ W.frozen? ⟨rb, 0, none⟩ = false ∧ W.frozen? ⟨rb, 1, none⟩ = false)
  clear s0 s1 f0 f1 r0 r1 q0 q1
  refine HoldAll.wp_region_hold_all [.val (.pointer (some ⟨pb, 0, none⟩)), .val (.pointer (some ⟨pb, 0, none⟩)), .val (.pointer (some ⟨pb, 0, none⟩)), .val (.slice (some ⟨g, 0, none⟩) n c), .val (.pointer (some ⟨pb, 0, none⟩)), .val (.pointer (some ⟨tb, 0, none⟩)), .val (.int .i64 a), .val (.int .i64 (o1 : Int)), .val (.pointer (some ⟨pb, 0, none⟩)), .val (.pointer (some ⟨tb, 1, none⟩)), .val (.int .i64 z), .val (.int .i64 z1), .val (.int .i64 (o2 : Int)), .val (.int .i64 ((o2 : Int) + 1)), .val (.slice (some ⟨g, o1 * 3, none⟩) cnt (c - o1)), .val (.int .i64 (cnt : Int)), .val (.int .i64 0)] (by kernel_rfl) (by kernel_rfl) (by kernel_rfl) ?_ ?_
  · simp only [Hold.fill, Hold.Leave.value]
    refine ⟨?_, ?_, ?_, ?_, ?_, ?_, ?_, ?_, ?_, ?_, ?_, ?_, ?_, ?_, ?_, ?_, ?_, trivial⟩
    · intro gg w' hw hk
      go_simp
      exact ⟨rfl, rfl⟩
    · intro gg w' hw hk
      go_simp
      exact ⟨rfl, rfl⟩
    · intro gg w' hw hk
      go_simp
      exact ⟨rfl, rfl⟩
    · intro gg w' hw hk
      have hp := (HL.out w' hw).cell
      go_simp
      exact ⟨rfl, rfl⟩
    · intro gg w' hw hk
      go_simp
      exact ⟨rfl, rfl⟩
    · intro gg w' hw hk
      go_simp
      exact ⟨rfl, rfl⟩
    · intro gg w' hw hk
      have q0 := (HE.out w' hw).1
      go_simp
      exact ⟨rfl, rfl⟩
    · intro gg w' hw hk
      have hc := HO1.out w' hw
      go_simp
      exact Hold.stays_call hc
    · intro gg w' hw hk
      go_simp
      exact ⟨rfl, rfl⟩
    · intro gg w' hw hk
      go_simp
      exact ⟨rfl, rfl⟩
    · intro gg w' hw hk
      have q1 := (HE.out w' hw).2
      go_simp
      exact ⟨rfl, rfl⟩
    · intro gg w' hw hk
      go_simp
      exact ⟨rfl, rfl⟩
    · intro gg w' hw hk
      have hc := HO2.out w' hw
      go_simp
      exact Hold.stays_call hc
    · intro gg w' hw hk
      go_simp
      exact ⟨rfl, rfl⟩
    · intro gg w' hw hk
      go_simp
      exact ⟨rfl, rfl⟩
    · intro gg w' hw hk
      go_simp
      exact ⟨rfl, rfl⟩
    · intro gg w' hw hk
      go_simp
      exact ⟨rfl, rfl⟩
  intro gg w2 k2 hgg
  simp only [Hold.fill, Hold.Leave.value]
  clear hgg
  have K2 := Lib.hid (thru KW.out k2)
  have HS2 := Lib.hid (show (w2.cell? ⟨bb, 0, none⟩ = some (.int .i64 (bandL fs a (eB (shelvesD fs) a z (o1 + 0)))) ∧ w2.cell? ⟨bb, 1, none⟩ = some (.int .i64 (bandR fs a (eB (shelvesD fs) a z (o1 + 0)))) ∧ w2.frozen? ⟨bb, 0, none⟩ = false ∧ w2.frozen? ⟨bb, 1, none⟩ = false) ∧ (w2.cell? ⟨rb, 0, none⟩ = some (.int .i64 0) ∧ w2.cell? ⟨rb, 1, none⟩ = some (.int .i64 0) ∧ w2.frozen? ⟨rb, 0, none⟩ = false ∧ w2.frozen? ⟨rb, 1, none⟩ = false) ∧ Below w.heap.size w w2 from by
    obtain ⟨⟨s0, s1, f0, f1⟩, r0, r1, q0, q1⟩ := HS.out
    have hb := block_lt_of_cell s0
    have hr := block_lt_of_cell r0
    have he : eB (shelvesD fs) a z (o1 + 0) = a := eB_start HM.out.1 HM.out.2.1 HM.out.2.2.2
    rw [he, bandL_none fs (Int.le_refl a), bandR_none fs (Int.le_refl a)]
    exact ⟨⟨(k2.cell (p := ⟨bb, 0, none⟩) hb).trans s0, (k2.cell (p := ⟨bb, 1, none⟩) hb).trans s1, (k2.frozen (p := ⟨bb, 0, none⟩) hb).trans f0, (k2.frozen (p := ⟨bb, 1, none⟩) hb).trans f1⟩,
      ⟨(k2.cell (p := ⟨rb, 0, none⟩) hr).trans r0, (k2.cell (p := ⟨rb, 1, none⟩) hr).trans r1, (k2.frozen (p := ⟨rb, 0, none⟩) hr).trans q0, (k2.frozen (p := ⟨rb, 1, none⟩) hr).trans q1⟩, thru KW.out k2⟩)
  clear k2 HS HE HO1 HO2 HL
  go_wp2_with fail
  go_loopw [31] (fun i wr => ∃ k : Nat, k ≤ cnt ∧ i = .int .i64 (k : Int) ∧ Hid ((wr.cell? ⟨bb, 0, none⟩ = some (.int .i64 (bandL fs a (eB (shelvesD fs) a z (o1 + k)))) ∧ wr.cell? ⟨bb, 1, none⟩ = some (.int .i64 (bandR fs a (eB (shelvesD fs) a z (o1 + k)))) ∧ wr.frozen? ⟨bb, 0, none⟩ = false ∧ wr.frozen? ⟨bb, 1, none⟩ = false) ∧ (wr.cell? ⟨rb, 0, none⟩ = some (.int .i64 0) ∧ wr.cell? ⟨rb, 1, none⟩ = some (.int .i64 0) ∧ wr.frozen? ⟨rb, 0, none⟩ = false ∧ wr.frozen? ⟨rb, 1, none⟩ = false) ∧ Below w.heap.size w wr)) (fun i _ => cnt - (intOf i).toNat)
  case atStart => exact ⟨0, Nat.zero_le _, rfl, HS2⟩
  case round =>
    clear HS2 K2 KW
    obtain ⟨k, hk, rfl, H⟩ := hrel
    by_cases hlt : k < cnt
    · have hki : (k : Int) < (cnt : Int) := by omega
      have hk0 : ¬ (k : Int) < 0 := by omega
      have hkk := HK.out
      obtain ⟨x, hx⟩ : ∃ x, (shelvesD fs)[o1 + k]? = some x := ⟨_, List.getElem?_eq_getElem (by omega)⟩
      have hst := eB_step HM.out.1 HM.out.2.1 HM.out.2.2.1 HM.out.2.2.2 (show o1 ≤ o1 + k by omega) (by omega) hx
      obtain ⟨⟨s0, s1, f0, f1⟩, ⟨r0, r1, q0, q1⟩, hkr⟩ := H.out
      obtain ⟨lv, hlv⟩ : ∃ lv, bandL fs a (eB (shelvesD fs) a z (o1 + k)) = lv := ⟨_, rfl⟩
      obtain ⟨rv, hrv⟩ : ∃ rv, bandR fs a (eB (shelvesD fs) a z (o1 + k)) = rv := ⟨_, rfl⟩
      rw [hlv] at hst s0
      rw [hrv] at hst s1
      have HST := Lib.hid (show bandL fs a (eB (shelvesD fs) a z (o1 + (k + 1))) = max lv x.2.1 ∧ bandR fs a (eB (shelvesD fs) a z (o1 + (k + 1))) = min rv x.2.2 from hst)
      have hla := row_at (HLL.out.below hkr).row hx (j := o1 * 3 + k * 3) (by omega)
      obtain ⟨c0, c1, c2⟩ := hla
      have HSS := Lib.hid (⟨⟨s0, s1, f0, f1⟩, ⟨r0, r1, q0, q1⟩, hkr⟩ : (wr.cell? ⟨bb, 0, none⟩ = some (.int .i64 lv) ∧ wr.cell? ⟨bb, 1, none⟩ = some (.int .i64 rv) ∧ wr.frozen? ⟨bb, 0, none⟩ = false ∧ wr.frozen? ⟨bb, 1, none⟩ = false) ∧ (wr.cell? ⟨rb, 0, none⟩ = some (.int .i64 0) ∧ wr.cell? ⟨rb, 1, none⟩ = some (.int .i64 0) ∧ wr.frozen? ⟨rb, 0, none⟩ = false ∧ wr.frozen? ⟨rb, 1, none⟩ = false) ∧ Below w.heap.size w wr)
      have HCL := Lib.hid (fun w' => clip_any lv rv x.2.1 x.2.2 w')
      clear hst hlv hrv hx hkk hkr r0 r1 q0 q1
      go_upto_region 7 with fail
      generalize hW2 : World.alloc wr _ = W2
      obtain ⟨eb, heb⟩ : ∃ eb, wr.heap.size = eb := ⟨_, rfl⟩
      have hk2 : Below wr.heap.size wr W2 := by rw [← hW2]; exact ba1 _ _
      have d0 : W2.cell? ⟨eb, 1, none⟩ = some (.int .i64 x.2.1) := by rw [← hW2, ← heb]; simp [go_sem]
      have d1 : W2.cell? ⟨eb, 2, none⟩ = some (.int .i64 x.2.2) := by rw [← hW2, ← heb]; simp [go_sem]
      rw [heb]
      have u0 := (hk2.cell (p := ⟨bb, 0, none⟩) (block_lt_of_cell s0)).trans s0
      have u1 := (hk2.cell (p := ⟨bb, 1, none⟩) (block_lt_of_cell s1)).trans s1
      have HK2 := Lib.hid hk2
      clear hW2 heb hk2 s0 s1 f0 f1 c0 c1 c2
      go_wp2_with (first
        | (go_at_call 42; refine (HCL.out _).mono ?_; rintro e w3 ⟨rfl, k3⟩; have K3 := Lib.hid (thru HK2.out k3); clear d0 d1 u0 u1; have t0 := (K3.out.cell (p := ⟨bb, 0, none⟩) (block_lt_of_cell HSS.out.1.1)).trans HSS.out.1.1; have t1 := (K3.out.cell (p := ⟨bb, 1, none⟩) (block_lt_of_cell HSS.out.1.2.1)).trans HSS.out.1.2.1; have g0 := (K3.out.frozen (p := ⟨bb, 0, none⟩) (block_lt_of_cell HSS.out.1.1)).trans HSS.out.1.2.2.1; have g1 := (K3.out.frozen (p := ⟨bb, 1, none⟩) (block_lt_of_cell HSS.out.1.2.1)).trans HSS.out.1.2.2.2; clear k3))
      go_roundw
      case rel =>
        refine ⟨k + 1, by omega, by go_num, Lib.hid ?_⟩
        obtain ⟨-, ⟨p0, p1, p2, p3⟩, p4⟩ := HSS.out
        have hne : rb ≠ bb := by have := HT.out.2; omega
        have v0 := (K3.out.cell (p := ⟨rb, 0, none⟩) (block_lt_of_cell p0)).trans p0
        have v1 := (K3.out.cell (p := ⟨rb, 1, none⟩) (block_lt_of_cell p1)).trans p1
        have v2 := (K3.out.frozen (p := ⟨rb, 0, none⟩) (block_lt_of_cell p0)).trans p2
        have v3 := (K3.out.frozen (p := ⟨rb, 1, none⟩) (block_lt_of_cell p1)).trans p3
        rw [HST.out.1, HST.out.2]
        refine ⟨⟨by simp [go_sem, t0], by simp [go_sem, t1], by simp [go_sem, g0], by simp [go_sem, g1]⟩, ⟨?_, ?_, ?_, ?_⟩, ((thru p4 K3.out).setCell (p := ⟨bb, 0, none⟩) HT2.out.2 _).setCell (p := ⟨bb, 1, none⟩) HT2.out.2 _⟩
        · rw [World.cell?_setCell_other _ _ _ _ (by simp <;> omega), World.cell?_setCell_other _ _ _ _ (by simp <;> omega)]; exact v0
        · rw [World.cell?_setCell_other _ _ _ _ (by simp <;> omega), World.cell?_setCell_other _ _ _ _ (by simp <;> omega)]; exact v1
        · rw [World.frozen?_setCell, World.frozen?_setCell]; exact v2
        · rw [World.frozen?_setCell, World.frozen?_setCell]; exact v3
      case measure => simp [intOf]; omega
    · obtain rfl : k = cnt := by omega
      have hkk := HK.out
      have hE := eB_end HM.out.2.2.1 HM.out.2.2.2
      obtain ⟨⟨s0, s1, f0, f1⟩, ⟨r0, r1, q0, q1⟩, hkr⟩ := H.out
      rw [← hkk.2.1, hE] at s0 s1
      have hne : rb ≠ bb := by have := HT.out.2; omega
      have HKR := Lib.hid hkr
      clear hE hkk hkr
      go_wp2_with fail
      exact bodyPost_ret (v := .agg #[.int .i64 (bandL fs a z), .int .i64 (bandR fs a z)]) (by simp [results, Try.results73, go_sem, r0, r1]) rfl ⟨rfl, (HKR.out.setCell (p := ⟨rb, 0, none⟩) HT2.out.1 _).setCell (p := ⟨rb, 1, none⟩) HT2.out.1 _⟩

theorem pband_any (w : World) (B : Nat) (p : Addr) (fs : List Fl) (a z : Int) (h : InL w B p fs) (hs : fs.all nearF = true) (ha : -4503599627370496 ≤ a) (hz : z ≤ 4611686018427387904) :
    Calls Try.prog 73 #[.pointer (some p), .agg #[.int .i64 a, .int .i64 z]] w fun r w' => r = .returned (.agg #[.int .i64 (bandL fs a z), .int .i64 (bandR fs a z)]) ∧ Below w.heap.size w w' := by
  by_cases haz : a < z
  · obtain ⟨hf, pb, g, n, c, rfl, hl⟩ := h
    have hd := (draws_dw _ _ (shelvesD_draws (near_of hs))).1
    obtain ⟨k1, h1⟩ := thr_of hd a
    obtain ⟨k2, h2⟩ := thr_of hd (z - 1)
    have q1 := thr_pos hd (by unfold far; omega) h1
    have q2 := thr_pos hd (by unfold far; omega) h2
    obtain ⟨o1, rfl⟩ : ∃ o, k1 = o + 1 := ⟨k1 - 1, by omega⟩
    obtain ⟨o2, rfl⟩ : ∃ o, k2 = o + 1 := ⟨k2 - 1, by omega⟩
    have hlen := shelvesD_len fs
    have hll := hl.len
    exact pband_some w B pb g n c o1 o2 fs a z hl hd (by omega) ha hz haz h1 h2
  · exact pband_none w p fs a z (by omega)

/-- What the program's lists answer. -/
theorem listOk : ListOk InL where
  keep := fun w w' B p fs h k => inL_keep h k
  new := new_any
  add := fun w B p fs f h hB hlen hs hf => padd_any w B p fs f h hB hlen hs hf
  band := fun w B p fs a z h hs ha hz => pband_any w B p fs a z h hs ha hz
  after := fun w B p fs y h hs => pafter_any w B p fs y h hs

end Go.Proofs.Ytdibdfalahjmbaa.Shelf
