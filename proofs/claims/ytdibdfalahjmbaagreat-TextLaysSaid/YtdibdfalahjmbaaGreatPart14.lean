/- Texts of this proof that follow each other, in one file. -/
import Derived.Test.YtdibdfalahjmbaaGreatPart13
import Derived.Test.YtdibdfalahjmbaaGreatPart9
import Derived.Test.YtdibdfalahjmbaaGreatPart5
namespace Go.Proofs.YtdibdfalahjmbaaGreat.Shelf

open Go.RowKit Go.Sort Go.Proofs.YtdibdfalahjmbaaGreat.Rect Go.Proofs.YtdibdfalahjmbaaGreat.More

set_option linter.unusedVariables false

set_option maxRecDepth 100000 in
set_option maxHeartbeats 1000000 in
theorem pband_none (w : World) (p : Addr) (fs : List Fl) (a z : Int) (h : z ≤ a) :
    Calls Tryz.prog 101 #[.pointer (some p), .agg #[.int .i64 a, .int .i64 z]] w fun r w' => r = .returned (.agg #[.int .i64 (bandL fs a z), .int .i64 (bandR fs a z)]) ∧ Below w.heap.size w w' := by
  rw [bandL_none fs h, bandR_none fs h]
  go_enter Tryz.func101, Tryz.ntmps101
  go_wp2_with fail
  exact bodyPost_ret (v := .agg #[.int .i64 (-4503599627370496), .int .i64 4503599627370496]) (by simp [results, Tryz.results101, go_sem]) rfl ⟨rfl, by first | exact ba3 _ _ _ _ | skip⟩

set_option maxRecDepth 100000 in
set_option maxHeartbeats 1500000 in
theorem pband_some (w : World) (B pb g n c o1 o2 : Nat) (fs : List Fl) (a z : Int) (hl : Lst w B pb g n c (shelvesD fs)) (hd : DW (bndF fs) (-far) (shelvesD fs)) (hn : n ≤ 10000) (ha : -4503599627370496 ≤ a) (hz : z ≤ 4611686018427387904) (haz : a < z) (h1 : Thr (shelvesD fs) a (o1 + 1)) (h2 : Thr (shelvesD fs) (z - 1) (o2 + 1)) :
    Calls Tryz.prog 101 #[.pointer (some ⟨pb, 0, none⟩), .agg #[.int .i64 a, .int .i64 z]] w fun r w' => r = .returned (.agg #[.int .i64 (bandL fs a z), .int .i64 (bandR fs a z)]) ∧ Below w.heap.size w w' := by
  have hle := thr_mono hd h1 h2 haz
  have HM := Lib.hid (⟨hd, h1, h2, haz⟩ : DW (bndF fs) (-far) (shelvesD fs) ∧ Thr (shelvesD fs) a (o1 + 1) ∧ Thr (shelvesD fs) (z - 1) (o2 + 1) ∧ a < z)
  have hll := hl.len
  have ho2 : o2 + 1 ≤ n := by have := h2.1; omega
  obtain ⟨hnc, hc63⟩ := hl.cap
  obtain ⟨cnt, hcnt⟩ : ∃ cnt, o2 + 1 = o1 + cnt := ⟨o2 + 1 - o1, by omega⟩
  obtain ⟨z1, hz1⟩ : ∃ z1, z - 1 = z1 := ⟨_, rfl⟩
  have hw1 : IntKind.i64.wrap (z - 1) = z1 := by rw [IntWalk.i64_in _ (by omega)]; exact hz1
  have hw2 : IntKind.i64.wrap ((o2 : Int) + 1) = (o2 : Int) + 1 := IntWalk.i64_in _ (by omega)
  have HLL := Lib.hid hl
  have HO1 := Lib.hid (fun w' (k : Below w.heap.size w w') => of_next pb g n c B o1 _ a w' (hl.below k) (by omega) h1)
  have HO2 := Lib.hid (fun w' (k : Below w.heap.size w w') => of_next pb g n c B o2 _ z1 w' (hl.below k) (by omega) (by rw [← hz1]; exact h2))
  have HK := Lib.hid (⟨ho2, hcnt, hll, hle, hn⟩ : o2 + 1 ≤ n ∧ o2 + 1 = o1 + cnt ∧ (shelvesD fs).length = n ∧ o1 ≤ o2 ∧ n ≤ 10000)
  have hb1 : ¬ a ≥ z := by omega
  have hb2 : (o1 : Int) ≤ (o2 : Int) + 1 := by omega
  have hb3 : (o2 : Int) + 1 ≤ (c : Int) := by omega
  have hb4 : ¬ (c = o1) := by omega
  have hb5 : ((o2 : Int) + 1).toNat - o1 = cnt := by omega
  have hb6 : o2 + 1 - o1 = cnt := by omega
  have hb7 : ((o2 : Int) + 1).toNat = o2 + 1 := by omega
  have hb8 : (0 : Int) ≤ (o2 : Int) + 1 := by omega
  clear hl hd h1 h2 hll hle hz1 hcnt ha hz hn
  go_enter Tryz.func101, Tryz.ntmps101
  go_upto_region 2 with fail
  generalize hW : World.alloc (World.alloc (World.alloc w _) _) _ = W
  obtain ⟨tb, htb⟩ : ∃ tb, w.heap.size = tb := ⟨_, rfl⟩
  have hkW : Below w.heap.size w W := by rw [← hW]; exact ba3 _ _ _ _
  have e0 : W.cell? ⟨tb, 0, none⟩ = some (.int .i64 a) := by rw [← hW, ← htb]; simp [go_sem]
  have e1 : W.cell? ⟨tb, 1, none⟩ = some (.int .i64 z) := by rw [← hW, ← htb]; simp [go_sem]
  have r0 : W.cell? ⟨tb + 1, 0, none⟩ = some (.int .i64 0) := by rw [← hW, ← htb]; simp [go_sem]
  have r1 : W.cell? ⟨tb + 1, 1, none⟩ = some (.int .i64 0) := by rw [← hW, ← htb]; simp [go_sem]
  have s0 : W.cell? ⟨tb + 2, 0, none⟩ = some (.int .i64 (-4503599627370496)) := by rw [← hW, ← htb]; simp [go_sem]
  have s1 : W.cell? ⟨tb + 2, 1, none⟩ = some (.int .i64 4503599627370496) := by rw [← hW, ← htb]; simp [go_sem]
  have q0 : W.frozen? ⟨tb + 1, 0, none⟩ = false := by rw [← hW, ← htb]; simp [go_sem]
  have q1 : W.frozen? ⟨tb + 1, 1, none⟩ = false := by rw [← hW, ← htb]; simp [go_sem]
  have f0 : W.frozen? ⟨tb + 2, 0, none⟩ = false := by rw [← hW, ← htb]; simp [go_sem]
  have f1 : W.frozen? ⟨tb + 2, 1, none⟩ = false := by rw [← hW, ← htb]; simp [go_sem]
  rw [htb]
  obtain ⟨rb, hrb⟩ : ∃ rb, tb + 1 = rb := ⟨_, rfl⟩
  obtain ⟨bb, hbb⟩ : ∃ bb, tb + 2 = bb := ⟨_, rfl⟩
  rw [show tb + 1 + 1 = bb from hbb, hrb]
  rw [hrb] at r0 r1 q0 q1
  rw [hbb] at s0 s1 f0 f1
  have KW := Lib.hid hkW
  have HT := Lib.hid (⟨htb, by omega⟩ : w.heap.size = tb ∧ rb < bb)
  have HT2 := Lib.hid (show w.heap.size ≤ rb ∧ w.heap.size ≤ bb by omega)
  clear hW hkW htb hrb hbb
  go_upto_region 4 with fail
  have hE := fun w' (k : Below W.heap.size W w') => (⟨(k.cell (p := ⟨tb, 0, none⟩) (block_lt_of_cell e0)).trans e0, (k.cell (p := ⟨tb, 1, none⟩) (block_lt_of_cell e1)).trans e1⟩ : w'.cell? ⟨tb, 0, none⟩ = some (.int .i64 a) ∧ w'.cell? ⟨tb, 1, none⟩ = some (.int .i64 z))
  have HE := Lib.hid hE
  have HL := Lib.hid (fun w' (k : Below W.heap.size W w') => HLL.out.below (thru KW.out k))
  have HO1' := Lib.hid (fun w' (k : Below W.heap.size W w') => HO1.out w' (thru KW.out k))
  have HO2' := Lib.hid (fun w' (k : Below W.heap.size W w') => HO2.out w' (thru KW.out k))
  clear HO1 HO2 hE e0 e1
  have HO1 := HO1'
  have HO2 := HO2'
  clear HO1' HO2'
  have HS := Lib.hid (⟨⟨s0, s1, f0, f1⟩, r0, r1, q0, q1⟩ : (W.cell? ⟨bb, 0, none⟩ = some (.int .i64 (-4503599627370496)) ∧ W.cell? ⟨bb, 1, none⟩ = some (.int .i64 4503599627370496) ∧ W.frozen? ⟨bb, 0, none⟩ = false ∧ W.frozen? ⟨bb, 1, none⟩ = false) ∧ W.cell? ⟨rb, 0, none⟩ = some (.int .i64 0) ∧ W.cell? ⟨rb, 1, none⟩ = some (.int .i64 0) ∧ W.frozen? ⟨rb, 0, none⟩ = false ∧ W.frozen? ⟨rb, 1, none⟩ = false)
  clear s0 s1 f0 f1 r0 r1 q0 q1
  refine HoldAll.wp_region_hold_all [.val (.pointer (some ⟨pb, 0, none⟩)), .val (.pointer (some ⟨pb, 0, none⟩)), .val (.pointer (some ⟨pb, 0, none⟩)), .val (.slice (some ⟨g, 0, none⟩) n c), .val (.pointer (some ⟨pb, 0, none⟩)), .val (.pointer (some ⟨tb, 0, none⟩)), .val (.int .i64 a), .val (.int .i64 (o1 : Int)), .val (.pointer (some ⟨pb, 0, none⟩)), .val (.pointer (some ⟨tb, 1, none⟩)), .val (.int .i64 z), .val (.int .i64 z1), .val (.int .i64 (o2 : Int)), .val (.int .i64 ((o2 : Int) + 1)), .val (.slice (some ⟨g, o1 * 3, none⟩) cnt (c - o1)), .val (.int .i64 (cnt : Int)), .val (.int .i64 0)] (by kernel_rfl) (by kernel_rfl) (by kernel_rfl) ?_ ?_
  · simp only [Hold.fill, Hold.Leave.value]
    refine ⟨?_, ?_, ?_, ?_, ?_, ?_, ?_, ?_, ?_, ?_, ?_, ?_, ?_, ?_, ?_, ?_, ?_, trivial⟩
    · intro gg w' hw hk
      go_simp
      exact ⟨rfl, rfl⟩
    · intro gg w' hw hk
      go_simp
      exact ⟨rfl, rfl⟩
    · intro gg w' hw hk
      go_simp
      exact ⟨rfl, rfl⟩
    · intro gg w' hw hk
      have hp := (HL.out w' hw).cell
      go_simp
      exact ⟨rfl, rfl⟩
    · intro gg w' hw hk
      go_simp
      exact ⟨rfl, rfl⟩
    · intro gg w' hw hk
      go_simp
      exact ⟨rfl, rfl⟩
    · intro gg w' hw hk
      have q0 := (HE.out w' hw).1
      go_simp
      exact ⟨rfl, rfl⟩
    · intro gg w' hw hk
      have hc := HO1.out w' hw
      go_simp
      exact Hold.stays_call hc
    · intro gg w' hw hk
      go_simp
      exact ⟨rfl, rfl⟩
    · intro gg w' hw hk
      go_simp
      exact ⟨rfl, rfl⟩
    · intro gg w' hw hk
      have q1 := (HE.out w' hw).2
      go_simp
      exact ⟨rfl, rfl⟩
    · intro gg w' hw hk
      go_simp
      exact ⟨rfl, rfl⟩
    · intro gg w' hw hk
      have hc := HO2.out w' hw
      go_simp
      exact Hold.stays_call hc
    · intro gg w' hw hk
      go_simp
      exact ⟨rfl, rfl⟩
    · intro gg w' hw hk
      go_simp
      exact ⟨rfl, rfl⟩
    · intro gg w' hw hk
      go_simp
      exact ⟨rfl, rfl⟩
    · intro gg w' hw hk
      go_simp
      exact ⟨rfl, rfl⟩
  intro gg w2 k2 hgg
  simp only [Hold.fill, Hold.Leave.value]
  clear hgg
  have K2 := Lib.hid (thru KW.out k2)
  have HS2 := Lib.hid (show (w2.cell? ⟨bb, 0, none⟩ = some (.int .i64 (bandL fs a (eB (shelvesD fs) a z (o1 + 0)))) ∧ w2.cell? ⟨bb, 1, none⟩ = some (.int .i64 (bandR fs a (eB (shelvesD fs) a z (o1 + 0)))) ∧ w2.frozen? ⟨bb, 0, none⟩ = false ∧ w2.frozen? ⟨bb, 1, none⟩ = false) ∧ (w2.cell? ⟨rb, 0, none⟩ = some (.int .i64 0) ∧ w2.cell? ⟨rb, 1, none⟩ = some (.int .i64 0) ∧ w2.frozen? ⟨rb, 0, none⟩ = false ∧ w2.frozen? ⟨rb, 1, none⟩ = false) ∧ Below w.heap.size w w2 from by
    obtain ⟨⟨s0, s1, f0, f1⟩, r0, r1, q0, q1⟩ := HS.out
    have hb := block_lt_of_cell s0
    have hr := block_lt_of_cell r0
    have he : eB (shelvesD fs) a z (o1 + 0) = a := eB_start HM.out.1 HM.out.2.1 HM.out.2.2.2
    rw [he, bandL_none fs (Int.le_refl a), bandR_none fs (Int.le_refl a)]
    exact ⟨⟨(k2.cell (p := ⟨bb, 0, none⟩) hb).trans s0, (k2.cell (p := ⟨bb, 1, none⟩) hb).trans s1, (k2.frozen (p := ⟨bb, 0, none⟩) hb).trans f0, (k2.frozen (p := ⟨bb, 1, none⟩) hb).trans f1⟩,
      ⟨(k2.cell (p := ⟨rb, 0, none⟩) hr).trans r0, (k2.cell (p := ⟨rb, 1, none⟩) hr).trans r1, (k2.frozen (p := ⟨rb, 0, none⟩) hr).trans q0, (k2.frozen (p := ⟨rb, 1, none⟩) hr).trans q1⟩, thru KW.out k2⟩)
  clear k2 HS HE HO1 HO2 HL
  go_wp2_with fail
  go_loopw [31] (fun i wr => ∃ k : Nat, k ≤ cnt ∧ i = .int .i64 (k : Int) ∧ Hid ((wr.cell? ⟨bb, 0, none⟩ = some (.int .i64 (bandL fs a (eB (shelvesD fs) a z (o1 + k)))) ∧ wr.cell? ⟨bb, 1, none⟩ = some (.int .i64 (bandR fs a (eB (shelvesD fs) a z (o1 + k)))) ∧ wr.frozen? ⟨bb, 0, none⟩ = false ∧ wr.frozen? ⟨bb, 1, none⟩ = false) ∧ (wr.cell? ⟨rb, 0, none⟩ = some (.int .i64 0) ∧ wr.cell? ⟨rb, 1, none⟩ = some (.int .i64 0) ∧ wr.frozen? ⟨rb, 0, none⟩ = false ∧ wr.frozen? ⟨rb, 1, none⟩ = false) ∧ Below w.heap.size w wr)) (fun i _ => cnt - (intOf i).toNat)
  case atStart => exact ⟨0, Nat.zero_le _, rfl, HS2⟩
  case round =>
    clear HS2 K2 KW
    obtain ⟨k, hk, rfl, H⟩ := hrel
    by_cases hlt : k < cnt
    · have hki : (k : Int) < (cnt : Int) := by omega
      have hk0 : ¬ (k : Int) < 0 := by omega
      have hkk := HK.out
      obtain ⟨x, hx⟩ : ∃ x, (shelvesD fs)[o1 + k]? = some x := ⟨_, List.getElem?_eq_getElem (by omega)⟩
      have hst := eB_step HM.out.1 HM.out.2.1 HM.out.2.2.1 HM.out.2.2.2 (show o1 ≤ o1 + k by omega) (by omega) hx
      obtain ⟨⟨s0, s1, f0, f1⟩, ⟨r0, r1, q0, q1⟩, hkr⟩ := H.out
      obtain ⟨lv, hlv⟩ : ∃ lv, bandL fs a (eB (shelvesD fs) a z (o1 + k)) = lv := ⟨_, rfl⟩
      obtain ⟨rv, hrv⟩ : ∃ rv, bandR fs a (eB (shelvesD fs) a z (o1 + k)) = rv := ⟨_, rfl⟩
      rw [hlv] at hst s0
      rw [hrv] at hst s1
      have HST := Lib.hid (show bandL fs a (eB (shelvesD fs) a z (o1 + (k + 1))) = max lv x.2.1 ∧ bandR fs a (eB (shelvesD fs) a z (o1 + (k + 1))) = min rv x.2.2 from hst)
      have hla := row_at (HLL.out.below hkr).row hx (j := o1 * 3 + k * 3) (by omega)
      obtain ⟨c0, c1, c2⟩ := hla
      have HSS := Lib.hid (⟨⟨s0, s1, f0, f1⟩, ⟨r0, r1, q0, q1⟩, hkr⟩ : (wr.cell? ⟨bb, 0, none⟩ = some (.int .i64 lv) ∧ wr.cell? ⟨bb, 1, none⟩ = some (.int .i64 rv) ∧ wr.frozen? ⟨bb, 0, none⟩ = false ∧ wr.frozen? ⟨bb, 1, none⟩ = false) ∧ (wr.cell? ⟨rb, 0, none⟩ = some (.int .i64 0) ∧ wr.cell? ⟨rb, 1, none⟩ = some (.int .i64 0) ∧ wr.frozen? ⟨rb, 0, none⟩ = false ∧ wr.frozen? ⟨rb, 1, none⟩ = false) ∧ Below w.heap.size w wr)
      have HCL := Lib.hid (fun w' => clip_any lv rv x.2.1 x.2.2 w')
      clear hst hlv hrv hx hkk hkr r0 r1 q0 q1
      go_upto_region 7 with fail
      generalize hW2 : World.alloc wr _ = W2
      obtain ⟨eb, heb⟩ : ∃ eb, wr.heap.size = eb := ⟨_, rfl⟩
      have hk2 : Below wr.heap.size wr W2 := by rw [← hW2]; exact ba1 _ _
      have d0 : W2.cell? ⟨eb, 1, none⟩ = some (.int .i64 x.2.1) := by rw [← hW2, ← heb]; simp [go_sem]
      have d1 : W2.cell? ⟨eb, 2, none⟩ = some (.int .i64 x.2.2) := by rw [← hW2, ← heb]; simp [go_sem]
      rw [heb]
      have u0 := (hk2.cell (p := ⟨bb, 0, none⟩) (block_lt_of_cell s0)).trans s0
      have u1 := (hk2.cell (p := ⟨bb, 1, none⟩) (block_lt_of_cell s1)).trans s1
      have HK2 := Lib.hid hk2
      clear hW2 heb hk2 s0 s1 f0 f1 c0 c1 c2
      go_wp2_with (first
        | (go_at_call 91; refine (HCL.out _).mono ?_; rintro e w3 ⟨rfl, k3⟩; have K3 := Lib.hid (thru HK2.out k3); clear d0 d1 u0 u1; have t0 := (K3.out.cell (p := ⟨bb, 0, none⟩) (block_lt_of_cell HSS.out.1.1)).trans HSS.out.1.1; have t1 := (K3.out.cell (p := ⟨bb, 1, none⟩) (block_lt_of_cell HSS.out.1.2.1)).trans HSS.out.1.2.1; have g0 := (K3.out.frozen (p := ⟨bb, 0, none⟩) (block_lt_of_cell HSS.out.1.1)).trans HSS.out.1.2.2.1; have g1 := (K3.out.frozen (p := ⟨bb, 1, none⟩) (block_lt_of_cell HSS.out.1.2.1)).trans HSS.out.1.2.2.2; clear k3))
      go_roundw
      case rel =>
        refine ⟨k + 1, by omega, by go_num, Lib.hid ?_⟩
        obtain ⟨-, ⟨p0, p1, p2, p3⟩, p4⟩ := HSS.out
        have hne : rb ≠ bb := by have := HT.out.2; omega
        have v0 := (K3.out.cell (p := ⟨rb, 0, none⟩) (block_lt_of_cell p0)).trans p0
        have v1 := (K3.out.cell (p := ⟨rb, 1, none⟩) (block_lt_of_cell p1)).trans p1
        have v2 := (K3.out.frozen (p := ⟨rb, 0, none⟩) (block_lt_of_cell p0)).trans p2
        have v3 := (K3.out.frozen (p := ⟨rb, 1, none⟩) (block_lt_of_cell p1)).trans p3
        rw [HST.out.1, HST.out.2]
        refine ⟨⟨by simp [go_sem, t0], by simp [go_sem, t1], by simp [go_sem, g0], by simp [go_sem, g1]⟩, ⟨?_, ?_, ?_, ?_⟩, ((thru p4 K3.out).setCell (p := ⟨bb, 0, none⟩) HT2.out.2 _).setCell (p := ⟨bb, 1, none⟩) HT2.out.2 _⟩
        · rw [World.cell?_setCell_other _ _ _ _ (by simp <;> omega), World.cell?_setCell_other _ _ _ _ (by simp <;> omega)]; exact v0
        · rw [World.cell?_setCell_other _ _ _ _ (by simp <;> omega), World.cell?_setCell_other _ _ _ _ (by simp <;> omega)]; exact v1
        · rw [World.frozen?_setCell, World.frozen?_setCell]; exact v2
        · rw [World.frozen?_setCell, World.frozen?_setCell]; exact v3
      case measure => simp [intOf]; omega
    · obtain rfl : k = cnt := by omega
      have hkk := HK.out
      have hE := eB_end HM.out.2.2.1 HM.out.2.2.2
      obtain ⟨⟨s0, s1, f0, f1⟩, ⟨r0, r1, q0, q1⟩, hkr⟩ := H.out
      rw [← hkk.2.1, hE] at s0 s1
      have hne : rb ≠ bb := by have := HT.out.2; omega
      have HKR := Lib.hid hkr
      clear hE hkk hkr
      go_wp2_with fail
      exact bodyPost_ret (v := .agg #[.int .i64 (bandL fs a z), .int .i64 (bandR fs a z)]) (by simp [results, Tryz.results101, go_sem, r0, r1]) rfl ⟨rfl, (HKR.out.setCell (p := ⟨rb, 0, none⟩) HT2.out.1 _).setCell (p := ⟨rb, 1, none⟩) HT2.out.1 _⟩

theorem pband_any (w : World) (B : Nat) (p : Addr) (fs : List Fl) (a z : Int) (h : InL w B p fs) (hs : fs.all nearF = true) (ha : -4503599627370496 ≤ a) (hz : z ≤ 4611686018427387904) :
    Calls Tryz.prog 101 #[.pointer (some p), .agg #[.int .i64 a, .int .i64 z]] w fun r w' => r = .returned (.agg #[.int .i64 (bandL fs a z), .int .i64 (bandR fs a z)]) ∧ Below w.heap.size w w' := by
  by_cases haz : a < z
  · obtain ⟨hf, pb, g, n, c, rfl, hl⟩ := h
    have hd := (draws_dw _ _ (shelvesD_draws (near_of hs))).1
    obtain ⟨k1, h1⟩ := thr_of hd a
    obtain ⟨k2, h2⟩ := thr_of hd (z - 1)
    have q1 := thr_pos hd (by unfold far; omega) h1
    have q2 := thr_pos hd (by unfold far; omega) h2
    obtain ⟨o1, rfl⟩ : ∃ o, k1 = o + 1 := ⟨k1 - 1, by omega⟩
    obtain ⟨o2, rfl⟩ : ∃ o, k2 = o + 1 := ⟨k2 - 1, by omega⟩
    have hlen := shelvesD_len fs
    have hll := hl.len
    exact pband_some w B pb g n c o1 o2 fs a z hl hd (by omega) ha hz haz h1 h2
  · exact pband_none w p fs a z (by omega)

end Go.Proofs.YtdibdfalahjmbaaGreat.Shelf

namespace Go.Proofs.YtdibdfalahjmbaaGreat.Space

open Go.RowKit Go.Sort Go.Proofs.YtdibdfalahjmbaaGreat.Rect Go.Proofs.YtdibdfalahjmbaaGreat.More Go.Proofs.YtdibdfalahjmbaaGreat.Shelf

set_option linter.unusedVariables false

set_option linter.unusedSimpArgs false

structure RowAt (w : World) (b : Nat) (xs : List Value) : Prop where
  at' : ∀ o, w.cell? ⟨b, o, none⟩ = xs[o]?
  frz : ∀ o, w.frozen? ⟨b, o, none⟩ = false

section

variable {w w' : World} {b : Nat} {xs : List Value}

theorem RowAt.lt (h : RowAt w b xs) (hn : 0 < xs.length) : b < w.heap.size := by
  have := h.at' 0
  rw [List.getElem?_eq_getElem hn] at this
  exact block_lt_of_cell this

theorem RowAt.kept (h : RowAt w b xs) (e : w'.heap[b]? = w.heap[b]?) : RowAt w' b xs :=
  ⟨fun o => (World.cell?_of_block (a := ⟨b, o, none⟩) e).trans (h.at' o), fun o => (World.frozen?_of_block (a := ⟨b, o, none⟩) e).trans (h.frz o)⟩

theorem RowAt.set (h : RowAt w b xs) (o : Nat) (v : Value) (ho : o < xs.length) : RowAt (w.setCell ⟨b, o, none⟩ v) b (xs.set o v) := by
  refine ⟨fun j => ?_, fun j => by rw [World.frozen?_setCell]; exact h.frz j⟩
  rw [List.getElem?_set]
  by_cases e : o = j
  · subst e
    rw [if_pos rfl, if_pos ho]
    have := h.at' o
    rw [List.getElem?_eq_getElem ho] at this
    exact World.cell?_setCell_same _ _ _ this
  · rw [if_neg e, ← h.at' j]
    exact World.cell?_setCell_other _ _ _ _ (by simp [e])

theorem RowAt.below (h : RowAt w b xs) (hn : 0 < xs.length) (k : Below w.heap.size w w') : RowAt w' b xs := h.kept (k.block b (h.lt hn))

theorem RowAt.but {G : Nat → Prop} (h : RowAt w b xs) (hn : 0 < xs.length) (k : But G w w') (hG : ¬ G b) : RowAt w' b xs := h.kept (k.block b (h.lt hn) hG)

theorem RowAt.new (w : World) (xs : List Value) (T : TypeId) : RowAt (w.alloc (.cells xs.toArray T)) w.heap.size xs := by
  refine ⟨fun o => ?_, fun o => by simp [go_sem]⟩
  rw [cell_of_row _ w.heap.size o xs.toArray T (0, 0) (heap_alloc_new w _)]
  simp

theorem mineE_but {α : Type} {E : Enc α} {T : TypeId} {B n c : Nat} {A : Option Addr} {xs : List α} {G : Nat → Prop} (h : MineE E T w B A n c xs) (k : But G w w') (hG : ∀ j, blk A = some j → ¬ G j) : MineE E T w' B A n c xs := by
  refine ⟨h.1, ?_⟩
  rcases h.2 with e | ⟨g, cap, cur, e, hb, hg, r⟩
  · exact .inl e
  · have hgl : g < w.heap.size := (Array.getElem?_eq_some_iff.1 hg).1
    have hA : blk A = some g := by injection e with e1 e2 e3; rw [e1]; rfl
    exact .inr ⟨g, cap, cur, e, hb, (k.block g hgl (hG g hA)).trans hg, r⟩

theorem lst_but {B pb g n c : Nat} {xs : List Sh} {G : Nat → Prop} (h : Lst w B pb g n c xs) (k : But G w w') (h1 : ¬ G pb) (h2 : ¬ G g) : Lst w' B pb g n c xs :=
  ⟨h.hb, (k.cell h.lt h1).trans h.cell, (k.frozen h.lt h1).trans h.frz, h.ne, mineE_but h.row k (fun j e => by injection e with e; rw [← e]; exact h2)⟩

end

abbrev spaceRow (pb : Nat) (A : Option Addr) (m cA : Nat) (fs : List Fl) : List Value :=
  [.pointer (some ⟨pb, 0, none⟩), .slice A m cA, .int .i64 (lastD fs), .bool (decide (0 < fs.length)),
   .int .i64 (botS fs 0).1, .bool (botS fs 0).2, .int .i64 (botS fs 1).1, .bool (botS fs 1).2,
   .int .i64 (botS fs 2).1, .bool (botS fs 2).2, .int .i64 (botS fs 3).1, .bool (botS fs 3).2]

structure Spc (w : World) (sb pb g n c : Nat) (A : Option Addr) (cA : Nat) (fs : List Fl) : Prop where
  lst : Lst w 0 pb g n c (shelvesD fs)
  own : MineE encF 54 w 0 A fs.length cA fs
  row : RowAt w sb (spaceRow pb A fs.length cA fs)
  n1 : sb ≠ pb
  n2 : sb ≠ g
  n3 : ∀ k, blk A = some k → k ≠ sb ∧ k ≠ pb ∧ k ≠ g

abbrev spaceB (sb pb g : Nat) (A : Option Addr) : Nat → Prop := fun k => k = sb ∨ k = pb ∨ k = g ∨ blk A = some k

def InP (w : World) (F : Nat → Prop) (p : Addr) (fs : List Fl) : Prop :=
  fs.length ≤ 1000 ∧ ∃ sb pb g n c A cA, p = ⟨sb, 0, none⟩ ∧ F = spaceB sb pb g A ∧ Spc w sb pb g n c A cA fs

theorem Spc.but {w w' : World} {sb pb g n c : Nat} {A : Option Addr} {cA : Nat} {fs : List Fl} {G : Nat → Prop} (h : Spc w sb pb g n c A cA fs) (k : But G w w') (hG : ∀ j, spaceB sb pb g A j → ¬ G j) : Spc w' sb pb g n c A cA fs :=
  ⟨lst_but h.lst k (hG pb (.inr (.inl rfl))) (hG g (.inr (.inr (.inl rfl)))), mineE_but h.own k (fun j e => hG j (.inr (.inr (.inr e)))), h.row.but (by simp) k (hG sb (.inl rfl)), h.n1, h.n2, h.n3⟩

theorem Spc.lt {w : World} {sb pb g n c : Nat} {A : Option Addr} {cA : Nat} {fs : List Fl} (h : Spc w sb pb g n c A cA fs) : ∀ j, spaceB sb pb g A j → j < w.heap.size := by
  rintro j (rfl | rfl | rfl | e)
  · exact h.row.lt (by simp)
  · exact h.lst.lt
  · exact h.lst.glt.2
  · exact (h.own.lt j e).2

theorem inP_keep {w w' : World} {F G : Nat → Prop} {p : Addr} {fs : List Fl} (h : InP w F p fs) (k : But G w w') (hG : ∀ j, F j → ¬ G j) : InP w' F p fs := by
  obtain ⟨hf, sb, pb, g, n, c, A, cA, rfl, rfl, hs⟩ := h
  exact ⟨hf, sb, pb, g, n, c, A, cA, rfl, rfl, hs.but k hG⟩

theorem inP_below {w w' : World} {F : Nat → Prop} {p : Addr} {fs : List Fl} (h : InP w F p fs) (k : Below w.heap.size w w') : InP w' F p fs :=
  inP_keep (G := fun _ => False) h (But.of_below k) (fun _ _ q => q)

theorem inP_lt {w : World} {F : Nat → Prop} {p : Addr} {fs : List Fl} (h : InP w F p fs) : ∀ j, F j → j < w.heap.size := by
  obtain ⟨hf, sb, pb, g, n, c, A, cA, rfl, rfl, hs⟩ := h
  exact hs.lt

theorem inP_list {w : World} {F : Nat → Prop} {sb : Nat} {fs : List Fl} (h : InP w F ⟨sb, 0, none⟩ fs) : ∃ pb, w.cell? ⟨sb, 0, none⟩ = some (.pointer (some ⟨pb, 0, none⟩)) ∧ InL w 0 ⟨pb, 0, none⟩ fs := by
  obtain ⟨hf, sb', pb, g, n, c, A, cA, e, -, hs⟩ := h
  obtain rfl : sb = sb' := by injection e
  exact ⟨pb, hs.row.at' 0, hf, pb, g, n, c, rfl, hs.lst⟩

theorem inP_form {w : World} {F : Nat → Prop} {p : Addr} {fs : List Fl} (h : InP w F p fs) : ∃ sb, p = ⟨sb, 0, none⟩ := by
  obtain ⟨hf, sb, pb, g, n, c, A, cA, e, -⟩ := h
  exact ⟨sb, e⟩

theorem inP_row {w : World} {F : Nat → Prop} {sb : Nat} {fs : List Fl} (h : InP w F ⟨sb, 0, none⟩ fs) : ∃ pb A cA, RowAt w sb (spaceRow pb A fs.length cA fs) ∧ MineE encF 54 w 0 A fs.length cA fs := by
  obtain ⟨hf, sb', pb, g, n, c, A, cA, e, -, hs⟩ := h
  obtain rfl : sb = sb' := by injection e
  exact ⟨pb, A, cA, hs.row, hs.own⟩


def lowV (m : Int) (s : Bool) (y : Int) : Int := if !s || decide (m < y) then y else m

set_option maxRecDepth 100000 in
set_option maxHeartbeats 600000 in
theorem low_add (b o : Nat) (m y : Int) (s : Bool) (xs : List Value) (w : World) (h : RowAt w b xs) (h0 : xs[o]? = some (.int .i64 m)) (h1 : xs[o + 1]? = some (.bool s)) :
    Calls Tryz.prog 43 #[.pointer (some ⟨b, o, none⟩), .int .i64 y] w fun e w' => (∃ v, e = .returned v) ∧ RowAt w' b ((xs.set o (.int .i64 (lowV m s y))).set (o + 1) (.bool true)) ∧ But (fun k => k = b) w w' := by
  have hl0 : o < xs.length := (List.getElem?_eq_some_iff.1 h0).1
  have hl1 : o + 1 < xs.length := (List.getElem?_eq_some_iff.1 h1).1
  have c0 := (h.at' o).trans h0
  have c1 := (h.at' (o + 1)).trans h1
  have f0 := h.frz o
  have f1 := h.frz (o + 1)
  have HR := Lib.hid h
  have HS := Lib.hid (fun v => ((h.set o (.int .i64 v) hl0).set (o + 1) (.bool true) (by rw [List.length_set]; exact hl1)))
  have hsame : xs.set o (.int .i64 m) = xs := by
    apply List.ext_getElem?
    intro i
    rw [List.getElem?_set]
    split
    · next e => subst e; rw [h0]
    · rfl
  have hsame1 : s = true → (xs.set o (.int .i64 m)).set (o + 1) (.bool true) = xs := by
    intro e
    rw [hsame]
    apply List.ext_getElem?
    intro i
    rw [List.getElem?_set]
    split
    · next e2 => subst e2; rw [h1, e]
    · rfl
  have HSame := Lib.hid hsame1
  have hbut : ∀ v, But (fun k => k = b) w ((w.setCell ⟨b, o, none⟩ (.int .i64 v)).setCell ⟨b, o + 1, none⟩ (.bool true)) := fun v =>
    (But.set (S := fun k => k = b) b o (.int .i64 v) rfl).trans (But.set (S := fun k => k = b) b (o + 1) (.bool true) rfl) (fun _ _ q => q)
  have HB := Lib.hid hbut
  clear h h0 h1 hsame hsame1 hbut
  cases s
  · go_enter Tryz.func43, Tryz.ntmps43
    go_wp2_with fail
    go_end0
    exact ⟨⟨_, rfl⟩, HS.out y, HB.out y⟩
  · by_cases hy : m < y
    · go_enter Tryz.func43, Tryz.ntmps43
      go_wp2_with fail
      go_end0
      refine ⟨⟨_, rfl⟩, ?_, HB.out y⟩
      rw [show lowV m true y = y by unfold lowV; simp [hy]]
      exact HS.out y
    · go_enter Tryz.func43, Tryz.ntmps43
      go_wp2_with fail
      go_end0
      refine ⟨⟨_, rfl⟩, ?_, But.of_below (Below.refl _ _)⟩
      rw [show lowV m true y = m by unfold lowV; simp; omega, HSame.out trivial]
      exact HR.out

set_option maxRecDepth 100000 in
set_option maxHeartbeats 1000000 in
theorem pnew_any (w : World) : Calls Tryz.prog 15 #[] w fun r w' => (∃ p F, r = .returned (.pointer (some p)) ∧ InP w' F p [] ∧ ∀ k, F k → w.heap.size ≤ k) ∧ Below w.heap.size w w' := by
  have HN := Lib.hid (Shelf.new_any w)
  go_enter Tryz.func15, Tryz.ntmps15
  go_wp2_with (first
    | (go_at_call 29; refine HN.out.mono ?_; rintro e w1 ⟨⟨p, rfl, ⟨-, pb, g, n, c, rfl, hl⟩⟩, k1⟩; have HL := Lib.hid (⟨hl, k1⟩ : Lst w1 w.heap.size pb g n c (shelvesD []) ∧ Below w.heap.size w w1); clear hl k1))
  go_ret
  have hl := HL.out.1
  have h1 := hl.lt
  have h2 := hl.glt
  have h3 := hl.hb
  have hk := HL.out.2.size
  refine ⟨⟨_, _, rfl, ⟨Nat.zero_le _, w1.heap.size, pb, g, n, c, none, 0, rfl, rfl, ?_⟩, ?_⟩, thru HL.out.2 (ba1 w1 _)⟩
  · have hl2 : Lst (w1.alloc (.cells (spaceRow pb none 0 0 []).toArray 97)) 0 pb g n c (shelvesD []) := by
      have := hl.below (ba1 w1 (.cells (spaceRow pb none 0 0 []).toArray 97))
      exact ⟨Nat.zero_le _, this.cell, this.frz, this.ne, this.row.mono (Nat.zero_le _)⟩
    exact ⟨hl2, noneE_mine _ _ _ _, RowAt.new w1 (spaceRow pb none 0 0 []) 97, by omega, by omega, fun k e => by cases e⟩
  · rintro k (rfl | rfl | rfl | e)
    · exact hk
    · exact h3
    · exact h2.1
    · cases e

end Go.Proofs.YtdibdfalahjmbaaGreat.Space

namespace Go.Proofs.YtdibdfalahjmbaaGreat.Space

open Go.RowKit Go.Sort Go.Proofs.YtdibdfalahjmbaaGreat.Rect Go.Proofs.YtdibdfalahjmbaaGreat.More Go.Proofs.YtdibdfalahjmbaaGreat.Shelf

set_option linter.unusedVariables false

set_option linter.unusedSimpArgs false

set_option maxRecDepth 100000 in
set_option maxHeartbeats 600000 in
theorem plast_any (w : World) (F : Nat → Prop) (p : Addr) (fs : List Fl) (h : InP w F p fs) :
    Calls Tryz.prog 92 #[.pointer (some p)] w fun r w' => r = .returned (.tuple #[.int .i64 (lastD fs), .bool (decide (0 < fs.length))]) ∧ Below w.heap.size w w' := by
  obtain ⟨sb, rfl⟩ := inP_form h
  obtain ⟨pb, A, cA, hr, -⟩ := inP_row h
  have c2 : w.cell? ⟨sb, 2, none⟩ = some (.int .i64 (lastD fs)) := hr.at' 2
  have c3 : w.cell? ⟨sb, 3, none⟩ = some (.bool (decide (0 < fs.length))) := hr.at' 3
  generalize lastD fs = lv at c2 ⊢
  generalize decide (0 < fs.length) = v at c3 ⊢
  clear hr h
  go_enter Tryz.func92, Tryz.ntmps92
  go_upto_region 1 with fail
  go_quiet (fail)
  have q : Below w.heap.size w (w.drewN nq) := ⟨rfl, rfl, rfl, Nat.le_refl _, fun _ _ => rfl⟩
  clear c2 c3
  generalize w.drewN nq = w4 at q ⊢
  have HQ := Lib.hid q
  clear q
  go_wp2_with fail
  exact bodyPost_ret (v := .tuple #[.int .i64 lv, .bool v]) (by simp [results, Tryz.results92, go_sem]) rfl ⟨rfl, HQ.out⟩

set_option maxRecDepth 100000 in
set_option maxHeartbeats 600000 in
theorem bottom_at (w : World) (sb : Nat) (k : Nat) (m : Int) (s : Bool) (hk : k < 4) (h0 : w.cell? ⟨sb, 4 + k * 2, none⟩ = some (.int .i64 m)) (h1 : w.cell? ⟨sb, 4 + k * 2 + 1, none⟩ = some (.bool s)) :
    Calls Tryz.prog 100 #[.pointer (some ⟨sb, 0, none⟩), .int .i64 (k : Int)] w fun r w' => r = .returned (.tuple #[.int .i64 m, .bool s]) ∧ Below w.heap.size w w' := by
  have hk1 : ¬ (k : Int) < 0 := by omega
  have hk2 : ¬ (3 : Int) < (k : Int) := by omega
  have hk3 : (k : Int) < 4 := by omega
  clear hk
  go_enter Tryz.func100, Tryz.ntmps100
  go_upto_region 4 with fail
  generalize hW : World.alloc w _ = W
  obtain ⟨b, hb⟩ : ∃ b, w.heap.size = b := ⟨_, rfl⟩
  have hkW : Below w.heap.size w W := by rw [← hW]; exact ba1 _ _
  have e0 : W.cell? ⟨b, 0, none⟩ = some (.int .i64 m) := by rw [← hW, ← hb]; simp [go_sem]
  have e1 : W.cell? ⟨b, 1, none⟩ = some (.bool s) := by rw [← hW, ← hb]; simp [go_sem]
  have KW := Lib.hid hkW
  rw [hb]
  clear hW hkW hb h0 h1 hk1 hk2 hk3
  go_quiet (fail)
  have q : Below W.heap.size W (W.drewN nq) := ⟨rfl, rfl, rfl, Nat.le_refl _, fun _ _ => rfl⟩
  clear e0 e1
  generalize W.drewN nq = w4 at q ⊢
  have HQ := Lib.hid (thru KW.out q)
  clear q
  go_wp2_with fail
  exact bodyPost_ret (v := .tuple #[.int .i64 m, .bool s]) (by simp [results, Tryz.results100, go_sem]) rfl ⟨rfl, HQ.out⟩

theorem pbottom_any (w : World) (F : Nat → Prop) (p : Addr) (fs : List Fl) (c : Int) (h : InP w F p fs) (hc : 0 ≤ c ∧ c ≤ 3) :
    Calls Tryz.prog 100 #[.pointer (some p), .int .i64 c] w fun r w' => r = .returned (.tuple #[.int .i64 (botS fs c).1, .bool (botS fs c).2]) ∧ Below w.heap.size w w' := by
  obtain ⟨sb, rfl⟩ := inP_form h
  obtain ⟨pb, A, cA, hr, -⟩ := inP_row h
  obtain ⟨k, rfl⟩ : ∃ k : Nat, c = (k : Int) := ⟨c.toNat, by omega⟩
  have hk : k < 4 := by omega
  have key : w.cell? ⟨sb, 4 + k * 2, none⟩ = some (.int .i64 (botS fs (k : Int)).1) ∧ w.cell? ⟨sb, 4 + k * 2 + 1, none⟩ = some (.bool (botS fs (k : Int)).2) := by
    rw [hr.at', hr.at']
    rcases (show k = 0 ∨ k = 1 ∨ k = 2 ∨ k = 3 by omega) with rfl | rfl | rfl | rfl <;> exact ⟨rfl, rfl⟩
  exact bottom_at w sb k _ _ hk key.1 key.2

set_option maxRecDepth 100000 in
set_option maxHeartbeats 600000 in
theorem pclear_any (w : World) (F : Nat → Prop) (p : Addr) (fs : List Fl) (c y : Int) (h : InP w F p fs) (hc : 0 ≤ c ∧ c ≤ 3) :
    Calls Tryz.prog 93 #[.pointer (some p), .int .i64 c, .int .i64 y] w fun r w' => r = .returned (.int .i64 (clearS fs c y)) ∧ Below w.heap.size w w' := by
  have HB := Lib.hid (pbottom_any w F p fs c h hc)
  obtain ⟨v, hv⟩ : ∃ v, clearS fs c y = v := ⟨_, rfl⟩
  rw [hv]
  unfold clearS at hv
  clear h hc
  generalize (botS fs c).1 = m at hv HB
  generalize (botS fs c).2 = s at hv HB
  cases s
  · have hv2 : y = v := by simpa using hv
    subst hv2
    clear hv
    go_enter Tryz.func93, Tryz.ntmps93
    go_wp2_with (first
      | (go_at_call 100; refine HB.out.mono ?_; rintro e w1 ⟨rfl, k1⟩; have K1 := Lib.hid k1; clear k1))
    go_ret
    exact ⟨rfl, K1.out⟩
  · by_cases q : y < m
    · have hv2 : m = v := by simpa [q] using hv
      subst hv2
      clear hv
      go_enter Tryz.func93, Tryz.ntmps93
      go_wp2_with (first
        | (go_at_call 100; refine HB.out.mono ?_; rintro e w1 ⟨rfl, k1⟩; have K1 := Lib.hid k1; clear k1))
      go_ret
      exact ⟨rfl, K1.out⟩
    · have hv2 : y = v := by simpa [q] using hv
      subst hv2
      clear hv
      go_enter Tryz.func93, Tryz.ntmps93
      go_wp2_with (first
        | (go_at_call 100; refine HB.out.mono ?_; rintro e w1 ⟨rfl, k1⟩; have K1 := Lib.hid k1; clear k1))
      go_ret
      exact ⟨rfl, K1.out⟩

set_option maxRecDepth 100000 in
set_option maxHeartbeats 600000 in
theorem prows_any (y h : Int) (w : World) (hy : -2305843009213693952 ≤ y ∧ y ≤ 2305843009213693952) (hh : h ≤ 2305843009213693952) :
    Calls Tryz.prog 90 #[.int .i64 y, .int .i64 h] w fun r w' => r = .returned (.agg #[.int .i64 y, .int .i64 (y + highZ h)]) ∧ Below w.heap.size w w' := by
  obtain ⟨hy1, hy2⟩ := hy
  by_cases q : h < 1
  · rw [show highZ h = 1 by unfold highZ; rw [if_pos q]]
    go_enter Tryz.func90, Tryz.ntmps90
    go_wp2_with fail
    all_goals exact bodyPost_ret (v := .agg #[.int .i64 y, .int .i64 (y + 1)]) (by simp [results, Tryz.results90, go_sem]; try omega) rfl ⟨rfl, ba1 _ _⟩
  · rw [show highZ h = h by unfold highZ; rw [if_neg q]]
    have q2 : 1 ≤ h := by omega
    go_enter Tryz.func90, Tryz.ntmps90
    go_wp2_with fail
    all_goals exact bodyPost_ret (v := .agg #[.int .i64 y, .int .i64 (y + h)]) (by simp [results, Tryz.results90, go_sem]; try omega) rfl ⟨rfl, ba1 _ _⟩

set_option maxRecDepth 100000 in
set_option maxHeartbeats 600000 in
theorem pbounds_any (w : World) (F : Nat → Prop) (p : Addr) (fs : List Fl) (a z : Int) (h : InP w F p fs) (hs : fs.all nearF = true) (ha : -4503599627370496 ≤ a) (hz : z ≤ 4611686018427387904) :
    Calls Tryz.prog 94 #[.pointer (some p), .agg #[.int .i64 a, .int .i64 z]] w fun r w' => r = .returned (.agg #[.int .i64 (bandL fs a z), .int .i64 (bandR fs a z)]) ∧ Below w.heap.size w w' := by
  obtain ⟨sb, rfl⟩ := inP_form h
  obtain ⟨pb, hc, hl⟩ := inP_list h
  have HL := Lib.hid (fun w1 (k : Below w.heap.size w w1) => pband_any w1 0 ⟨pb, 0, none⟩ fs a z (inL_keep hl k) hs ha hz)
  have hsl : sb < w.heap.size := block_lt_of_cell hc
  generalize bandL fs a z = l at HL ⊢
  generalize bandR fs a z = r at HL ⊢
  clear h hl hs ha hz
  go_enter Tryz.func94, Tryz.ntmps94
  go_upto_region 1 with fail
  generalize hW : World.alloc (World.alloc w _) _ = W
  have hkW : Below w.heap.size w W := by rw [← hW]; exact ba2 _ _ _
  obtain ⟨b, hb⟩ : ∃ b, w.heap.size = b := ⟨_, rfl⟩
  have e0 : W.cell? ⟨b, 0, none⟩ = some (.int .i64 a) := by rw [← hW, ← hb]; simp [go_sem]
  have e1 : W.cell? ⟨b, 1, none⟩ = some (.int .i64 z) := by rw [← hW, ← hb]; simp [go_sem]
  have r0 : W.cell? ⟨b + 1, 0, none⟩ = some (.int .i64 0) := by rw [← hW, ← hb]; simp [go_sem]
  have r1 : W.cell? ⟨b + 1, 1, none⟩ = some (.int .i64 0) := by rw [← hW, ← hb]; simp [go_sem]
  have f0 : W.frozen? ⟨b + 1, 0, none⟩ = false := by rw [← hW, ← hb]; simp [go_sem]
  have f1 : W.frozen? ⟨b + 1, 1, none⟩ = false := by rw [← hW, ← hb]; simp [go_sem]
  have c0 := (hkW.cell (p := ⟨sb, 0, none⟩) hsl).trans hc
  have HE := Lib.hid (⟨e0, e1, c0, r0, r1, f0, f1⟩ : W.cell? ⟨b, 0, none⟩ = some (.int .i64 a) ∧ W.cell? ⟨b, 1, none⟩ = some (.int .i64 z) ∧ W.cell? ⟨sb, 0, none⟩ = some (.pointer (some ⟨pb, 0, none⟩)) ∧ W.cell? ⟨b + 1, 0, none⟩ = some (.int .i64 0) ∧ W.cell? ⟨b + 1, 1, none⟩ = some (.int .i64 0) ∧ W.frozen? ⟨b + 1, 0, none⟩ = false ∧ W.frozen? ⟨b + 1, 1, none⟩ = false)
  have KW := Lib.hid hkW
  have HB := Lib.hid hb
  rw [hb]
  clear hW hkW hb e0 e1 c0 r0 r1 f0 f1 hc hsl
  refine Hold.wp_region_hold [.val (.pointer (some ⟨sb, 0, none⟩)), .val (.pointer (some ⟨sb, 0, none⟩)), .val (.pointer (some ⟨sb, 0, none⟩)), .val (.pointer (some ⟨pb, 0, none⟩)), .val (.agg #[.int .i64 a, .int .i64 z])] (by kernel_rfl) (by kernel_rfl) (by kernel_rfl) ?_ ?_
  · simp only [Hold.fill, Hold.Leave.value]
    refine ⟨?_, ?_, ?_, ?_, ?_, trivial⟩
    · intro gg w' hw hk
      go_simp
      exact ⟨rfl, rfl⟩
    · intro gg w' hw hk
      go_simp
      exact ⟨rfl, rfl⟩
    · intro gg w' hw hk
      go_simp
      exact ⟨rfl, rfl⟩
    · intro gg w' hw hk
      have q0 := (hw.cell (p := ⟨sb, 0, none⟩) (block_lt_of_cell HE.out.2.2.1)).trans HE.out.2.2.1
      go_simp
      exact ⟨rfl, rfl⟩
    · intro gg w' hw hk
      have q0 := (hw.cell (p := ⟨b, 0, none⟩) (block_lt_of_cell HE.out.1)).trans HE.out.1
      have q1 := (hw.cell (p := ⟨b, 1, none⟩) (block_lt_of_cell HE.out.2.1)).trans HE.out.2.1
      go_simp
      exact ⟨rfl, rfl⟩
  intro gg w2 k2 hgg
  clear hgg
  simp only [Hold.fill, Hold.Leave.value, List.length_cons, List.length_nil, List.drop_succ_cons, List.drop_zero]
  have K2 := Lib.hid k2
  clear k2
  go_wp2_with (first
    | (go_at_call 101; refine (HL.out _ (thru KW.out K2.out)).mono ?_; rintro e w3 ⟨rfl, k3⟩; have K3 := Lib.hid (thru K2.out k3); have r0 := (K3.out.cell (p := ⟨b + 1, 0, none⟩) (block_lt_of_cell HE.out.2.2.2.1)).trans HE.out.2.2.2.1; have r1 := (K3.out.cell (p := ⟨b + 1, 1, none⟩) (block_lt_of_cell HE.out.2.2.2.2.1)).trans HE.out.2.2.2.2.1; have f0 := (K3.out.frozen (p := ⟨b + 1, 0, none⟩) (block_lt_of_cell HE.out.2.2.2.1)).trans HE.out.2.2.2.2.2.1; have f1 := (K3.out.frozen (p := ⟨b + 1, 1, none⟩) (block_lt_of_cell HE.out.2.2.2.2.1)).trans HE.out.2.2.2.2.2.2; clear k3))
  have hkk := ((thru KW.out K3.out).setCell (p := ⟨b + 1, 0, none⟩) (by have := HB.out; show w.heap.size ≤ b + 1; omega) (.int .i64 l)).setCell (p := ⟨b + 1, 1, none⟩) (by have := HB.out; show w.heap.size ≤ b + 1; omega) (.int .i64 r)
  exact bodyPost_ret (v := .agg #[.int .i64 l, .int .i64 r]) (by simp [results, Tryz.results94, go_sem, r0, r1]) rfl ⟨rfl, hkk⟩

set_option maxRecDepth 100000 in
set_option maxHeartbeats 600000 in
theorem pfree_any (w : World) (F : Nat → Prop) (p : Addr) (fs : List Fl) (x y a z : Int) (h : InP w F p fs) (hs : fs.all nearF = true) (ha : -4503599627370496 ≤ a) (hz : z ≤ 4611686018427387904) :
    Calls Tryz.prog 89 #[.pointer (some p), .agg #[.int .i64 x, .int .i64 y], .agg #[.int .i64 a, .int .i64 z]] w fun r w' => r = .returned (.agg #[.int .i64 (max x (bandL fs a z)), .int .i64 (min y (bandR fs a z))]) ∧ Below w.heap.size w w' := by
  have HL := Lib.hid (fun w1 (k : Below w.heap.size w w1) => pbounds_any w1 F p fs a z (inP_below h k) hs ha hz)
  generalize bandL fs a z = l at HL ⊢
  generalize bandR fs a z = r at HL ⊢
  have HC := Lib.hid (fun w1 => clip_any x y l r w1)
  obtain ⟨u, hu⟩ : ∃ u, max x l = u := ⟨_, rfl⟩
  obtain ⟨v, hv⟩ : ∃ v, min y r = v := ⟨_, rfl⟩
  rw [hu, hv] at HC ⊢
  clear h hs ha hz hu hv
  go_enter Tryz.func89, Tryz.ntmps89
  go_upto_region 1 with fail
  generalize hW : World.alloc (World.alloc (World.alloc w _) _) _ = W
  have hkW : Below w.heap.size w W := by rw [← hW]; exact ba3 _ _ _ _
  obtain ⟨b, hb⟩ : ∃ b, w.heap.size = b := ⟨_, rfl⟩
  have e0 : W.cell? ⟨b, 0, none⟩ = some (.int .i64 x) := by rw [← hW, ← hb]; simp [go_sem]
  have e1 : W.cell? ⟨b, 1, none⟩ = some (.int .i64 y) := by rw [← hW, ← hb]; simp [go_sem]
  have d0 : W.cell? ⟨b + 1, 0, none⟩ = some (.int .i64 a) := by rw [← hW, ← hb]; simp [go_sem]
  have d1 : W.cell? ⟨b + 1, 1, none⟩ = some (.int .i64 z) := by rw [← hW, ← hb]; simp [go_sem]
  have r0 : W.cell? ⟨b + 1 + 1, 0, none⟩ = some (.int .i64 0) := by rw [← hW, ← hb]; simp [go_sem]
  have r1 : W.cell? ⟨b + 1 + 1, 1, none⟩ = some (.int .i64 0) := by rw [← hW, ← hb]; simp [go_sem]
  have f0 : W.frozen? ⟨b + 1 + 1, 0, none⟩ = false := by rw [← hW, ← hb]; simp [go_sem]
  have f1 : W.frozen? ⟨b + 1 + 1, 1, none⟩ = false := by rw [← hW, ← hb]; simp [go_sem]
  have HE := Lib.hid (⟨e0, e1, d0, d1⟩ : W.cell? ⟨b, 0, none⟩ = some (.int .i64 x) ∧ W.cell? ⟨b, 1, none⟩ = some (.int .i64 y) ∧ W.cell? ⟨b + 1, 0, none⟩ = some (.int .i64 a) ∧ W.cell? ⟨b + 1, 1, none⟩ = some (.int .i64 z))
  have HR := Lib.hid (⟨r0, r1, f0, f1⟩ : W.cell? ⟨b + 1 + 1, 0, none⟩ = some (.int .i64 0) ∧ W.cell? ⟨b + 1 + 1, 1, none⟩ = some (.int .i64 0) ∧ W.frozen? ⟨b + 1 + 1, 0, none⟩ = false ∧ W.frozen? ⟨b + 1 + 1, 1, none⟩ = false)
  have KW := Lib.hid hkW
  have HB := Lib.hid hb
  rw [hb]
  clear hW hkW hb e0 e1 d0 d1 r0 r1 f0 f1
  refine Hold.wp_region_hold [.val (.agg #[.int .i64 x, .int .i64 y]), .val (.pointer (some p)), .val (.agg #[.int .i64 a, .int .i64 z]), .val (.agg #[.int .i64 l, .int .i64 r])] (by kernel_rfl) (by kernel_rfl) (by kernel_rfl) ?_ ?_
  · simp only [Hold.fill, Hold.Leave.value]
    refine ⟨?_, ?_, ?_, ?_, trivial⟩
    · intro gg w' hw hk
      have q0 := (hw.cell (p := ⟨b, 0, none⟩) (block_lt_of_cell HE.out.1)).trans HE.out.1
      have q1 := (hw.cell (p := ⟨b, 1, none⟩) (block_lt_of_cell HE.out.2.1)).trans HE.out.2.1
      go_simp
      exact ⟨rfl, rfl⟩
    · intro gg w' hw hk
      go_simp
      exact ⟨rfl, rfl⟩
    · intro gg w' hw hk
      have q0 := (hw.cell (p := ⟨b + 1, 0, none⟩) (block_lt_of_cell HE.out.2.2.1)).trans HE.out.2.2.1
      have q1 := (hw.cell (p := ⟨b + 1, 1, none⟩) (block_lt_of_cell HE.out.2.2.2)).trans HE.out.2.2.2
      go_simp
      exact ⟨rfl, rfl⟩
    · intro gg w' hw hk
      go_simp
      exact Hold.stays_call (HL.out w' (thru KW.out hw))
  intro gg w2 k2 hgg
  clear hgg
  simp only [Hold.fill, Hold.Leave.value, List.length_cons, List.length_nil, List.drop_succ_cons, List.drop_zero]
  have K2 := Lib.hid k2
  clear k2
  go_wp2_with (first
    | (go_at_call 91; refine (HC.out _).mono ?_; rintro e w3 ⟨rfl, k3⟩; have K3 := Lib.hid (thru K2.out k3); have r0 := (K3.out.cell (p := ⟨b + 1 + 1, 0, none⟩) (block_lt_of_cell HR.out.1)).trans HR.out.1; have r1 := (K3.out.cell (p := ⟨b + 1 + 1, 1, none⟩) (block_lt_of_cell HR.out.2.1)).trans HR.out.2.1; have f0 := (K3.out.frozen (p := ⟨b + 1 + 1, 0, none⟩) (block_lt_of_cell HR.out.1)).trans HR.out.2.2.1; have f1 := (K3.out.frozen (p := ⟨b + 1 + 1, 1, none⟩) (block_lt_of_cell HR.out.2.1)).trans HR.out.2.2.2; clear k3))
  have hkk := ((thru KW.out K3.out).setCell (p := ⟨b + 1 + 1, 0, none⟩) (by have := HB.out; show w.heap.size ≤ b + 1 + 1; omega) (.int .i64 u)).setCell (p := ⟨b + 1 + 1, 1, none⟩) (by have := HB.out; show w.heap.size ≤ b + 1 + 1; omega) (.int .i64 v)
  exact bodyPost_ret (v := .agg #[.int .i64 u, .int .i64 v]) (by simp [results, Tryz.results89, go_sem, r0, r1]) rfl ⟨rfl, hkk⟩

theorem infoPF : InfoE encF 54 51 40 :=
  ⟨Tryz.underlying51, .agg #[.int .i64 0, .int .i64 0, .int .i64 0, .int .i64 0, .int .i64 0], rfl, by kernel_rfl⟩

set_option maxHeartbeats 1000000 in
theorem fclone_some (g n c B : Nat) (xs : List Fl) (w : World) (h : MineE encF 54 w B (some ⟨g, 0, none⟩) n c xs) (hn : n ≤ 1000000) :
    Calls Tryz.prog 26 #[.slice (some ⟨g, 0, none⟩) n c] w fun r w' => (∃ A c', r = .returned (.slice A n c') ∧ MineE encF 54 w' w.heap.size A n c' xs) ∧ Below w.heap.size w w' := by
  have HM := Lib.hid h
  have hnil : ∀ w, (binOp .eql 51 (.slice (some ⟨g, 0, none⟩) n c) (.slice none 0 0)).run Tryz.prog w = .ok (.bool false) w := fun w => Lib.run_eql_slice_nil w _ 54 (some ⟨g, 0, none⟩) n c 0 0 Tryz.underlying51
  clear h
  go_enter Tryz.func26, Tryz.ntmps26
  go_upto_region 3 with fail
  go_wp2_with (first
    | (at_builtin; refine wpList_append_E (bytes := 40) (by omega) infoPF _ rfl _ _ rfl w.heap.size (some ⟨w.heap.size, 0, none⟩) 0 0 [] rfl (emptyE_mine encF 54 w w.heap.size (Nat.le_refl _)) (some ⟨g, 0, none⟩) n c xs rfl (MineE.src (MineE.alloc HM.out _)) (by omega) (by simp) ?_; intro A' c' w1 hA; have HA := Lib.hid hA; clear hA))
  go_ret
  refine ⟨⟨A', c', rfl, by have := HA.out.1; rwa [Nat.zero_add, List.nil_append] at this⟩, AppendedE.below HA.out (emptyE_mine encF 54 w w.heap.size (Nat.le_refl _)) (ba1 w _) (Nat.le_refl _) (by simp)⟩

set_option maxHeartbeats 1000000 in
theorem fclone_none (w : World) :
    Calls Tryz.prog 26 #[.slice none 0 0] w fun r w' => (∃ A c', r = .returned (.slice A 0 c') ∧ MineE encF 54 w' w.heap.size A 0 c' []) ∧ Below w.heap.size w w' := by
  have hnil : ∀ w, (binOp .eql 51 (.slice none 0 0) (.slice none 0 0)).run Tryz.prog w = .ok (.bool true) w := fun w => Lib.run_eql_slice_nil w _ 54 none 0 0 0 0 Tryz.underlying51
  go_enter Tryz.func26, Tryz.ntmps26
  go_wp2_with fail
  go_ret
  exact ⟨⟨none, 0, rfl, noneE_mine _ _ _ _⟩, Below.refl _ _⟩

set_option maxRecDepth 100000 in
set_option maxHeartbeats 600000 in
theorem pfloats_any (w : World) (F : Nat → Prop) (p : Addr) (fs : List Fl) (h : InP w F p fs) :
    Calls Tryz.prog 11 #[.pointer (some p)] w fun r w' => (∃ A c, r = .returned (.slice A fs.length c) ∧ MineE encF 54 w' w.heap.size A fs.length c fs) ∧ Below w.heap.size w w' := by
  have hf := h.1
  obtain ⟨sb, rfl⟩ := inP_form h
  obtain ⟨pb, A, cA, hr, hm⟩ := inP_row h
  have c1 : w.cell? ⟨sb, 1, none⟩ = some (.slice A fs.length cA) := hr.at' 1
  have hc : Calls Tryz.prog 26 #[.slice A fs.length cA] w fun r w' => (∃ A c', r = .returned (.slice A fs.length c') ∧ MineE encF 54 w' w.heap.size A fs.length c' fs) ∧ Below w.heap.size w w' := by
    rcases hm.2 with ⟨e, e0⟩ | ⟨g, cap, cur, e, -⟩
    · injection e with e1 e2 e3
      have efs : fs = [] := List.eq_nil_of_length_eq_zero e2
      subst e1 e3 efs
      exact fclone_none w
    · injection e with e1 e2 e3
      subst e1
      exact fclone_some g _ cA 0 fs w hm (by omega)
  have HC := Lib.hid hc
  clear h hr hm hc hf
  generalize fs.length = n at c1 HC ⊢
  go_enter Tryz.func11, Tryz.ntmps11
  go_wp2_with (first
    | (go_at_call 26; refine HC.out.mono ?_; rintro e w1 ⟨⟨A1, c1', rfl, hm⟩, k1⟩; have HM := Lib.hid hm; have K1 := Lib.hid k1; clear hm k1))
  go_ret
  exact ⟨⟨A1, c1', rfl, HM.out⟩, K1.out⟩

end Go.Proofs.YtdibdfalahjmbaaGreat.Space

namespace Go.Proofs.YtdibdfalahjmbaaGreat.Space

open Go.RowKit Go.Sort Go.Proofs.YtdibdfalahjmbaaGreat.Rect Go.Proofs.YtdibdfalahjmbaaGreat.More Go.Proofs.YtdibdfalahjmbaaGreat.Shelf

set_option linter.unusedVariables false

set_option linter.unusedSimpArgs false

theorem botS_some (fs : List Fl) (f : Fl) (c : Int) (h : clrB c f.s = true) : botS (fs ++ [f]) c = (lowV (botS fs c).1 (botS fs c).2 f.b, true) := by
  rw [botS_snoc]
  unfold botStep lowV
  rw [h, Bool.true_and]
  cases e : (botS fs c).2
  · simp
  · by_cases q : (botS fs c).1 < f.b
    · simp [q]
    · simp only [Bool.not_true, Bool.false_or, decide_eq_true_eq, q, if_false]
      rw [← e]

theorem botS_not (fs : List Fl) (f : Fl) (c : Int) (h : clrB c f.s = false) : botS (fs ++ [f]) c = botS fs c := by
  rw [botS_snoc]
  unfold botStep
  rw [h, Bool.false_and]
  rfl

theorem lastD_low (fs : List Fl) (f : Fl) : lastD (fs ++ [f]) = lowV (lastD fs) (decide (0 < fs.length)) f.t := by
  rw [lastD_snoc]
  unfold lowV
  cases fs with
  | nil => rfl
  | cons g gs =>
    simp only [List.length_cons]
    by_cases q : lastD (g :: gs) < f.t
    · simp [q]; omega
    · simp [q]; omega

theorem put_left (pb : Nat) (A : Option Addr) (m c : Nat) (fs : List Fl) (f : Fl) (h : f.s = 1) :
    ((((((spaceRow pb A m c fs).set 2 (.int .i64 (lowV (lastD fs) (decide (0 < fs.length)) f.t))).set 3 (.bool true)).set 6 (.int .i64 (lowV (botS fs 1).1 (botS fs 1).2 f.b))).set 7 (.bool true)).set 10 (.int .i64 (lowV (botS fs 3).1 (botS fs 3).2 f.b))).set 11 (.bool true) = spaceRow pb A m c (fs ++ [f]) := by
  have e1 := botS_some fs f 1 (by unfold clrB; rw [h]; rfl)
  have e2 := botS_not fs f 2 (by unfold clrB; rw [h]; rfl)
  have e3 := botS_some fs f 3 (by unfold clrB; rfl)
  simp [spaceRow, botS_none, e1, e2, e3, lastD_low]

theorem put_right (pb : Nat) (A : Option Addr) (m c : Nat) (fs : List Fl) (f : Fl) (h : f.s = 2) :
    ((((((spaceRow pb A m c fs).set 2 (.int .i64 (lowV (lastD fs) (decide (0 < fs.length)) f.t))).set 3 (.bool true)).set 8 (.int .i64 (lowV (botS fs 2).1 (botS fs 2).2 f.b))).set 9 (.bool true)).set 10 (.int .i64 (lowV (botS fs 3).1 (botS fs 3).2 f.b))).set 11 (.bool true) = spaceRow pb A m c (fs ++ [f]) := by
  have e1 := botS_not fs f 1 (by unfold clrB; rw [h]; rfl)
  have e2 := botS_some fs f 2 (by unfold clrB; rw [h]; rfl)
  have e3 := botS_some fs f 3 (by unfold clrB; rfl)
  simp [spaceRow, botS_none, e1, e2, e3, lastD_low]

theorem but_grown {w w' : World} {row : Option Nat} (h : w.grownBy w' row) : But (fun k => row = some k) w w' :=
  ⟨h.os, h.tape, h.output, h.size, fun k hk hs => h.block k hk (fun e => hs (by first | exact e | exact e.symm))⟩

structure Rest (w0 w : World) (sb rb pb g n c : Nat) (A : Option Addr) (cA : Nat) (fs : List Fl) (G : Nat → Prop) (t b : Int) : Prop where
  lst : Lst w 0 pb g n c (shelvesD fs)
  own : MineE encF 54 w 0 A fs.length cA fs
  n1 : sb ≠ pb
  n2 : sb ≠ g
  n3 : ∀ k, blk A = some k → k ≠ sb ∧ k ≠ pb ∧ k ≠ g
  but : But G w0 w
  c1 : w.cell? ⟨rb, 1, none⟩ = some (.int .i64 t)
  c3 : w.cell? ⟨rb, 3, none⟩ = some (.int .i64 b)
  hr : rb ≠ sb

theorem Rest.low {w0 w w' : World} {sb rb pb g n c : Nat} {A : Option Addr} {cA : Nat} {fs : List Fl} {G : Nat → Prop} {t b : Int} (h : Rest w0 w sb rb pb g n c A cA fs G t b) (k : But (fun j => j = sb) w w') (hG : G sb) : Rest w0 w' sb rb pb g n c A cA fs G t b :=
  ⟨lst_but h.lst k (fun e => h.n1 e.symm) (fun e => h.n2 e.symm), mineE_but h.own k (fun j e q => (h.n3 j e).1 q), h.n1, h.n2, h.n3, h.but.trans k (fun j _ e => by rw [e]; exact hG),
    (k.cell (block_lt_of_cell h.c1) h.hr).trans h.c1, (k.cell (block_lt_of_cell h.c3) h.hr).trans h.c3, h.hr⟩

theorem Rest.below {w0 w w' : World} {sb rb pb g n c : Nat} {A : Option Addr} {cA : Nat} {fs : List Fl} {G : Nat → Prop} {t b : Int} (h : Rest w0 w sb rb pb g n c A cA fs G t b) (k : Below w.heap.size w w') : Rest w0 w' sb rb pb g n c A cA fs G t b :=
  ⟨h.lst.below k, h.own.below k, h.n1, h.n2, h.n3, h.but.trans (But.of_below (S := fun _ => False) k) (fun _ _ e => e.elim), (k.cell (p := ⟨rb, 1, none⟩) (block_lt_of_cell h.c1)).trans h.c1, (k.cell (p := ⟨rb, 3, none⟩) (block_lt_of_cell h.c3)).trans h.c3, h.hr⟩

end Go.Proofs.YtdibdfalahjmbaaGreat.Space
