/- The contract of add: one box more, or what is wrong with it. -/
import Derived.Test.YtfomhdhiibcdfaaGreatPart34
import Derived.Test.YtfomhdhiibcdfaaGreatPart27
namespace Go.Proofs.YtfomhdhiibcdfaaGreat.Tree
open Go.RowKit Go.Sort Go.Proofs.YtfomhdhiibcdfaaGreat.Record Go.Proofs.YtfomhdhiibcdfaaGreat.Script Go.Proofs.YtfomhdhiibcdfaaGreat.More

set_option maxRecDepth 100000 in
set_option maxHeartbeats 1000000 in
theorem add_check (w : World) (B g : Nat) (A : Option Addr) (c : Nat) (ns : List Nd) (hT : InT w B g A c ns) (hlen : ns.length ≤ 1000) (b : Bx) (v : Int) (hv : pickN (brokenOf b) = v) (hv0 : v ≠ 0) :
    Calls Tryz.prog 37 #[.pointer (some ⟨g, 0, none⟩), b.v] w fun e w' => e = .returned (.int .i64 v) ∧ Below w.heap.size w w' := by
  have HV := Lib.hid hv
  have hv1 : (v == 0) = false := by rw [beq_eq_false_iff_ne]; exact hv0
  clear hv hv0
  go_enter Tryz.func37, Tryz.ntmps37
  go_upto_region 1 with fail
  generalize hW : World.alloc _ _ = W
  obtain ⟨at1, k1⟩ := Record.box_in b hW
  have hc := (hT.below k1).box.cell
  clear hW hT
  generalize ns.length = n at *
  have hn : ((n : Int) == 65536) = false := by rw [beq_eq_false_iff_ne]; omega
  obtain ⟨c0, c1, c2, c3, c4, c5, c6, c7, c8, c9, c10, c11, c12, c13⟩ := at1
  go_wp2_with (first | (go_at_call 56; refine (check_is b v HV.out _).mono ?_; rintro e w2 ⟨rfl, k2⟩))
  go_ret
  exact ⟨rfl, thru k1 k2⟩

set_option maxRecDepth 100000 in
set_option maxHeartbeats 1000000 in
theorem add_nest (w : World) (B g : Nat) (A : Option Addr) (c : Nat) (ns : List Nd) (hT : InT w B g A c ns) (hlen : ns.length ≤ 1000) (b : Bx) (hv : pickN (brokenOf b) = 0) (q : Int)
    (hP : ∀ w', InT w' B g A c ns → Calls Tryz.prog 57 #[.pointer (some ⟨g, 0, none⟩), b.v] w' fun e w'' => e = .returned (.tuple #[.int .i64 q, .bool false]) ∧ Below w'.heap.size w' w'') :
    Calls Tryz.prog 37 #[.pointer (some ⟨g, 0, none⟩), b.v] w fun e w' => e = .returned (.int .i64 12) ∧ Below w.heap.size w w' := by
  have HV := Lib.hid hv
  have HP := Lib.hid hP
  clear hv hP
  go_enter Tryz.func37, Tryz.ntmps37
  go_upto_region 1 with fail
  generalize hW : World.alloc _ _ = W
  obtain ⟨at1, k1⟩ := Record.box_in b hW
  have hT1 := hT.below k1
  have HT := Lib.hid hT1
  have HA := Lib.hid at1
  have hc := hT1.box.cell
  clear hW hT hT1
  generalize hnl : ns.length = n at *
  have hn : ((n : Int) == 65536) = false := by rw [beq_eq_false_iff_ne]; omega
  obtain ⟨c0, c1, c2, c3, c4, c5, c6, c7, c8, c9, c10, c11, c12, c13⟩ := at1
  go_upto_region 6 with (first | (go_at_call 56; refine (check_is b 0 HV.out _).mono ?_; rintro e w2 ⟨rfl, k2⟩))
  have at2 := HA.out.below HA.out.lt k2
  have hT2 := HT.out.below k2
  have K2 := Lib.hid (thru k1 k2)
  clear c0 c1 c2 c3 c4 c5 c6 c7 c8 c9 c10 c11 c12 c13 hc k2 k1
  obtain ⟨c0, c1, c2, c3, c4, c5, c6, c7, c8, c9, c10, c11, c12, c13⟩ := at2
  have HT2 := Lib.hid hT2
  clear hT2
  go_wp2_with (first | (go_at_call 57; refine (HP.out _ HT2.out).mono ?_; rintro e w3 ⟨rfl, k3⟩))
  go_ret
  exact ⟨rfl, thru K2.out k3⟩

set_option maxRecDepth 100000 in
set_option maxHeartbeats 1000000 in
theorem add_yes (w : World) (B g : Nat) (A : Option Addr) (c : Nat) (ns : List Nd) (hT : InT w B g A c ns) (hlen : ns.length ≤ 1000) (hB : B ≤ g) (hBw : B ≤ w.heap.size) (b : Bx) (hv : pickN (brokenOf b) = 0) (q x : Int)
    (hP : ∀ w', InT w' B g A c ns → Calls Tryz.prog 57 #[.pointer (some ⟨g, 0, none⟩), b.v] w' fun e w'' => e = .returned (.tuple #[.int .i64 q, .bool true]) ∧ Below w'.heap.size w' w'')
    (hC : ∀ w', InT w' B g A c ns → Calls Tryz.prog 58 #[.pointer (some ⟨g, 0, none⟩), .int .i64 q] w' fun e w'' => e = .returned (.int .i64 x) ∧ Below w'.heap.size w' w'') :
    Calls Tryz.prog 37 #[.pointer (some ⟨g, 0, none⟩), b.v] w fun e w' => e = .returned (.int .i64 0) ∧ (∃ A' c', InT w' B g A' c' (ns ++ [⟨b, q, 0, x⟩])) ∧ Below B w w' := by
  have HV := Lib.hid hv
  have HP := Lib.hid hP
  have HC := Lib.hid hC
  clear hv hP hC
  go_enter Tryz.func37, Tryz.ntmps37
  go_upto_region 1 with fail
  generalize hW : World.alloc _ _ = W
  obtain ⟨at1, k1⟩ := Record.box_in b hW
  have hT1 := hT.below k1
  have HT := Lib.hid hT1
  have HA := Lib.hid at1
  have hc := hT1.box.cell
  clear hW hT hT1
  obtain ⟨n, hnl⟩ : ∃ n, ns.length = n := ⟨_, rfl⟩
  rw [hnl] at hc hlen
  have HN := Lib.hid hnl
  clear hnl
  have hn : ((n : Int) == 65536) = false := by rw [beq_eq_false_iff_ne]; omega
  obtain ⟨c0, c1, c2, c3, c4, c5, c6, c7, c8, c9, c10, c11, c12, c13⟩ := at1
  go_upto_region 6 with (first | (go_at_call 56; refine (check_is b 0 HV.out _).mono ?_; rintro e w2 ⟨rfl, k2⟩))
  have at2 := HA.out.below HA.out.lt k2
  have hT2 := HT.out.below k2
  have HA2 := Lib.hid at2
  have K2 := Lib.hid (thru k1 k2)
  have HL2 := Lib.hid (Nat.lt_of_lt_of_le HA.out.lt k2.size)
  clear c0 c1 c2 c3 c4 c5 c6 c7 c8 c9 c10 c11 c12 c13 hc k2 k1 HT HA HV
  obtain ⟨c0, c1, c2, c3, c4, c5, c6, c7, c8, c9, c10, c11, c12, c13⟩ := at2
  have HT2 := Lib.hid hT2
  clear hT2
  go_upto_region 9 with (first | (go_at_call 57; refine (HP.out _ HT2.out).mono ?_; rintro e w3 ⟨rfl, k3⟩))
  have HA3 := Lib.hid (HA2.out.below HL2.out k3)
  have HT3 := Lib.hid (HT2.out.below k3)
  have K3 := Lib.hid (thru K2.out k3)
  clear c0 c1 c2 c3 c4 c5 c6 c7 c8 c9 c10 c11 c12 c13 k3 K2 HT2 HA2 HL2 HP
  refine wp_region_told_first [.val (.pointer (some ⟨g, 0, none⟩)), .val (.pointer (some ⟨g, 0, none⟩)), .val (.pointer (some ⟨g, 0, none⟩)), .val (.pointer (some ⟨g, 0, none⟩)), .val (.slice A n c), .val b.v, .val (.int .i64 q), .val (.pointer (some ⟨g, 0, none⟩)), .val (.int .i64 q), .val (.int .i64 x), .val (Nd.v ⟨b, q, 0, x⟩), .row (.cells (cellsOfN ⟨b, q, 0, x⟩).toArray 114) 1 1] (by kernel_rfl) (by kernel_rfl) (by kernel_rfl) (v0 := .pointer (some ⟨g, 0, none⟩)) rfl rfl (by kernel_rfl) (by kernel_rfl) (.inl ⟨rfl, fun w => by go_simp⟩) (fun _ _ _ h => h) ?_ ?_
  · simp only [Told.fill, Told.Leave.value]
    refine ⟨?_, ?_, ?_, ?_, ?_, ?_, ?_, ?_, ?_, ?_, ?_, ?_, trivial⟩
    · intro g w' hw hk
      go_simp
      exact ⟨rfl, rfl⟩
    · intro g w' hw hk
      go_simp
      exact ⟨rfl, rfl⟩
    · intro g w' hw hk
      go_simp
      exact ⟨rfl, rfl⟩
    · intro g w' hw hk
      go_simp
      exact ⟨rfl, rfl⟩
    · intro g w' hw hk
      have hc := (HT3.out.below hw).box.cell
      rw [HN.out] at hc
      go_simp
      exact ⟨rfl, rfl⟩
    · intro g w' hw hk
      have hh := HA3.out.below HA3.out.lt hw
      have c0 := hh.1
      have c1 := hh.2.1
      have c2 := hh.2.2.1
      have c3 := hh.2.2.2.1
      have c4 := hh.2.2.2.2.1
      have c5 := hh.2.2.2.2.2.1
      have c6 := hh.2.2.2.2.2.2.1
      have c7 := hh.2.2.2.2.2.2.2.1
      have c8 := hh.2.2.2.2.2.2.2.2.1
      have c9 := hh.2.2.2.2.2.2.2.2.2.1
      have c10 := hh.2.2.2.2.2.2.2.2.2.2.1
      have c11 := hh.2.2.2.2.2.2.2.2.2.2.2.1
      have c12 := hh.2.2.2.2.2.2.2.2.2.2.2.2.1
      have c13 := hh.2.2.2.2.2.2.2.2.2.2.2.2.2
      clear hh
      go_simp
      exact ⟨rfl, rfl⟩
    · intro g w' hw hk
      go_simp
      exact ⟨rfl, rfl⟩
    · intro g w' hw hk
      go_simp
      exact ⟨rfl, rfl⟩
    · intro g w' hw hk
      go_simp
      exact ⟨rfl, rfl⟩
    · intro g w' hw hk
      go_simp
      exact Told.stays_call (HC.out _ (HT3.out.below hw))
    · intro g w' hw hk
      go_simp
      exact ⟨rfl, rfl⟩
    · intro g w' hw hk
      go_simp
      rfl
  · intro gg w4 k4 hbox hap
    obtain ⟨g4, h4⟩ := hbox 11 _ _ rfl rfl
    clear hbox hap
    simp only [Told.fill, Told.Leave.value, List.length_cons, List.length_nil, List.drop_succ_cons, List.drop_zero]
    generalize gg 11 = r at g4 h4 ⊢
    have hT4 := HT3.out.below k4
    have hmine := hT4.mine
    rw [HN.out] at hmine
    have HM4 := Lib.hid hmine
    have HB4 := Lib.hid hT4.box
    have HS4 := Lib.hid (srcE_of encN w4 ⟨b, q, 0, x⟩ _ r h4)
    have K4 := Lib.hid (thru K3.out k4)
    have hB4 : B ≤ w4.heap.size := Nat.le_trans hBw K4.out.size
    clear hT4 hmine h4 g4 k4
    go_simp
    go_wp2_with (first
      | (at_builtin; refine wpList_append_E (by omega) infoN _ rfl (.tmp 31) (.tmp 38) rfl B A n c ns rfl HM4.out (some ⟨r, 0, none⟩) 1 1 [⟨b, q, 0, x⟩] rfl HS4.out (by omega) hB4 ?_; intro A1 c1' W1 h1; have hbx : Boxed W1 g 99 (.slice A n c) := (by have hq := HB4.out; rw [HN.out] at hq; exact hq.kept h1.2.1 (by rw [← ownBlock_blk]; exact hq.not_row (by decide) HM4.out)); have hcc := hbx.cell; have hfz := hbx.frozen))
    go_ret
    have hbm : Below B w w4 := K4.out.mono hBw
    have hb1 := h1.below HM4.out hbm (Nat.le_refl _) hB4
    have hlen2 : (ns ++ [(⟨b, q, 0, x⟩ : Nd)]).length = n + 1 := by simp [HN.out]
    refine ⟨rfl, ⟨A1, c1', ?_, ?_⟩, hb1.setCell (p := ⟨g, 0, none⟩) hB _⟩
    · rw [hlen2]; exact hbx.set _
    · rw [hlen2]
      refine h1.1.kept (grownBy_setCell' W1 g _) (fun k hk e => ?_)
      have hne := hbx.not_row (by decide) h1.1
      rw [ownBlock_blk, hk] at hne
      exact hne e

end Go.Proofs.YtfomhdhiibcdfaaGreat.Tree
