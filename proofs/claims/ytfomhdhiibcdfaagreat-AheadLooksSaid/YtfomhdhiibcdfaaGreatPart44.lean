/- The contract of join: neighbours that are alike become one. -/
import Derived.Test.YtfomhdhiibcdfaaGreatPart43
namespace Go.Proofs.YtfomhdhiibcdfaaGreat.Shelf
open Go.RowKit Go.Sort Go.Proofs.YtfomhdhiibcdfaaGreat.Rect Go.Proofs.YtfomhdhiibcdfaaGreat.More
set_option linter.unusedVariables false

set_option maxRecDepth 100000 in
set_option maxHeartbeats 800000 in
theorem join_any (pb g n c B a z : Nat) (pre mid post : List Sh) (w : World) (hl : Lst w B pb g n c (pre ++ mid ++ post)) (ha : pre.length = a) (hz : a + mid.length = z) (hm : 2 ≤ mid.length) (hn : n ≤ 1000000) (hB : B ≤ w.heap.size) :
    Calls Tryz.prog 78 #[.pointer (some ⟨pb, 0, none⟩), .int .i64 (a : Int), .int .i64 (z : Int)] w fun r w' => (∃ v, r = .returned v) ∧ (∃ n', Lst w' B pb g n' c (pre ++ compL mid ++ post)) ∧ But (two g pb) w w' := by
  have hlen := hl.len
  rw [List.length_append, List.length_append] at hlen
  obtain ⟨hnc, hc63⟩ := hl.cap
  have hp := hl.cell
  have hC := compact_any g n c B (a * 3) (z - a) (c - a) pre mid post w hl.row (by rw [ha]) (by omega) (by omega) (by omega) (by omega) hn
  have HC := Lib.hid hC
  have HL := Lib.hid hl
  have HK := Lib.hid (⟨ha, hz, hlen⟩ : pre.length = a ∧ a + mid.length = z ∧ pre.length + mid.length + post.length = n)
  have h1 : (a : Int) ≤ (z : Int) := by omega
  have h2 : (z : Int) ≤ (c : Int) := by omega
  have h3 : ¬ (c = a) := by omega
  have h4 : a ≤ z := by omega
  have h5 : z ≤ n := by omega
  clear hl hC ha hz hlen
  go_enter Tryz.func78, Tryz.ntmps78
  go_upto_region 1 with (first
    | (go_at_call 96; refine HC.out.mono ?_; rintro e w1 ⟨rfl, ⟨tl, ht1, ht2⟩, g1⟩; have HT := Lib.hid (⟨ht1, ht2, g1⟩ : (compL mid).length + tl.length = mid.length ∧ MineE encSh 120 w1 B (some ⟨g, 0, none⟩) n c (pre ++ (compL mid ++ tl) ++ post) ∧ w.grownBy w1 (some g)); clear ht1 ht2 g1))
  obtain ⟨l, hcl⟩ : ∃ l, (compL mid).length = l := ⟨_, rfl⟩
  have hp1 := HT.out.2.2.cell HL.out.cell (by simp; exact Ne.symm HL.out.ne)
  have hk := HK.out
  have ht := HT.out.1
  have hw1 : IntKind.i64.wrap ((a : Int) + (l : Int)) = ((a + l : Nat) : Int) := by rw [IntWalk.i64_in _ (by omega)]; omega
  have HD := Lib.hid (delete_any g n c B (a + l) z (a + l + (n - z)) (pre ++ (compL mid ++ tl) ++ post) w1 HT.out.2.1 (by omega) h5 rfl hn hc63)
  rw [show (pre ++ (compL mid ++ tl) ++ post).take (a + l) = pre ++ compL mid by
      rw [← hk.1, ← hcl, List.append_assoc, List.take_length_add_append, List.append_assoc, List.take_append_of_le_length (by omega), List.take_of_length_le (by omega)],
    show (pre ++ (compL mid ++ tl) ++ post).drop z = post by
      have : z = (pre ++ (compL mid ++ tl)).length := by rw [List.length_append, List.length_append]; omega
      rw [this, List.drop_left]] at HD
  rw [hcl]
  clear hk ht hp HC
  go_wp2_with (first
    | (go_at_call 98; refine HD.out.mono ?_; rintro e w2 ⟨rfl, m2, g2⟩; have hp2 := g2.cell hp1 (by simp; exact Ne.symm HL.out.ne); have hf1 := (HT.out.2.2.frozen_far ⟨pb, 0, none⟩ HL.out.lt (by simp; exact Ne.symm HL.out.ne)).trans HL.out.frz; have hf2 := (g2.frozen_far ⟨pb, 0, none⟩ (block_lt_of_cell hp1) (by simp; exact Ne.symm HL.out.ne)).trans hf1; have M2 := Lib.hid (⟨m2, g2⟩ : MineE encSh 120 w2 B (some ⟨g, 0, none⟩) (a + l + (n - z)) c (pre ++ compL mid ++ post) ∧ w1.grownBy w2 (some g)); clear m2 g2))
  go_end0
  refine ⟨⟨_, rfl⟩, ⟨_, lst_set HL.out.hb hp2 hf2 HL.out.ne M2.out.1⟩, ?_⟩
  exact But.trans (But.of_grown (S := two g pb) (HT.out.2.2.trans M2.out.2) (.inl rfl)) (But.set (S := two g pb) pb 0 _ (.inr rfl)) (fun _ _ h => h)

end Go.Proofs.YtfomhdhiibcdfaaGreat.Shelf
