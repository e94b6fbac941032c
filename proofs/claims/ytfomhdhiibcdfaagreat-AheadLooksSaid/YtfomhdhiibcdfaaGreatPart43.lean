/- The contract of slices.Delete, of a row of one's own. -/
import Derived.Test.YtfomhdhiibcdfaaGreatPart42
namespace Go.Proofs.YtfomhdhiibcdfaaGreat.Shelf
open Go.RowKit Go.Sort Go.Proofs.YtfomhdhiibcdfaaGreat.Rect Go.Proofs.YtfomhdhiibcdfaaGreat.More
set_option linter.unusedVariables false

/-- What Delete leaves. -/
def Deleted (w : World) (B g c n1 : Nat) (ys : List Sh) (r : Ending) (w' : World) : Prop :=
  r = .returned (.slice (some ⟨g, 0, none⟩) n1 c) ∧ MineE encSh 120 w' B (some ⟨g, 0, none⟩) n1 c ys ∧ w.grownBy w' (some g)

set_option maxHeartbeats 600000 in
theorem delete_none (g n c B i : Nat) (xs : List Sh) (w : World) (h : MineE encSh 120 w B (some ⟨g, 0, none⟩) n c xs) (hi : i ≤ n) (hc63 : c ≤ 9223372036854775807) :
    Calls Tryz.prog 98 #[.slice (some ⟨g, 0, none⟩) n c, .int .i64 (i : Int), .int .i64 (i : Int)] w (Deleted w B g c n xs) := by
  have hnc : n ≤ c := (mine_block h).choose_spec.2.2.1
  have HM := Lib.hid h
  have h1 : (i : Int) ≤ (n : Int) := by omega
  have h2 : (n : Int) ≤ (c : Int) := by omega
  clear h
  go_enter Tryz.func98, Tryz.ntmps98
  go_wp2_with fail
  all_goals
    go_ret
    first
      | exact ⟨rfl, HM.out, World.grownBy.refl _ _⟩
      | (subst h; exact ⟨rfl, HM.out, World.grownBy.refl _ _⟩)

set_option maxRecDepth 100000 in
set_option maxHeartbeats 800000 in
theorem delete_some (g n c B i j n1 : Nat) (xs : List Sh) (w : World) (h : MineE encSh 120 w B (some ⟨g, 0, none⟩) n c xs) (hij : i < j) (hj : j ≤ n) (hn1 : i + (n - j) = n1) (hn : n ≤ 1000000) (hc63 : c ≤ 9223372036854775807) :
    Calls Tryz.prog 98 #[.slice (some ⟨g, 0, none⟩) n c, .int .i64 (i : Int), .int .i64 (j : Int)] w (Deleted w B g c n1 (xs.take i ++ xs.drop j)) := by
  have hnc : n ≤ c := (mine_block h).choose_spec.2.2.1
  have hl := MineE.len h
  have HM := Lib.hid h
  obtain ⟨A2, hA2⟩ : ∃ A2, (if c = j then (⟨g, 0, none⟩ : Addr) else ⟨g, j * 3, none⟩) = A2 := ⟨_, rfl⟩
  have HR := Lib.hid (fun w2 (k2 : Below w.heap.size w w2) => show ∃ w3, (Builtin.append_ #[121, 121] 121 #[.slice (some ⟨g, 0, none⟩) i c, .slice (some A2) (n - j) (c - j)]).run Tryz.prog w2 = .ok (.slice (some ⟨g, 0, none⟩) n1 c) w3 ∧
      ∃ w4, (Builtin.clear_ #[121] 0 #[.slice (some ⟨g, n1 * 3, none⟩) (n - n1) (c - n1)]).run Tryz.prog w3 = .ok (.tuple #[]) w4 ∧ Deleted w B g c n1 (xs.take i ++ xs.drop j) (.returned (.slice (some ⟨g, 0, none⟩) n1 c)) w4 from by
    have m2 := MineE.below HM.out k2
    have hdl : (xs.drop j).length = n - j := by rw [List.length_drop, hl]
    obtain ⟨w3, r3, m3, g3⟩ := run_append_room_E infoPs 121 m2 i (xs.drop j) (by omega) (by omega) (some A2) (c - j) (fun p u hu => ⟨A2, rfl, by
      rw [← hA2]
      have hlt := (List.getElem?_eq_some_iff.1 hu).1
      rw [encSh.flat_len, hdl] at hlt
      rw [if_neg (by intro e; have : n - j = 0 := by omega
                     rw [this, Nat.zero_mul] at hlt; omega)]
      exact mine_src m2 j p u hu⟩) (fun e => by cases e)
    rw [hdl, hn1] at r3 m3
    rw [show max n n1 = n by omega] at m3
    have hlen3 := MineE.len m3
    obtain ⟨w4, r4, m4, g4⟩ := run_clear_E infoPs 0 (.agg #[.int .i64 0, .int .i64 0, .int .i64 0]) ((0, (0, 0)) : Sh) zeroSh rfl m3 n1 (n - n1) (c - n1) (by omega) (by omega) (by omega)
    refine ⟨w3, r3, w4, r4, rfl, ?_, ((grown_of_below k2).but _).trans (g3.trans g4)⟩
    have m5 := mine_trunc m4 (show n1 ≤ max n (n1 + (n - n1)) by omega)
    have e1 : (xs.take i ++ xs.drop j).length = n1 := by rw [List.length_append, List.length_take, hdl]; omega
    rw [List.append_assoc, List.take_append_of_le_length (by rw [List.length_take, hlen3]; omega), List.take_take, Nat.min_self, List.take_append_of_le_length (by omega), List.take_of_length_le (by omega)] at m5
    exact m5)
  have HN := Lib.hid hn1
  have h1 : (i : Int) ≤ (n : Int) := by omega
  have h2 : (n : Int) ≤ (c : Int) := by omega
  have h3 : (j : Int) ≤ (n : Int) := by omega
  have h4 : (i : Int) ≤ (j : Int) := by omega
  have h5 : ¬ (i : Int) = (j : Int) := by omega
  have h6 : ¬ (n = i) := by omega
  have h7 : ¬ (c = n1) := by omega
  have h8 : (n1 : Int) ≤ (n : Int) := by omega
  have h9 : i ≤ j := by omega
  have h10 : i ≤ n := by omega
  have h11 : n1 ≤ n := by omega
  have h12 : (i : Int) ≤ (c : Int) := by omega
  have h13 : i ≤ c := by omega
  clear h hn1 hl
  go_enter Tryz.func98, Tryz.ntmps98
  go_upto_region 5 with fail
  refine Hold.wp_region_hold [.val (.slice (some ⟨g, 0, none⟩) n c), .val (.int .i64 (i : Int)), .val (.slice (some ⟨g, 0, none⟩) i c), .val (.slice (some ⟨g, 0, none⟩) n c), .val (.int .i64 (j : Int)), .val (.slice (some A2) (n - j) (c - j))] (by kernel_rfl) (by kernel_rfl) (by kernel_rfl) ?_ ?_
  · simp only [Hold.fill, Hold.Leave.value]
    refine ⟨?_, ?_, ?_, ?_, ?_, ?_, trivial⟩
    · intro gg w' hw hk
      go_simp
      exact ⟨rfl, rfl⟩
    · intro gg w' hw hk
      go_simp
      exact ⟨rfl, rfl⟩
    · intro gg w' hw hk
      go_simp
      exact ⟨rfl, rfl⟩
    · intro gg w' hw hk
      go_simp
      exact ⟨rfl, rfl⟩
    · intro gg w' hw hk
      go_simp
      exact ⟨rfl, rfl⟩
    · intro gg w' hw hk
      go_simp
      exact ⟨rfl, by rw [← hA2]; by_cases e : c = j <;> simp [e]⟩
  intro gg w2 k2 hgg
  clear hgg
  simp only [Hold.fill, Hold.Leave.value, List.length_cons, List.length_nil, List.drop_succ_cons, List.drop_zero]
  obtain ⟨w3, r3, w4, r4, hd⟩ := HR.out w2 k2
  have HD := Lib.hid hd
  have R3 := Lib.hid r3
  clear hd k2 HR hA2 r3
  go_simp
  go_wp2_with (first
    | (at_builtin; refine wpList_append_at _ rfl _ _ 121 121 rfl _ _ rfl rfl R3.out ?_))
  go_ret
  exact HD.out

theorem delete_any (g n c B i j n1 : Nat) (xs : List Sh) (w : World) (h : MineE encSh 120 w B (some ⟨g, 0, none⟩) n c xs) (hij : i ≤ j) (hj : j ≤ n) (hn1 : i + (n - j) = n1) (hn : n ≤ 1000000) (hc63 : c ≤ 9223372036854775807) :
    Calls Tryz.prog 98 #[.slice (some ⟨g, 0, none⟩) n c, .int .i64 (i : Int), .int .i64 (j : Int)] w (Deleted w B g c n1 (xs.take i ++ xs.drop j)) := by
  by_cases e : i = j
  · subst e
    obtain rfl : n1 = n := by omega
    rw [List.take_append_drop]
    exact delete_none g n1 c B i xs w h hj hc63
  · exact delete_some g n c B i j n1 xs w h (by omega) hj hn1 hn hc63

end Go.Proofs.YtfomhdhiibcdfaaGreat.Shelf
