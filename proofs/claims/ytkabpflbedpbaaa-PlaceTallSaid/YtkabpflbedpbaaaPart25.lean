/- The program's own: the edge, what hangs over, At, Start. -/
import Derived.Test.YtkabpflbedpbaaaPart14
import Derived.Test.YtkabpflbedpbaaaPart24
import Derived.Test.YtkabpflbedpbaaaPart6
namespace Go.Proofs.Ytkabpflbedpbaaa.Place
open Go.RowKit Go.Sort Go.Proofs.Ytkabpflbedpbaaa.Rect Go.Proofs.Ytkabpflbedpbaaa.More Go.Proofs.Ytkabpflbedpbaaa.Shelf Go.Proofs.Ytkabpflbedpbaaa.Space
set_option linter.unusedVariables false
set_option linter.unusedSimpArgs false

set_option maxHeartbeats 400000 in
theorem len_is (a b d : Int) (hd : IntKind.i64.wrap (b - a) = d) (w : World) :
    Calls Try.prog 31 #[.agg #[.int .i64 a, .int .i64 b]] w fun e w' => e = .returned (.int .i64 d) ∧ Below w.heap.size w w' := by
  go_enter Try.func31, Try.ntmps31
  go_wp2_with fail
  go_ret
  exact ⟨rfl, ba1 _ _⟩

theorem clip_is (a b c d p q : Int) (hp : max a c = p) (hq : min b d = q) (w : World) :
    Calls Try.prog 30 #[.agg #[.int .i64 a, .int .i64 b], .agg #[.int .i64 c, .int .i64 d]] w fun e w' => e = .returned (.agg #[.int .i64 p, .int .i64 q]) ∧ Below w.heap.size w w' := by
  subst hp hq
  exact clip_any a b c d w

def edgeP (x : Wt) (a b : Int) : Int := if x.s = 2 then b - x.wd else a

set_option maxHeartbeats 400000 in
theorem pedge_any (x : Wt) (a b z : Int) (hov : IntKind.i64.wrap (b - x.wd) = b - x.wd) (hz : edgeP x a b = z) (w : World) :
    Calls Try.prog 33 #[x.v, .agg #[.int .i64 a, .int .i64 b]] w fun e w' => e = .returned (.int .i64 z) ∧ Below w.heap.size w w' := by
  unfold edgeP at hz
  by_cases h : x.s = 2
  · rw [if_pos h] at hz
    have hb : (x.s == 2) = true := by simp [h]
    subst hz
    clear h
    go_enter Try.func33, Try.ntmps33
    go_wp2_with fail
    go_ret
    exact ⟨rfl, ba2 _ _ _⟩
  · rw [if_neg h] at hz
    have hb : (x.s == 2) = false := by simp [h]
    subst hz
    clear h
    go_enter Try.func33, Try.ntmps33
    go_wp2_with fail
    go_ret
    exact ⟨rfl, ba2 _ _ _⟩

/-- Wider than its columns, and nothing in its way. -/
def hangs (x : Wt) (L R : Int) : Bool := decide (x.t - x.f < x.wd) && decide (L ≤ edgeP x x.f x.t) && decide (edgeP x x.f x.t + x.wd ≤ R)

theorem ok_prog {x : Wt} (hs : x.s = 1 ∨ x.s = 2) (L R : Int) : okN x L R = (decide (x.wd ≤ min x.t R - max x.f L) || hangs x L R) := by
  rw [Bool.eq_iff_iff, okN_iff]
  unfold hangs edgeP
  simp only [Bool.or_eq_true, Bool.and_eq_true, decide_eq_true_eq]
  rcases hs with e | e
  · rw [if_neg (by omega)]; omega
  · rw [if_pos e]; omega

theorem edge_prog {x : Wt} (hs : x.s = 1 ∨ x.s = 2) (L R : Int) : edgeN x L R = edgeP x (max x.f L) (min x.t R) := by
  unfold edgeN edgeP
  rcases hs with e | e
  · rw [if_pos e, if_neg (by omega)]
  · rw [if_neg (by omega), if_pos e]

set_option maxRecDepth 100000 in
set_option maxHeartbeats 1000000 in
theorem poverhangs_any (x : Wt) (L R : Int) (v : Bool) (hv : hangs x L R = v) (hr : RightW x) (w : World) :
    Calls Try.prog 32 #[x.v, .agg #[.int .i64 L, .int .i64 R]] w fun e w' => e = .returned (.bool v) ∧ Below w.heap.size w w' := by
  obtain ⟨f1, f2, t1, t2, wd1, wd2, ht1, ht2, y1, y2, sd, cl, ft⟩ := hr
  obtain ⟨le, hle⟩ : ∃ le, edgeP x x.f x.t = le := ⟨_, rfl⟩
  have hlb : le = x.f ∨ le = x.t - x.wd := by rw [← hle]; unfold edgeP; split <;> simp
  obtain ⟨d, hd⟩ : ∃ d, x.t - x.f = d := ⟨_, rfl⟩
  have HLen := Lib.hid (fun w => len_is x.f x.t d (by rw [IntWalk.i64_in _ (by omega)]; exact hd) w)
  have HEd := Lib.hid (fun w => pedge_any x x.f x.t le (IntWalk.i64_in _ (by omega)) hle w)
  have hw1 : IntKind.i64.wrap (le + x.wd) = le + x.wd := IntWalk.i64_in _ (by omega)
  have HW := Lib.hid hw1
  unfold hangs at hv
  rw [hle, hd] at hv
  clear f1 f2 t1 t2 wd1 wd2 ht1 ht2 y1 y2 sd cl ft hlb hle hd hw1
  go_enter Try.func32, Try.ntmps32
  go_upto_region 1 with fail
  generalize hW1 : World.alloc w _ = W1
  obtain ⟨b0, hb0⟩ : ∃ b0, w.heap.size = b0 := ⟨_, rfl⟩
  have k1 : Below w.heap.size w W1 := by rw [← hW1]; exact ba1 _ _
  have a1 : AtW W1 b0 x := by rw [← hW1, ← hb0]; exact atW_boxed _ _ _
  have hs1 : W1.heap.size = b0 + 1 := by rw [← hW1, ← hb0]; simp
  clear hW1
  generalize hW2 : World.alloc W1 _ = W2
  have k2 : Below W1.heap.size W1 W2 := by rw [← hW2]; exact ba1 _ _
  have e0 : W2.cell? ⟨b0 + 1, 0, none⟩ = some (.int .i64 L) := by rw [← hW2, ← hs1]; simp [go_sem]
  have e1 : W2.cell? ⟨b0 + 1, 1, none⟩ = some (.int .i64 R) := by rw [← hW2, ← hs1]; simp [go_sem]
  rw [hb0]
  obtain ⟨b1, hb1⟩ : ∃ b1, b0 + 1 = b1 := ⟨_, rfl⟩
  rw [hb1] at e0 e1
  rw [hb1]
  have S2 := Lib.hid (⟨a1.below k2, e0, e1, thru k1 k2⟩ : AtW W2 b0 x ∧ W2.cell? ⟨b1, 0, none⟩ = some (.int .i64 L) ∧ W2.cell? ⟨b1, 1, none⟩ = some (.int .i64 R) ∧ Below w.heap.size w W2)
  clear hW2 k1 a1 hs1 k2 hb0 hb1 e0 e1
  obtain ⟨c0, c1, c2, c3, c4, c5, c6⟩ := S2.out.1
  go_upto_region 2 with (first
    | (go_at_call 33; refine (HEd.out _).mono ?_; rintro e w3 ⟨rfl, k3⟩; have HE := Lib.hid (fun w' (j : Below w3.heap.size w3 w') => (⟨S2.out.1.below (thru k3 j), ((thru k3 j).cell (p := ⟨b1, 0, none⟩) (block_lt_of_cell S2.out.2.1)).trans S2.out.2.1, ((thru k3 j).cell (p := ⟨b1, 1, none⟩) (block_lt_of_cell S2.out.2.2.1)).trans S2.out.2.2.1⟩ : AtW w' b0 x ∧ w'.cell? ⟨b1, 0, none⟩ = some (.int .i64 L) ∧ w'.cell? ⟨b1, 1, none⟩ = some (.int .i64 R))); have K3 := Lib.hid (thru S2.out.2.2.2 k3); clear k3))
  clear c0 c1 c2 c3 c4 c5 c6 S2
  cases hwd : decide (d < x.wd) with
  | false =>
    have HWD := Lib.hid hwd
    rw [hwd] at hv
    obtain rfl : false = v := by simpa using hv
    clear hv hwd
    refine Hold.wp_region_hold [.val (.pointer (some ⟨b0, 4, none⟩)), .val (.int .i64 x.wd), .val (.pointer (some ⟨b0, 2, none⟩)), .val (.agg #[.int .i64 x.f, .int .i64 x.t]), .val (.int .i64 d), .val (.bool false), .val (.bool false), .skip, .skip, .skip, .skip, .val (.bool false), .val (.bool false), .skip, .skip, .skip, .skip, .skip, .skip, .skip, .val (.bool false)] (by kernel_rfl) (by kernel_rfl) (by kernel_rfl) ?_ ?_
    · simp only [Hold.fill, Hold.Leave.value]
      refine ⟨?_, ?_, ?_, ?_, ?_, ?_, ?_, trivial, trivial, trivial, trivial, ?_, ?_, trivial, trivial, trivial, trivial, trivial, trivial, trivial, ?_, trivial⟩
      · intro gg w' hw hk
        go_simp
        exact ⟨rfl, rfl⟩
      · intro gg w' hw hk
        have q4 := (HE.out w' hw).1.2.2.2.2.1
        go_simp
        exact ⟨rfl, rfl⟩
      · intro gg w' hw hk
        go_simp
        exact ⟨rfl, rfl⟩
      · intro gg w' hw hk
        have q2 := (HE.out w' hw).1.2.2.1
        have q3 := (HE.out w' hw).1.2.2.2.1
        go_simp
        exact ⟨rfl, rfl⟩
      · intro gg w' hw hk
        go_simp
        exact Hold.stays_call (HLen.out w')
      · intro gg w' hw hk
        have q := HWD.out
        go_simp
        exact ⟨rfl, rfl⟩
      · intro gg w' hw hk
        go_simp
        exact ⟨rfl, rfl⟩
      · intro gg w' hw hk
        go_simp
        exact ⟨rfl, rfl⟩
      · intro gg w' hw hk
        go_simp
        exact ⟨rfl, rfl⟩
      · intro gg w' hw hk
        go_simp
        exact ⟨rfl, rfl⟩
    intro gg w4 k4 hgg
    clear hgg
    simp only [Hold.fill, Hold.Leave.value, List.length_cons, List.length_nil, List.drop_succ_cons, List.drop_zero]
    have K4 := Lib.hid (thru K3.out k4)
    clear k4
    go_wp2_with fail
    go_ret
    exact ⟨rfl, K4.out⟩
  | true =>
    have HWD := Lib.hid hwd
    rw [hwd] at hv
    cases hlq : decide (L ≤ le) with
    | false =>
      have HLQ := Lib.hid hlq
      rw [hlq] at hv
      obtain rfl : false = v := by simpa using hv
      clear hv hwd hlq
      refine Hold.wp_region_hold [.val (.pointer (some ⟨b0, 4, none⟩)), .val (.int .i64 x.wd), .val (.pointer (some ⟨b0, 2, none⟩)), .val (.agg #[.int .i64 x.f, .int .i64 x.t]), .val (.int .i64 d), .val (.bool true), .val (.bool true), .val (.pointer (some ⟨b1, 0, none⟩)), .val (.int .i64 L), .val (.int .i64 le), .val (.bool false), .val (.bool false), .val (.bool false), .skip, .skip, .skip, .skip, .skip, .skip, .skip, .val (.bool false)] (by kernel_rfl) (by kernel_rfl) (by kernel_rfl) ?_ ?_
      · simp only [Hold.fill, Hold.Leave.value]
        refine ⟨?_, ?_, ?_, ?_, ?_, ?_, ?_, ?_, ?_, ?_, ?_, ?_, ?_, trivial, trivial, trivial, trivial, trivial, trivial, trivial, ?_, trivial⟩
        · intro gg w' hw hk
          go_simp
          exact ⟨rfl, rfl⟩
        · intro gg w' hw hk
          have q4 := (HE.out w' hw).1.2.2.2.2.1
          go_simp
          exact ⟨rfl, rfl⟩
        · intro gg w' hw hk
          go_simp
          exact ⟨rfl, rfl⟩
        · intro gg w' hw hk
          have q2 := (HE.out w' hw).1.2.2.1
          have q3 := (HE.out w' hw).1.2.2.2.1
          go_simp
          exact ⟨rfl, rfl⟩
        · intro gg w' hw hk
          go_simp
          exact Hold.stays_call (HLen.out w')
        · intro gg w' hw hk
          have q := HWD.out
          go_simp
          exact ⟨rfl, rfl⟩
        · intro gg w' hw hk
          go_simp
          exact ⟨rfl, rfl⟩
        · intro gg w' hw hk
          go_simp
          exact ⟨rfl, rfl⟩
        · intro gg w' hw hk
          have q1 := (HE.out w' hw).2.1
          go_simp
          exact ⟨rfl, rfl⟩
        · intro gg w' hw hk
          go_simp
          exact ⟨rfl, rfl⟩
        · intro gg w' hw hk
          have q := HLQ.out
          go_simp
          exact ⟨rfl, rfl⟩
        · intro gg w' hw hk
          go_simp
          exact ⟨rfl, rfl⟩
        · intro gg w' hw hk
          go_simp
          exact ⟨rfl, rfl⟩
        · intro gg w' hw hk
          go_simp
          exact ⟨rfl, rfl⟩
      intro gg w4 k4 hgg
      clear hgg
      simp only [Hold.fill, Hold.Leave.value, List.length_cons, List.length_nil, List.drop_succ_cons, List.drop_zero]
      have K4 := Lib.hid (thru K3.out k4)
      clear k4
      go_wp2_with fail
      go_ret
      exact ⟨rfl, K4.out⟩
    | true =>
      have HLQ := Lib.hid hlq
      rw [hlq] at hv
      have HV := Lib.hid (show decide (le + x.wd ≤ R) = v by simpa using hv)
      clear hv hwd hlq
      refine Hold.wp_region_hold [.val (.pointer (some ⟨b0, 4, none⟩)), .val (.int .i64 x.wd), .val (.pointer (some ⟨b0, 2, none⟩)), .val (.agg #[.int .i64 x.f, .int .i64 x.t]), .val (.int .i64 d), .val (.bool true), .val (.bool true), .val (.pointer (some ⟨b1, 0, none⟩)), .val (.int .i64 L), .val (.int .i64 le), .val (.bool true), .val (.bool true), .val (.bool true), .val (.int .i64 le), .val (.pointer (some ⟨b0, 4, none⟩)), .val (.int .i64 x.wd), .val (.int .i64 (le + x.wd)), .val (.pointer (some ⟨b1, 1, none⟩)), .val (.int .i64 R), .val (.bool v), .val (.bool v)] (by kernel_rfl) (by kernel_rfl) (by kernel_rfl) ?_ ?_
      · simp only [Hold.fill, Hold.Leave.value]
        refine ⟨?_, ?_, ?_, ?_, ?_, ?_, ?_, ?_, ?_, ?_, ?_, ?_, ?_, ?_, ?_, ?_, ?_, ?_, ?_, ?_, ?_, trivial⟩
        · intro gg w' hw hk
          go_simp
          exact ⟨rfl, rfl⟩
        · intro gg w' hw hk
          have q4 := (HE.out w' hw).1.2.2.2.2.1
          go_simp
          exact ⟨rfl, rfl⟩
        · intro gg w' hw hk
          go_simp
          exact ⟨rfl, rfl⟩
        · intro gg w' hw hk
          have q2 := (HE.out w' hw).1.2.2.1
          have q3 := (HE.out w' hw).1.2.2.2.1
          go_simp
          exact ⟨rfl, rfl⟩
        · intro gg w' hw hk
          go_simp
          exact Hold.stays_call (HLen.out w')
        · intro gg w' hw hk
          have q := HWD.out
          go_simp
          exact ⟨rfl, rfl⟩
        · intro gg w' hw hk
          go_simp
          exact ⟨rfl, rfl⟩
        · intro gg w' hw hk
          go_simp
          exact ⟨rfl, rfl⟩
        · intro gg w' hw hk
          have q1 := (HE.out w' hw).2.1
          go_simp
          exact ⟨rfl, rfl⟩
        · intro gg w' hw hk
          go_simp
          exact ⟨rfl, rfl⟩
        · intro gg w' hw hk
          have q := HLQ.out
          go_simp
          exact ⟨rfl, rfl⟩
        · intro gg w' hw hk
          go_simp
          exact ⟨rfl, rfl⟩
        · intro gg w' hw hk
          go_simp
          exact ⟨rfl, rfl⟩
        · intro gg w' hw hk
          go_simp
          exact ⟨rfl, rfl⟩
        · intro gg w' hw hk
          go_simp
          exact ⟨rfl, rfl⟩
        · intro gg w' hw hk
          have q4 := (HE.out w' hw).1.2.2.2.2.1
          go_simp
          exact ⟨rfl, rfl⟩
        · intro gg w' hw hk
          have q := HW.out
          go_simp
          exact ⟨rfl, rfl⟩
        · intro gg w' hw hk
          go_simp
          exact ⟨rfl, rfl⟩
        · intro gg w' hw hk
          have q1 := (HE.out w' hw).2.2
          go_simp
          exact ⟨rfl, rfl⟩
        · intro gg w' hw hk
          have q := HV.out
          go_simp
          exact ⟨rfl, rfl⟩
        · intro gg w' hw hk
          go_simp
          exact ⟨rfl, rfl⟩
      intro gg w4 k4 hgg
      clear hgg
      simp only [Hold.fill, Hold.Leave.value, List.length_cons, List.length_nil, List.drop_succ_cons, List.drop_zero]
      have K4 := Lib.hid (thru K3.out k4)
      clear k4
      go_wp2_with fail
      go_ret
      exact ⟨rfl, K4.out⟩

end Go.Proofs.Ytkabpflbedpbaaa.Place
