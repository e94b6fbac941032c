/- Texts of this proof that follow each other, in one file. -/
import Derived.Test.YtdibdfalahjmbaaGreatPart10
import Derived.Test.YtdibdfalahjmbaaGreatPart16
import Derived.Test.YtdibdfalahjmbaaGreatPart5
namespace Go.Proofs.YtdibdfalahjmbaaGreat.Place

open Go.RowKit Go.Sort Go.Proofs.YtdibdfalahjmbaaGreat.Rect Go.Proofs.YtdibdfalahjmbaaGreat.More Go.Proofs.YtdibdfalahjmbaaGreat.Shelf Go.Proofs.YtdibdfalahjmbaaGreat.Space

set_option linter.unusedVariables false

set_option linter.unusedSimpArgs false

set_option maxHeartbeats 400000 in
theorem len_is (a b d : Int) (hd : IntKind.i64.wrap (b - a) = d) (w : World) :
    Calls Tryz.prog 64 #[.agg #[.int .i64 a, .int .i64 b]] w fun e w' => e = .returned (.int .i64 d) ∧ Below w.heap.size w w' := by
  go_enter Tryz.func64, Tryz.ntmps64
  go_wp2_with fail
  go_ret
  exact ⟨rfl, ba1 _ _⟩

theorem clip_is (a b c d p q : Int) (hp : max a c = p) (hq : min b d = q) (w : World) :
    Calls Tryz.prog 91 #[.agg #[.int .i64 a, .int .i64 b], .agg #[.int .i64 c, .int .i64 d]] w fun e w' => e = .returned (.agg #[.int .i64 p, .int .i64 q]) ∧ Below w.heap.size w w' := by
  subst hp hq
  exact clip_any a b c d w

def edgeP (x : Wt) (a b : Int) : Int := if x.s = 2 then b - x.wd else a

set_option maxHeartbeats 400000 in
theorem pedge_any (x : Wt) (a b z : Int) (hov : IntKind.i64.wrap (b - x.wd) = b - x.wd) (hz : edgeP x a b = z) (w : World) :
    Calls Tryz.prog 96 #[x.v, .agg #[.int .i64 a, .int .i64 b]] w fun e w' => e = .returned (.int .i64 z) ∧ Below w.heap.size w w' := by
  unfold edgeP at hz
  by_cases h : x.s = 2
  · rw [if_pos h] at hz
    have hb : (x.s == 2) = true := by simp [h]
    subst hz
    clear h
    go_enter Tryz.func96, Tryz.ntmps96
    go_wp2_with fail
    go_ret
    exact ⟨rfl, ba2 _ _ _⟩
  · rw [if_neg h] at hz
    have hb : (x.s == 2) = false := by simp [h]
    subst hz
    clear h
    go_enter Tryz.func96, Tryz.ntmps96
    go_wp2_with fail
    go_ret
    exact ⟨rfl, ba2 _ _ _⟩

def hangs (x : Wt) (L R : Int) : Bool := decide (x.t - x.f < x.wd) && decide (L ≤ edgeP x x.f x.t) && decide (edgeP x x.f x.t + x.wd ≤ R)

theorem ok_prog {x : Wt} (hs : x.s = 1 ∨ x.s = 2) (L R : Int) : okN x L R = (decide (x.wd ≤ min x.t R - max x.f L) || hangs x L R) := by
  rw [Bool.eq_iff_iff, okN_iff]
  unfold hangs edgeP
  simp only [Bool.or_eq_true, Bool.and_eq_true, decide_eq_true_eq]
  rcases hs with e | e
  · rw [if_neg (by omega)]; omega
  · rw [if_pos e]; omega

theorem edge_prog {x : Wt} (hs : x.s = 1 ∨ x.s = 2) (L R : Int) : edgeN x L R = edgeP x (max x.f L) (min x.t R) := by
  unfold edgeN edgeP
  rcases hs with e | e
  · rw [if_pos e, if_neg (by omega)]
  · rw [if_neg (by omega), if_pos e]

set_option maxRecDepth 100000 in
set_option maxHeartbeats 1000000 in
theorem poverhangs_any (x : Wt) (L R : Int) (v : Bool) (hv : hangs x L R = v) (hr : RightW x) (w : World) :
    Calls Tryz.prog 95 #[x.v, .agg #[.int .i64 L, .int .i64 R]] w fun e w' => e = .returned (.bool v) ∧ Below w.heap.size w w' := by
  obtain ⟨f1, f2, t1, t2, wd1, wd2, ht1, ht2, y1, y2, sd, cl, ft⟩ := hr
  obtain ⟨le, hle⟩ : ∃ le, edgeP x x.f x.t = le := ⟨_, rfl⟩
  have hlb : le = x.f ∨ le = x.t - x.wd := by rw [← hle]; unfold edgeP; split <;> simp
  obtain ⟨d, hd⟩ : ∃ d, x.t - x.f = d := ⟨_, rfl⟩
  have HLen := Lib.hid (fun w => len_is x.f x.t d (by rw [IntWalk.i64_in _ (by omega)]; exact hd) w)
  have HEd := Lib.hid (fun w => pedge_any x x.f x.t le (IntWalk.i64_in _ (by omega)) hle w)
  have hw1 : IntKind.i64.wrap (le + x.wd) = le + x.wd := IntWalk.i64_in _ (by omega)
  have HW := Lib.hid hw1
  unfold hangs at hv
  rw [hle, hd] at hv
  clear f1 f2 t1 t2 wd1 wd2 ht1 ht2 y1 y2 sd cl ft hlb hle hd hw1
  go_enter Tryz.func95, Tryz.ntmps95
  go_upto_region 1 with fail
  generalize hW1 : World.alloc w _ = W1
  obtain ⟨b0, hb0⟩ : ∃ b0, w.heap.size = b0 := ⟨_, rfl⟩
  have k1 : Below w.heap.size w W1 := by rw [← hW1]; exact ba1 _ _
  have a1 : AtW W1 b0 x := by rw [← hW1, ← hb0]; exact atW_boxed _ _ _
  have hs1 : W1.heap.size = b0 + 1 := by rw [← hW1, ← hb0]; simp
  clear hW1
  generalize hW2 : World.alloc W1 _ = W2
  have k2 : Below W1.heap.size W1 W2 := by rw [← hW2]; exact ba1 _ _
  have e0 : W2.cell? ⟨b0 + 1, 0, none⟩ = some (.int .i64 L) := by rw [← hW2, ← hs1]; simp [go_sem]
  have e1 : W2.cell? ⟨b0 + 1, 1, none⟩ = some (.int .i64 R) := by rw [← hW2, ← hs1]; simp [go_sem]
  rw [hb0]
  obtain ⟨b1, hb1⟩ : ∃ b1, b0 + 1 = b1 := ⟨_, rfl⟩
  rw [hb1] at e0 e1
  rw [hb1]
  have S2 := Lib.hid (⟨a1.below k2, e0, e1, thru k1 k2⟩ : AtW W2 b0 x ∧ W2.cell? ⟨b1, 0, none⟩ = some (.int .i64 L) ∧ W2.cell? ⟨b1, 1, none⟩ = some (.int .i64 R) ∧ Below w.heap.size w W2)
  clear hW2 k1 a1 hs1 k2 hb0 hb1 e0 e1
  obtain ⟨c0, c1, c2, c3, c4, c5, c6⟩ := S2.out.1
  go_upto_region 2 with (first
    | (go_at_call 96; refine (HEd.out _).mono ?_; rintro e w3 ⟨rfl, k3⟩; have HE := Lib.hid (fun w' (j : Below w3.heap.size w3 w') => (⟨S2.out.1.below (thru k3 j), ((thru k3 j).cell (p := ⟨b1, 0, none⟩) (block_lt_of_cell S2.out.2.1)).trans S2.out.2.1, ((thru k3 j).cell (p := ⟨b1, 1, none⟩) (block_lt_of_cell S2.out.2.2.1)).trans S2.out.2.2.1⟩ : AtW w' b0 x ∧ w'.cell? ⟨b1, 0, none⟩ = some (.int .i64 L) ∧ w'.cell? ⟨b1, 1, none⟩ = some (.int .i64 R))); have K3 := Lib.hid (thru S2.out.2.2.2 k3); clear k3))
  clear c0 c1 c2 c3 c4 c5 c6 S2
  cases hwd : decide (d < x.wd) with
  | false =>
    have HWD := Lib.hid hwd
    rw [hwd] at hv
    obtain rfl : false = v := by simpa using hv
    clear hv hwd
    refine Hold.wp_region_hold [.val (.pointer (some ⟨b0, 4, none⟩)), .val (.int .i64 x.wd), .val (.pointer (some ⟨b0, 2, none⟩)), .val (.agg #[.int .i64 x.f, .int .i64 x.t]), .val (.int .i64 d), .val (.bool false), .val (.bool false), .skip, .skip, .skip, .skip, .val (.bool false), .val (.bool false), .skip, .skip, .skip, .skip, .skip, .skip, .skip, .val (.bool false)] (by kernel_rfl) (by kernel_rfl) (by kernel_rfl) ?_ ?_
    · simp only [Hold.fill, Hold.Leave.value]
      refine ⟨?_, ?_, ?_, ?_, ?_, ?_, ?_, trivial, trivial, trivial, trivial, ?_, ?_, trivial, trivial, trivial, trivial, trivial, trivial, trivial, ?_, trivial⟩
      · intro gg w' hw hk
        go_simp
        exact ⟨rfl, rfl⟩
      · intro gg w' hw hk
        have q4 := (HE.out w' hw).1.2.2.2.2.1
        go_simp
        exact ⟨rfl, rfl⟩
      · intro gg w' hw hk
        go_simp
        exact ⟨rfl, rfl⟩
      · intro gg w' hw hk
        have q2 := (HE.out w' hw).1.2.2.1
        have q3 := (HE.out w' hw).1.2.2.2.1
        go_simp
        exact ⟨rfl, rfl⟩
      · intro gg w' hw hk
        go_simp
        exact Hold.stays_call (HLen.out w')
      · intro gg w' hw hk
        have q := HWD.out
        go_simp
        exact ⟨rfl, rfl⟩
      · intro gg w' hw hk
        go_simp
        exact ⟨rfl, rfl⟩
      · intro gg w' hw hk
        go_simp
        exact ⟨rfl, rfl⟩
      · intro gg w' hw hk
        go_simp
        exact ⟨rfl, rfl⟩
      · intro gg w' hw hk
        go_simp
        exact ⟨rfl, rfl⟩
    intro gg w4 k4 hgg
    clear hgg
    simp only [Hold.fill, Hold.Leave.value, List.length_cons, List.length_nil, List.drop_succ_cons, List.drop_zero]
    have K4 := Lib.hid (thru K3.out k4)
    clear k4
    go_wp2_with fail
    go_ret
    exact ⟨rfl, K4.out⟩
  | true =>
    have HWD := Lib.hid hwd
    rw [hwd] at hv
    cases hlq : decide (L ≤ le) with
    | false =>
      have HLQ := Lib.hid hlq
      rw [hlq] at hv
      obtain rfl : false = v := by simpa using hv
      clear hv hwd hlq
      refine Hold.wp_region_hold [.val (.pointer (some ⟨b0, 4, none⟩)), .val (.int .i64 x.wd), .val (.pointer (some ⟨b0, 2, none⟩)), .val (.agg #[.int .i64 x.f, .int .i64 x.t]), .val (.int .i64 d), .val (.bool true), .val (.bool true), .val (.pointer (some ⟨b1, 0, none⟩)), .val (.int .i64 L), .val (.int .i64 le), .val (.bool false), .val (.bool false), .val (.bool false), .skip, .skip, .skip, .skip, .skip, .skip, .skip, .val (.bool false)] (by kernel_rfl) (by kernel_rfl) (by kernel_rfl) ?_ ?_
      · simp only [Hold.fill, Hold.Leave.value]
        refine ⟨?_, ?_, ?_, ?_, ?_, ?_, ?_, ?_, ?_, ?_, ?_, ?_, ?_, trivial, trivial, trivial, trivial, trivial, trivial, trivial, ?_, trivial⟩
        · intro gg w' hw hk
          go_simp
          exact ⟨rfl, rfl⟩
        · intro gg w' hw hk
          have q4 := (HE.out w' hw).1.2.2.2.2.1
          go_simp
          exact ⟨rfl, rfl⟩
        · intro gg w' hw hk
          go_simp
          exact ⟨rfl, rfl⟩
        · intro gg w' hw hk
          have q2 := (HE.out w' hw).1.2.2.1
          have q3 := (HE.out w' hw).1.2.2.2.1
          go_simp
          exact ⟨rfl, rfl⟩
        · intro gg w' hw hk
          go_simp
          exact Hold.stays_call (HLen.out w')
        · intro gg w' hw hk
          have q := HWD.out
          go_simp
          exact ⟨rfl, rfl⟩
        · intro gg w' hw hk
          go_simp
          exact ⟨rfl, rfl⟩
        · intro gg w' hw hk
          go_simp
          exact ⟨rfl, rfl⟩
        · intro gg w' hw hk
          have q1 := (HE.out w' hw).2.1
          go_simp
          exact ⟨rfl, rfl⟩
        · intro gg w' hw hk
          go_simp
          exact ⟨rfl, rfl⟩
        · intro gg w' hw hk
          have q := HLQ.out
          go_simp
          exact ⟨rfl, rfl⟩
        · intro gg w' hw hk
          go_simp
          exact ⟨rfl, rfl⟩
        · intro gg w' hw hk
          go_simp
          exact ⟨rfl, rfl⟩
        · intro gg w' hw hk
          go_simp
          exact ⟨rfl, rfl⟩
      intro gg w4 k4 hgg
      clear hgg
      simp only [Hold.fill, Hold.Leave.value, List.length_cons, List.length_nil, List.drop_succ_cons, List.drop_zero]
      have K4 := Lib.hid (thru K3.out k4)
      clear k4
      go_wp2_with fail
      go_ret
      exact ⟨rfl, K4.out⟩
    | true =>
      have HLQ := Lib.hid hlq
      rw [hlq] at hv
      have HV := Lib.hid (show decide (le + x.wd ≤ R) = v by simpa using hv)
      clear hv hwd hlq
      refine Hold.wp_region_hold [.val (.pointer (some ⟨b0, 4, none⟩)), .val (.int .i64 x.wd), .val (.pointer (some ⟨b0, 2, none⟩)), .val (.agg #[.int .i64 x.f, .int .i64 x.t]), .val (.int .i64 d), .val (.bool true), .val (.bool true), .val (.pointer (some ⟨b1, 0, none⟩)), .val (.int .i64 L), .val (.int .i64 le), .val (.bool true), .val (.bool true), .val (.bool true), .val (.int .i64 le), .val (.pointer (some ⟨b0, 4, none⟩)), .val (.int .i64 x.wd), .val (.int .i64 (le + x.wd)), .val (.pointer (some ⟨b1, 1, none⟩)), .val (.int .i64 R), .val (.bool v), .val (.bool v)] (by kernel_rfl) (by kernel_rfl) (by kernel_rfl) ?_ ?_
      · simp only [Hold.fill, Hold.Leave.value]
        refine ⟨?_, ?_, ?_, ?_, ?_, ?_, ?_, ?_, ?_, ?_, ?_, ?_, ?_, ?_, ?_, ?_, ?_, ?_, ?_, ?_, ?_, trivial⟩
        · intro gg w' hw hk
          go_simp
          exact ⟨rfl, rfl⟩
        · intro gg w' hw hk
          have q4 := (HE.out w' hw).1.2.2.2.2.1
          go_simp
          exact ⟨rfl, rfl⟩
        · intro gg w' hw hk
          go_simp
          exact ⟨rfl, rfl⟩
        · intro gg w' hw hk
          have q2 := (HE.out w' hw).1.2.2.1
          have q3 := (HE.out w' hw).1.2.2.2.1
          go_simp
          exact ⟨rfl, rfl⟩
        · intro gg w' hw hk
          go_simp
          exact Hold.stays_call (HLen.out w')
        · intro gg w' hw hk
          have q := HWD.out
          go_simp
          exact ⟨rfl, rfl⟩
        · intro gg w' hw hk
          go_simp
          exact ⟨rfl, rfl⟩
        · intro gg w' hw hk
          go_simp
          exact ⟨rfl, rfl⟩
        · intro gg w' hw hk
          have q1 := (HE.out w' hw).2.1
          go_simp
          exact ⟨rfl, rfl⟩
        · intro gg w' hw hk
          go_simp
          exact ⟨rfl, rfl⟩
        · intro gg w' hw hk
          have q := HLQ.out
          go_simp
          exact ⟨rfl, rfl⟩
        · intro gg w' hw hk
          go_simp
          exact ⟨rfl, rfl⟩
        · intro gg w' hw hk
          go_simp
          exact ⟨rfl, rfl⟩
        · intro gg w' hw hk
          go_simp
          exact ⟨rfl, rfl⟩
        · intro gg w' hw hk
          go_simp
          exact ⟨rfl, rfl⟩
        · intro gg w' hw hk
          have q4 := (HE.out w' hw).1.2.2.2.2.1
          go_simp
          exact ⟨rfl, rfl⟩
        · intro gg w' hw hk
          have q := HW.out
          go_simp
          exact ⟨rfl, rfl⟩
        · intro gg w' hw hk
          go_simp
          exact ⟨rfl, rfl⟩
        · intro gg w' hw hk
          have q1 := (HE.out w' hw).2.2
          go_simp
          exact ⟨rfl, rfl⟩
        · intro gg w' hw hk
          have q := HV.out
          go_simp
          exact ⟨rfl, rfl⟩
        · intro gg w' hw hk
          go_simp
          exact ⟨rfl, rfl⟩
      intro gg w4 k4 hgg
      clear hgg
      simp only [Hold.fill, Hold.Leave.value, List.length_cons, List.length_nil, List.drop_succ_cons, List.drop_zero]
      have K4 := Lib.hid (thru K3.out k4)
      clear k4
      go_wp2_with fail
      go_ret
      exact ⟨rfl, K4.out⟩

end Go.Proofs.YtdibdfalahjmbaaGreat.Place

namespace Go.Proofs.YtdibdfalahjmbaaGreat.Place

open Go.RowKit Go.Sort Go.Proofs.YtdibdfalahjmbaaGreat.Rect Go.Proofs.YtdibdfalahjmbaaGreat.More Go.Proofs.YtdibdfalahjmbaaGreat.Shelf Go.Proofs.YtdibdfalahjmbaaGreat.Space

set_option linter.unusedVariables false

set_option linter.unusedSimpArgs false

section

variable {S : World → (Nat → Prop) → Addr → List Fl → Prop}

def At2 (w : World) (b : Nat) (x y : Int) : Prop := w.cell? ⟨b, 0, none⟩ = some (.int .i64 x) ∧ w.cell? ⟨b, 1, none⟩ = some (.int .i64 y)

theorem At2.below {w w' : World} {b : Nat} {x y : Int} (h : At2 w b x y) (k : Below w.heap.size w w') : At2 w' b x y :=
  ⟨(k.cell (p := ⟨b, 0, none⟩) (block_lt_of_cell h.1)).trans h.1, (k.cell (p := ⟨b, 1, none⟩) (block_lt_of_cell h.2)).trans h.2⟩

theorem at2_boxed (w : World) (x y : Int) (T : TypeId) : At2 (w.alloc (.cells #[.int .i64 x, .int .i64 y] T)) w.heap.size x y := by
  refine ⟨?_, ?_⟩ <;> simp [go_sem]

set_option maxRecDepth 100000 in
set_option maxHeartbeats 1000000 in
theorem pat_any (hO : SpaceOk S) (w : World) (F : Nat → Prop) (p : Addr) (fs : List Fl) (x : Wt) (y : Int) (h : S w F p fs) (h49 : fs.all near49 = true) (hr : RightW x) (hy : -2251799813685248 ≤ y ∧ y ≤ 2251799813685248) :
    Calls Tryz.prog 80 #[.pointer (some p), x.v, .int .i64 y] w fun r w' => r = .returned (.tuple #[.int .i64 (atQ fs x y), .bool (okQ fs x y)]) ∧ Below w.heap.size w w' := by
  have hht : x.ht ≤ 2305843009213693952 := by have := hr.ht2; omega
  have hz1 := highZ_pos x.ht
  have hz3 : y + highZ x.ht ≤ 4611686018427387904 := by unfold highZ; split <;> omega
  have HRo := Lib.hid (fun w => hO.rows y x.ht w ⟨by omega, by omega⟩ hht)
  have HBo := Lib.hid (fun w1 (k : S w1 F p fs) => hO.bounds w1 F p fs y (y + highZ x.ht) k (near49_near h49) (by omega) hz3)
  obtain ⟨L1, L2⟩ := bandL_49 h49 y (y + highZ x.ht)
  obtain ⟨R1, R2⟩ := bandR_49 h49 y (y + highZ x.ht)
  obtain ⟨v, hv⟩ : ∃ v, okQ fs x y = v := ⟨_, rfl⟩
  have hz : atQ fs x y = if v then edgeQ fs x y else 0 := by unfold atQ; rw [hv]
  obtain ⟨z, hzz⟩ : ∃ z, atQ fs x y = z := ⟨_, rfl⟩
  rw [hv, hzz]
  rw [hzz] at hz
  unfold okQ at hv
  unfold edgeQ at hz
  generalize bandL fs y (y + highZ x.ht) = L at *
  generalize bandR fs y (y + highZ x.ht) = R at *
  rw [ok_prog hr.sd] at hv
  rw [edge_prog hr.sd] at hz
  obtain ⟨a, ha⟩ : ∃ a, max x.f L = a := ⟨_, rfl⟩
  obtain ⟨b, hb⟩ : ∃ b, min x.t R = b := ⟨_, rfl⟩
  rw [ha, hb] at hv hz
  have HCl := Lib.hid (fun w => clip_is x.f x.t L R a b ha hb w)
  have HOv := Lib.hid (fun v hv w => poverhangs_any x L R v hv hr w)
  obtain ⟨f1, f2, t1, t2, wd1, wd2, ht1, ht2, y1, y2, sd, cl, ft⟩ := hr
  have HLen := Lib.hid (fun w => len_is a b (b - a) (IntWalk.i64_in _ (by omega)) w)
  have HEd := Lib.hid (fun z hz w => pedge_any x a b z (IntWalk.i64_in _ (by omega)) hz w)
  obtain ⟨yh, hyh⟩ : ∃ yh, y + highZ x.ht = yh := ⟨_, rfl⟩
  rw [hyh] at HRo HBo
  have HV := Lib.hid hv
  have HZ := Lib.hid hz
  have HS := Lib.hid h
  clear h h49 hht hz1 hz3 L1 L2 R1 R2 hv hz hzz ha hb f1 f2 t1 t2 wd1 wd2 ht1 ht2 y1 y2 sd cl ft hyh hy
  go_enter Tryz.func80, Tryz.ntmps80
  go_upto_region 1 with fail
  generalize hW1 : World.alloc w _ = W1
  obtain ⟨b0, hb0⟩ : ∃ b0, w.heap.size = b0 := ⟨_, rfl⟩
  have k1 : Below w.heap.size w W1 := by rw [← hW1]; exact ba1 _ _
  have S1 := Lib.hid (⟨by rw [← hW1, ← hb0]; exact atW_boxed _ _ _, thruS hO HS.out k1, k1⟩ : AtW W1 b0 x ∧ S W1 F p fs ∧ Below w.heap.size w W1)
  rw [hb0]
  clear hW1 hb0 k1
  obtain ⟨c0, c1, c2, c3, c4, c5, c6⟩ := S1.out.1
  go_upto_region 2 with (first
    | (go_at_call 90; refine (HRo.out _).mono ?_; rintro e w2 ⟨rfl, k2⟩; have S2 := Lib.hid (⟨S1.out.1.below k2, thruS hO S1.out.2.1 k2, thru S1.out.2.2 k2⟩ : AtW w2 b0 x ∧ S w2 F p fs ∧ Below w.heap.size w w2); clear k2)
    | (go_at_call 94; refine (HBo.out _ S2.out.2.1).mono ?_; rintro e w3 ⟨rfl, k3⟩; have S3 := Lib.hid (⟨S2.out.1.below k3, thru S2.out.2.2 k3⟩ : AtW w3 b0 x ∧ Below w.heap.size w w3); clear k3))
  clear c0 c1 c2 c3 c4 c5 c6
  generalize hW4 : World.alloc w3 _ = W4
  obtain ⟨b1, hb1⟩ : ∃ b1, w3.heap.size = b1 := ⟨_, rfl⟩
  have k4 : Below w3.heap.size w3 W4 := by rw [← hW4]; exact ba1 _ _
  have S4 := Lib.hid (⟨S3.out.1.below k4, by rw [← hW4, ← hb1]; exact at2_boxed _ _ _ _, thru S3.out.2 k4⟩ : AtW W4 b0 x ∧ At2 W4 b1 L R ∧ Below w.heap.size w W4)
  rw [hb1]
  clear hW4 hb1 k4
  obtain ⟨c0, c1, c2, c3, c4, c5, c6⟩ := S4.out.1
  obtain ⟨d0, d1⟩ := S4.out.2.1
  go_upto_region 3 with (first
    | (go_at_call 91; refine (HCl.out _).mono ?_; rintro e w5 ⟨rfl, k5⟩; have S5 := Lib.hid (⟨S4.out.1.below k5, S4.out.2.1.below k5, thru S4.out.2.2 k5⟩ : AtW w5 b0 x ∧ At2 w5 b1 L R ∧ Below w.heap.size w w5); clear k5))
  clear c0 c1 c2 c3 c4 c5 c6 d0 d1
  generalize hW6 : World.alloc w5 _ = W6
  obtain ⟨b2, hb2⟩ : ∃ b2, w5.heap.size = b2 := ⟨_, rfl⟩
  have k6 : Below w5.heap.size w5 W6 := by rw [← hW6]; exact ba1 _ _
  have S6 := Lib.hid (⟨S5.out.1.below k6, S5.out.2.1.below k6, by rw [← hW6, ← hb2]; exact at2_boxed _ _ _ _, thru S5.out.2.2 k6⟩ : AtW W6 b0 x ∧ At2 W6 b1 L R ∧ At2 W6 b2 a b ∧ Below w.heap.size w W6)
  rw [hb2]
  clear hW6 hb2 k6
  have HA := Lib.hid (fun w' (j : Below W6.heap.size W6 w') => S6.out.1.below j)
  have HB := Lib.hid (fun w' (j : Below W6.heap.size W6 w') => S6.out.2.1.below j)
  have HC := Lib.hid (fun w' (j : Below W6.heap.size W6 w') => S6.out.2.2.1.below j)
  obtain ⟨ft, hft⟩ : ∃ ft, decide (x.wd ≤ b - a) = ft := ⟨_, rfl⟩
  have HFT := Lib.hid hft
  have hv2 := HV.out
  have hz2 := HZ.out
  rw [hft] at hv2
  clear hft HV HZ
  cases ft with
  | true =>
    obtain rfl : true = v := by simpa using hv2
    have hz3 : edgeP x a b = z := by rw [hz2]; rfl
    clear hv2 hz2
    refine Hold.wp_region_hold [.val (.pointer (some ⟨b0, 4, none⟩)), .val (.int .i64 x.wd), .val (.agg #[.int .i64 a, .int .i64 b]), .val (.int .i64 (b - a)), .val (.bool true), .val (.bool true), .skip, .skip, .skip] (by kernel_rfl) (by kernel_rfl) (by kernel_rfl) ?_ ?_
    · simp only [Hold.fill, Hold.Leave.value]
      refine ⟨?_, ?_, ?_, ?_, ?_, ?_, trivial, trivial, trivial, trivial⟩
      · intro gg w' hw hk
        go_simp
        exact ⟨rfl, rfl⟩
      · intro gg w' hw hk
        have q4 := (HA.out w' hw).2.2.2.2.1
        go_simp
        exact ⟨rfl, rfl⟩
      · intro gg w' hw hk
        have r0 := (HC.out w' hw).1
        have r1 := (HC.out w' hw).2
        go_simp
        exact ⟨rfl, rfl⟩
      · intro gg w' hw hk
        go_simp
        exact Hold.stays_call (HLen.out w')
      · intro gg w' hw hk
        have q := HFT.out
        go_simp
        exact ⟨rfl, rfl⟩
      · intro gg w' hw hk
        go_simp
        exact ⟨rfl, rfl⟩
    intro gg w7 k7 hgg
    clear hgg
    simp only [Hold.fill, Hold.Leave.value, List.length_cons, List.length_nil, List.drop_succ_cons, List.drop_zero]
    have HZ2 := Lib.hid hz3
    have S7 := Lib.hid (⟨HA.out _ k7, HC.out _ k7, thru S6.out.2.2.2 k7⟩ : AtW w7 b0 x ∧ At2 w7 b2 a b ∧ Below w.heap.size w w7)
    clear k7 hz3
    obtain ⟨c0, c1, c2, c3, c4, c5, c6⟩ := S7.out.1
    obtain ⟨d0, d1⟩ := S7.out.2.1
    go_wp2_with (first
      | (go_at_call 96; refine (HEd.out z HZ2.out _).mono ?_; rintro e w8 ⟨rfl, k8⟩; have K8 := Lib.hid (thru S7.out.2.2 k8); clear k8))
    exact bodyPost_ret (v := .tuple #[.int .i64 z, .bool true]) (by simp [results, Tryz.results80, go_sem]) rfl ⟨rfl, K8.out⟩
  | false =>
    have hv2 : hangs x L R = v := by simpa using hv2
    refine Hold.wp_region_hold [.val (.pointer (some ⟨b0, 4, none⟩)), .val (.int .i64 x.wd), .val (.agg #[.int .i64 a, .int .i64 b]), .val (.int .i64 (b - a)), .val (.bool false), .val (.bool false), .val (x.v), .val (.agg #[.int .i64 L, .int .i64 R]), .val (.bool v)] (by kernel_rfl) (by kernel_rfl) (by kernel_rfl) ?_ ?_
    · simp only [Hold.fill, Hold.Leave.value]
      refine ⟨?_, ?_, ?_, ?_, ?_, ?_, ?_, ?_, ?_, trivial⟩
      · intro gg w' hw hk
        go_simp
        exact ⟨rfl, rfl⟩
      · intro gg w' hw hk
        have q4 := (HA.out w' hw).2.2.2.2.1
        go_simp
        exact ⟨rfl, rfl⟩
      · intro gg w' hw hk
        have r0 := (HC.out w' hw).1
        have r1 := (HC.out w' hw).2
        go_simp
        exact ⟨rfl, rfl⟩
      · intro gg w' hw hk
        go_simp
        exact Hold.stays_call (HLen.out w')
      · intro gg w' hw hk
        have q := HFT.out
        go_simp
        exact ⟨rfl, rfl⟩
      · intro gg w' hw hk
        go_simp
        exact ⟨rfl, rfl⟩
      · intro gg w' hw hk
        have q0 := (HA.out w' hw).1
        have q1 := (HA.out w' hw).2.1
        have q2 := (HA.out w' hw).2.2.1
        have q3 := (HA.out w' hw).2.2.2.1
        have q4 := (HA.out w' hw).2.2.2.2.1
        have q5 := (HA.out w' hw).2.2.2.2.2.1
        have q6 := (HA.out w' hw).2.2.2.2.2.2
        go_simp
        exact ⟨rfl, rfl⟩
      · intro gg w' hw hk
        have r0 := (HB.out w' hw).1
        have r1 := (HB.out w' hw).2
        go_simp
        exact ⟨rfl, rfl⟩
      · intro gg w' hw hk
        go_simp
        exact Hold.stays_call (HOv.out v hv2 w')
    intro gg w7 k7 hgg
    clear hgg
    simp only [Hold.fill, Hold.Leave.value, List.length_cons, List.length_nil, List.drop_succ_cons, List.drop_zero]
    clear hv2
    cases v with
    | true =>
      have hz3 : edgeP x a b = z := by rw [hz2]; rfl
      clear hz2
      have HZ2 := Lib.hid hz3
      have S7 := Lib.hid (⟨HA.out _ k7, HC.out _ k7, thru S6.out.2.2.2 k7⟩ : AtW w7 b0 x ∧ At2 w7 b2 a b ∧ Below w.heap.size w w7)
      clear k7 hz3
      obtain ⟨c0, c1, c2, c3, c4, c5, c6⟩ := S7.out.1
      obtain ⟨d0, d1⟩ := S7.out.2.1
      go_wp2_with (first
        | (go_at_call 96; refine (HEd.out z HZ2.out _).mono ?_; rintro e w8 ⟨rfl, k8⟩; have K8 := Lib.hid (thru S7.out.2.2 k8); clear k8))
      exact bodyPost_ret (v := .tuple #[.int .i64 z, .bool true]) (by simp [results, Tryz.results80, go_sem]) rfl ⟨rfl, K8.out⟩
    | false =>
      obtain rfl : z = 0 := hz2
      have K7 := Lib.hid (thru S6.out.2.2.2 k7)
      clear k7
      go_wp2_with fail
      exact bodyPost_ret (v := .tuple #[.int .i64 0, .bool false]) (by simp [results, Tryz.results80, go_sem]) rfl ⟨rfl, K7.out⟩

set_option maxRecDepth 100000 in
set_option maxHeartbeats 600000 in
theorem pstart_any (hO : SpaceOk S) (w : World) (F : Nat → Prop) (p : Addr) (fs : List Fl) (x : Wt) (h : S w F p fs) (h49 : fs.all near49 = true) (hr : RightW x) :
    Calls Tryz.prog 78 #[.pointer (some p), x.v] w fun r w' => r = .returned (.int .i64 (startQ fs x)) ∧ Below w.heap.size w w' := by
  have HLa := Lib.hid (fun w1 (k : S w1 F p fs) => hO.last w1 F p fs k (near49_near h49))
  have HCl := Lib.hid (fun w1 y (k : S w1 F p fs) => hO.clear w1 F p fs x.c y k (near49_near h49) hr.cl)
  obtain ⟨z, hz⟩ : ∃ z, startQ fs x = z := ⟨_, rfl⟩
  rw [hz]
  rw [start_prog] at hz
  obtain ⟨v, hv⟩ : ∃ v : Bool, decide (0 < fs.length) = v := ⟨_, rfl⟩
  rw [hv] at hz HLa
  generalize lastD fs = la at hz HLa
  have HS := Lib.hid h
  clear h h49 hr hv
  go_enter Tryz.func78, Tryz.ntmps78
  go_upto_region 1 with fail
  generalize hW1 : World.alloc w _ = W1
  obtain ⟨b0, hb0⟩ : ∃ b0, w.heap.size = b0 := ⟨_, rfl⟩
  have k1 : Below w.heap.size w W1 := by rw [← hW1]; exact ba1 _ _
  have S1 := Lib.hid (⟨by rw [← hW1, ← hb0]; exact atW_boxed _ _ _, thruS hO HS.out k1, k1⟩ : AtW W1 b0 x ∧ S W1 F p fs ∧ Below w.heap.size w W1)
  rw [hb0]
  clear hW1 hb0 k1
  obtain ⟨c0, c1, c2, c3, c4, c5, c6⟩ := S1.out.1
  cases v with
  | false =>
    have hz2 : clearS fs x.c x.y = z := by simpa using hz
    have HC := Lib.hid (fun w1 (k : S w1 F p fs) => by have := HCl.out w1 x.y k; rw [hz2] at this; exact this)
    clear hz hz2
    go_upto_region 5 with (first
      | (go_at_call 92; refine (HLa.out _ S1.out.2.1).mono ?_; rintro e w2 ⟨rfl, k2⟩; have S2 := Lib.hid (⟨S1.out.1.below k2, thruS hO S1.out.2.1 k2, thru S1.out.2.2 k2⟩ : AtW w2 b0 x ∧ S w2 F p fs ∧ Below w.heap.size w w2); clear k2))
    clear c0 c1 c2 c3 c4 c5 c6
    obtain ⟨c0, c1, c2, c3, c4, c5, c6⟩ := S2.out.1
    go_wp2_with (first
      | (go_at_call 93; refine (HC.out _ S2.out.2.1).mono ?_; rintro e w3 ⟨rfl, k3⟩; have K3 := Lib.hid (thru S2.out.2.2 k3); clear k3))
    go_ret
    exact ⟨rfl, K3.out⟩
  | true =>
    have hz2 : clearS fs x.c (max x.y la) = z := by simpa using hz
    obtain ⟨m, hm⟩ : ∃ m, max x.y la = m := ⟨_, rfl⟩
    rw [hm] at hz2
    have HC := Lib.hid (fun w1 (k : S w1 F p fs) => by have := HCl.out w1 m k; rw [hz2] at this; exact this)
    clear hz hz2
    by_cases g : x.y < la
    · have e : m = la := by omega
      subst e
      clear hm
      go_upto_region 5 with (first
        | (go_at_call 92; refine (HLa.out _ S1.out.2.1).mono ?_; rintro e w2 ⟨rfl, k2⟩; have S2 := Lib.hid (⟨S1.out.1.below k2, thruS hO S1.out.2.1 k2, thru S1.out.2.2 k2⟩ : AtW w2 b0 x ∧ S w2 F p fs ∧ Below w.heap.size w w2); clear k2))
      clear c0 c1 c2 c3 c4 c5 c6
      obtain ⟨c0, c1, c2, c3, c4, c5, c6⟩ := S2.out.1
      go_wp2_with (first
        | (go_at_call 93; refine (HC.out _ S2.out.2.1).mono ?_; rintro e w3 ⟨rfl, k3⟩; have K3 := Lib.hid (thru S2.out.2.2 k3); clear k3))
      go_ret
      exact ⟨rfl, K3.out⟩
    · have e : m = x.y := by omega
      subst e
      clear hm
      go_upto_region 5 with (first
        | (go_at_call 92; refine (HLa.out _ S1.out.2.1).mono ?_; rintro e w2 ⟨rfl, k2⟩; have S2 := Lib.hid (⟨S1.out.1.below k2, thruS hO S1.out.2.1 k2, thru S1.out.2.2 k2⟩ : AtW w2 b0 x ∧ S w2 F p fs ∧ Below w.heap.size w w2); clear k2))
      clear c0 c1 c2 c3 c4 c5 c6
      obtain ⟨c0, c1, c2, c3, c4, c5, c6⟩ := S2.out.1
      go_wp2_with (first
        | (go_at_call 93; refine (HC.out _ S2.out.2.1).mono ?_; rintro e w3 ⟨rfl, k3⟩; have K3 := Lib.hid (thru S2.out.2.2 k3); clear k3))
      go_ret
      exact ⟨rfl, K3.out⟩

end

end Go.Proofs.YtdibdfalahjmbaaGreat.Place

namespace Go.Proofs.YtdibdfalahjmbaaGreat.Place

open Go.RowKit Go.Sort Go.Proofs.YtdibdfalahjmbaaGreat.Rect Go.Proofs.YtdibdfalahjmbaaGreat.More Go.Proofs.YtdibdfalahjmbaaGreat.Shelf Go.Proofs.YtdibdfalahjmbaaGreat.Space

set_option linter.unusedVariables false

set_option linter.unusedSimpArgs false

def lastAt (fs : List Fl) (x : Wt) (pre : List Int) : Int := match pre.getLast? with
  | some z => atQ fs (flat x) z
  | none => 0

theorem lastAt_snoc (fs : List Fl) (x : Wt) (pre : List Int) (z : Int) : lastAt fs x (pre ++ [z]) = atQ fs (flat x) z := by
  unfold lastAt
  rw [List.getLast?_append]
  rfl

theorem lastAt_found {fs : List Fl} {x : Wt} (h49 : fs.all near49 = true) (hr : RightW x) : lastAt fs x (askL (okQ fs (flat x)) (topsD fs (startQ fs x))) = findX fs x := by
  have hat := atD_at (okQ fs (flat x)) fs (startQ fs x)
  unfold askL
  rw [List.take_add_one, hat]
  show lastAt fs x (_ ++ [findY fs x]) = _
  rw [lastAt_snoc]
  have hf := find_is h49 hr
  unfold atQ
  rw [if_pos (by rw [← ok_flat hf.1]; exact hf.2.1)]
  rfl

abbrev Zero4' (w : World) (g : Nat) (T : TypeId) : Prop := w.heap[g]? = some (.cells #[.int .i64 0, .int .i64 0, .int .i64 0, .int .i64 0] T)

section

variable {S : World → (Nat → Prop) → Addr → List Fl → Prop}

set_option maxRecDepth 100000 in
set_option maxHeartbeats 600000 in
theorem pfc_any (hO : SpaceOk S) (b0 b3 b4 : Nat) (F : Nat → Prop) (p : Addr) (fs : List Fl) (x : Wt) (z l : Int) (w : World) (h : S w F p fs) (h49 : fs.all near49 = true) (hr : RightW x) (hz : inS z = true)
    (e0 : w.cell? ⟨b0, 0, none⟩ = some (.pointer (some p))) (e3 : AtW w b3 x) (e4 : w.cell? ⟨b4, 0, none⟩ = some (.int .i64 l)) (f4 : w.frozen? ⟨b4, 0, none⟩ = false) :
    Calls Tryz.prog 79 (#[.int .i64 z] ++ #[.pointer (some ⟨b0, 0, none⟩), .pointer (some ⟨b3, 0, none⟩), .pointer (some ⟨b4, 0, none⟩)]) w fun e w' => e = .returned (.bool (okQ fs x z)) ∧ ∃ w2, Below w.heap.size w w2 ∧ w' = w2.setCell ⟨b4, 0, none⟩ (.int .i64 (atQ fs x z)) := by
  have hz2 := inS_iff.1 hz
  have HAt := Lib.hid (pat_any hO w F p fs x z h h49 hr ⟨by omega, by omega⟩)
  generalize okQ fs x z = v at *
  generalize atQ fs x z = at' at *
  obtain ⟨c0, c1, c2, c3, c4, c5, c6⟩ := e3
  have H4 := Lib.hid (⟨e4, f4⟩ : w.cell? ⟨b4, 0, none⟩ = some (.int .i64 l) ∧ w.frozen? ⟨b4, 0, none⟩ = false)
  clear h h49 hr hz hz2 e4 f4
  go_enter Tryz.func79, Tryz.ntmps79
  go_upto_region 2 with (first
    | (go_at_call 80; refine HAt.out.mono ?_; rintro e w1 ⟨rfl, k1⟩; have K1 := Lib.hid k1; clear k1))
  clear e0 c0 c1 c2 c3 c4 c5 c6
  have g4 := (K1.out.cell (p := ⟨b4, 0, none⟩) (block_lt_of_cell H4.out.1)).trans H4.out.1
  have g5 := (K1.out.frozen (p := ⟨b4, 0, none⟩) (block_lt_of_cell H4.out.1)).trans H4.out.2
  go_wp2_with fail
  go_ret
  exact ⟨rfl, w1, K1.out, rfl⟩

def Asks (w : World) (b0 b1 b2 b3 b4 : Nat) (p : Addr) (fs : List Fl) (x : Wt) (wr : World) (pre : List Int) : Prop :=
  Below w.heap.size w wr ∧ wr.cell? ⟨b0, 0, none⟩ = some (.pointer (some p)) ∧ AtW wr b1 x ∧ Zero4' wr b2 42 ∧ AtW wr b3 (flat x) ∧ wr.cell? ⟨b4, 0, none⟩ = some (.int .i64 (lastAt fs x pre)) ∧ wr.frozen? ⟨b4, 0, none⟩ = false

theorem asks_below {w : World} {b0 b1 b2 b3 b4 : Nat} {p : Addr} {fs : List Fl} {x : Wt} {wr w' : World} {pre : List Int} (h : Asks w b0 b1 b2 b3 b4 p fs x wr pre) (k : Below wr.heap.size wr w') : Asks w b0 b1 b2 b3 b4 p fs x w' pre := by
  obtain ⟨h1, h2, h3, h4, h5, h6, h7⟩ := h
  exact ⟨thru h1 k, (k.cell (p := ⟨b0, 0, none⟩) (block_lt_of_cell h2)).trans h2, h3.below k, (k.block b2 (lt_of_block h4)).trans h4, h5.below k, (k.cell (p := ⟨b4, 0, none⟩) (block_lt_of_cell h6)).trans h6, (k.frozen (p := ⟨b4, 0, none⟩) (block_lt_of_cell h6)).trans h7⟩

theorem atW_set {w : World} {b b4 : Nat} {x : Wt} {v : Value} (h : AtW w b x) (hne : b ≠ b4) : AtW (w.setCell ⟨b4, 0, none⟩ v) b x := by
  have e : ∀ o, (w.setCell ⟨b4, 0, none⟩ v).cell? ⟨b, o, none⟩ = w.cell? ⟨b, o, none⟩ := fun o => World.cell?_of_block (a := ⟨b, o, none⟩) (Below.heap_setCell _ _ _ _ hne)
  unfold AtW at *
  simp only [e]
  exact h

theorem asks_set {w : World} {b0 b1 b2 b3 b4 : Nat} {p : Addr} {fs : List Fl} {x : Wt} {wr : World} {pre : List Int} (h : Asks w b0 b1 b2 b3 b4 p fs x wr pre) (z : Int) (hw : w.heap.size ≤ b4) (n0 : b0 ≠ b4) (n1 : b1 ≠ b4) (n2 : b2 ≠ b4) (n3 : b3 ≠ b4) :
    Asks w b0 b1 b2 b3 b4 p fs x (wr.setCell ⟨b4, 0, none⟩ (.int .i64 (atQ fs (flat x) z))) (pre ++ [z]) := by
  obtain ⟨h1, h2, h3, h4, h5, h6, h7⟩ := h
  refine ⟨h1.setCell (p := ⟨b4, 0, none⟩) hw _, (World.cell?_of_block (a := ⟨b0, 0, none⟩) (Below.heap_setCell _ _ _ _ n0)).trans h2, atW_set h3 n1, (Below.heap_setCell _ _ _ _ n2).trans h4, atW_set h5 n3, ?_, by rw [World.frozen?_setCell]; exact h7⟩
  rw [lastAt_snoc]
  exact World.cell?_setCell_same _ _ _ h6

abbrev rowW (W : World) (x : Wt) : World := (W.alloc (.cells #[.int .i64 x.s, .int .i64 x.c, .int .i64 x.f, .int .i64 x.t, .int .i64 x.wd, .int .i64 1, .int .i64 x.y] 125)).alloc (.cells #[.int .i64 0] 3)

theorem row_made (W : World) (x : Wt) : Below W.heap.size W (rowW W x) ∧ AtW (rowW W x) W.heap.size (flat x) ∧ (rowW W x).cell? ⟨W.heap.size + 1, 0, none⟩ = some (.int .i64 0) ∧ (rowW W x).frozen? ⟨W.heap.size + 1, 0, none⟩ = false ∧ (rowW W x).heap.size = W.heap.size + 1 + 1 := by
  refine ⟨ba2 _ _ _, ⟨?_, ?_, ?_, ?_, ?_, ?_, ?_⟩, ?_, ?_, ?_⟩ <;> simp [go_sem, flat]

set_option maxRecDepth 100000 in
set_option maxHeartbeats 1000000 in
theorem pfind_any (hO : SpaceOk S) (w : World) (F : Nat → Prop) (p : Addr) (fs : List Fl) (x : Wt) (h : S w F p fs) (h49 : fs.all near49 = true) (hr : RightW x) :
    Calls Tryz.prog 67 #[.pointer (some p), x.v] w fun r w' => r = .returned (.agg #[.int .i64 (findX fs x), .int .i64 (findY fs x), .int .i64 (findX fs x + x.wd), .int .i64 (findY fs x + x.ht)]) ∧ Below w.heap.size w w' := by
  have HSt := Lib.hid (fun w1 (k : S w1 F p fs) => pstart_any hO w1 F p fs x k h49 hr)
  have hst := startQ_49 h49 hr
  have HFi := Lib.hid (fun w1 b0 b1 b2 b3 b4 (k : S w1 F p fs) (hk : Asks w b0 b1 b2 b3 b4 p fs x w1 []) (hw : w.heap.size ≤ b4) (n0 : b0 ≠ b4) (n1 : b1 ≠ b4) (n2 : b2 ≠ b4) (n3 : b3 ≠ b4) =>
    hO.first w1 F p fs (startQ fs x) 79 #[.pointer (some ⟨b0, 0, none⟩), .pointer (some ⟨b3, 0, none⟩), .pointer (some ⟨b4, 0, none⟩)] (okQ fs (flat x)) (Asks w b0 b1 b2 b3 b4 p fs x) k (near49_near h49) (inS_iff.2 ⟨by omega, by omega⟩)
      (enters_of Tryz.func79 (by kernel_rfl) rfl) hk (fun w1 w2 pre q1 q2 => asks_below q1 q2)
      (fun w1 pre z hs hk hz hl => (pfc_any hO b0 b3 b4 F p fs (flat x) z _ w1 hs h49 (right_flat hr) hz hk.2.1 hk.2.2.2.2.1 hk.2.2.2.2.2.1 hk.2.2.2.2.2.2).mono (by
        rintro e w' ⟨rfl, w2, k2, rfl⟩
        refine ⟨rfl, hO.keep _ _ _ (fun j => j = b4) _ _ (thruS hO hs k2) (But.set b4 0 _ rfl) (fun j hj e => ?_), asks_set (asks_below hk k2) z hw n0 n1 n2 n3⟩
        have := hO.lt _ _ _ _ h j hj
        omega)))
  have hla := lastAt_found h49 hr
  rw [show atD (okQ fs (flat x)) (topsD fs (startQ fs x)) = findY fs x from rfl] at HFi
  have hf := find_49 h49 hr
  have hfy := findY_49 h49 hr
  obtain ⟨f1, f2, t1, t2, wd1, wd2, ht1, ht2, y1, y2, sd, cl, ft⟩ := hr
  have hw1 : IntKind.i64.wrap (findX fs x + x.wd) = findX fs x + x.wd := IntWalk.i64_in _ (by omega)
  have hw2 : IntKind.i64.wrap (findY fs x + x.ht) = findY fs x + x.ht := IntWalk.i64_in _ (by omega)
  have HW := Lib.hid (⟨hw1, hw2⟩ : IntKind.i64.wrap (findX fs x + x.wd) = findX fs x + x.wd ∧ IntKind.i64.wrap (findY fs x + x.ht) = findY fs x + x.ht)
  have HLA := Lib.hid hla
  generalize hst0 : startQ fs x = st at *
  generalize askL (okQ fs (flat x)) (topsD fs st) = asked at *
  generalize findX fs x = fx at *
  generalize findY fs x = fy at *
  have HS := Lib.hid h
  clear h h49 hst hla hf hfy f1 f2 t1 t2 wd1 wd2 ht1 ht2 y1 y2 sd cl ft hw1 hw2 hst0
  go_enter Tryz.func67, Tryz.ntmps67
  go_upto_region 1 with fail
  generalize hW1 : World.alloc w _ = W1
  obtain ⟨b0, hb0⟩ : ∃ b0, w.heap.size = b0 := ⟨_, rfl⟩
  have k1 : Below w.heap.size w W1 := by rw [← hW1]; exact ba1 _ _
  have s1 : W1.heap.size = b0 + 1 := by rw [← hW1, ← hb0]; simp
  have e1 : W1.cell? ⟨b0, 0, none⟩ = some (.pointer (some p)) := by rw [← hW1, ← hb0]; simp [go_sem]
  clear hW1
  generalize hW2 : World.alloc W1 _ = W2
  have k2 : Below W1.heap.size W1 W2 := by rw [← hW2]; exact ba1 _ _
  have s2 : W2.heap.size = b0 + 1 + 1 := by rw [← hW2, ← s1]; simp
  have a2 : AtW W2 (b0 + 1) x := by rw [← hW2, ← s1]; exact atW_boxed _ _ _
  clear hW2
  generalize hW3 : World.alloc W2 _ = W3
  have k3 : Below W2.heap.size W2 W3 := by rw [← hW3]; exact ba1 _ _
  have s3 : W3.heap.size = b0 + 1 + 1 + 1 := by rw [← hW3, ← s2]; simp
  have z3 : Zero4' W3 (b0 + 1 + 1) 42 := by rw [← hW3, ← s2]; exact heap_alloc_new W2 _
  clear hW3
  rw [hb0]
  obtain ⟨b1, hb1⟩ : ∃ b1, b0 + 1 = b1 := ⟨_, rfl⟩
  rw [hb1] at s1 s2 s3 a2 z3
  rw [hb1]
  obtain ⟨b2, hb2⟩ : ∃ b2, b1 + 1 = b2 := ⟨_, rfl⟩
  rw [hb2] at s2 s3 z3
  rw [hb2]
  have S3 := Lib.hid (⟨thru (thru k1 k2) k3, (k3.cell (p := ⟨b0, 0, none⟩) (show b0 < W2.heap.size by omega)).trans ((k2.cell (p := ⟨b0, 0, none⟩) (show b0 < W1.heap.size by omega)).trans e1), a2.below k3, z3, s3⟩ : Below w.heap.size w W3 ∧ W3.cell? ⟨b0, 0, none⟩ = some (.pointer (some p)) ∧ AtW W3 b1 x ∧ Zero4' W3 b2 42 ∧ W3.heap.size = b2 + 1)
  have HB := Lib.hid (⟨hb0, hb1, hb2⟩ : w.heap.size = b0 ∧ b0 + 1 = b1 ∧ b1 + 1 = b2)
  clear k1 e1 k2 a2 k3 z3 s1 s2 s3 hb0 hb1 hb2
  obtain ⟨c0, c1, c2, c3, c4, c5, c6⟩ := S3.out.2.2.1
  go_upto_region 3 with fail
  obtain ⟨m1, m2, m3, m4, m5⟩ := row_made W3 x
  generalize hW6 : World.alloc (World.alloc W3 _) _ = W6
  have eW6 : rowW W3 x = W6 := hW6
  rw [eW6] at m1 m2 m3 m4 m5
  clear hW6 eW6
  obtain ⟨b3, hb3⟩ : ∃ b3, W3.heap.size = b3 := ⟨_, rfl⟩
  obtain ⟨b4, hb4⟩ : ∃ b4, b3 + 1 = b4 := ⟨_, rfl⟩
  rw [hb3] at m2 m3 m4 m5
  rw [hb4] at m3 m4 m5
  rw [hb3, hb4]
  have hAsk : Asks w b0 b1 b2 b3 b4 p fs x W6 [] := ⟨thru S3.out.1 m1, (m1.cell (p := ⟨b0, 0, none⟩) (block_lt_of_cell S3.out.2.1)).trans S3.out.2.1, S3.out.2.2.1.below m1, (m1.block b2 (lt_of_block S3.out.2.2.2.1)).trans S3.out.2.2.2.1, m2, m3, m4⟩
  have HC := Lib.hid (fun w' (j : Below W6.heap.size W6 w') => asks_below hAsk j)
  have HS6 := Lib.hid (thruS hO HS.out hAsk.1)
  have HN := Lib.hid (show w.heap.size ≤ b4 ∧ b0 ≠ b4 ∧ b1 ≠ b4 ∧ b2 ≠ b4 ∧ b3 ≠ b4 from by
    obtain ⟨g0, g1, g2⟩ := HB.out
    have g3 := S3.out.2.2.2.2
    omega)
  have HN2 := Lib.hid (show w.heap.size ≤ b2 from by
    obtain ⟨g0, g1, g2⟩ := HB.out
    omega)
  clear m1 m2 m3 m4 m5 hb3 hb4 hAsk c0 c1 c2 c3 c4 c5 c6 S3 HB
  refine Hold.wp_region_hold [.val (.pointer (some p)), .val (.pointer (some p)), .val (x.v), .val (.int .i64 st), .val (.func (.func 79) #[] #[.pointer (some ⟨b0, 0, none⟩), .pointer (some ⟨b3, 0, none⟩), .pointer (some ⟨b4, 0, none⟩)])] (by kernel_rfl) (by kernel_rfl) (by kernel_rfl) ?_ ?_
  · simp only [Hold.fill, Hold.Leave.value]
    refine ⟨?_, ?_, ?_, ?_, ?_, trivial⟩
    · intro gg w' hw hk
      have q0 := (HC.out w' hw).2.1
      go_simp
      exact ⟨rfl, rfl⟩
    · intro gg w' hw hk
      have q0 := (HC.out w' hw).2.1
      go_simp
      exact ⟨rfl, rfl⟩
    · intro gg w' hw hk
      have q0 := (HC.out w' hw).2.2.1.1
      have q1 := (HC.out w' hw).2.2.1.2.1
      have q2 := (HC.out w' hw).2.2.1.2.2.1
      have q3 := (HC.out w' hw).2.2.1.2.2.2.1
      have q4 := (HC.out w' hw).2.2.1.2.2.2.2.1
      have q5 := (HC.out w' hw).2.2.1.2.2.2.2.2.1
      have q6 := (HC.out w' hw).2.2.1.2.2.2.2.2.2
      go_simp
      exact ⟨rfl, rfl⟩
    · intro gg w' hw hk
      go_simp
      exact Hold.stays_call (HSt.out w' (thruS hO HS6.out hw))
    · intro gg w' hw hk
      go_simp
      exact ⟨rfl, rfl⟩
  intro gg w7 k7 hgg
  clear hgg
  simp only [Hold.fill, Hold.Leave.value, List.length_cons, List.length_nil, List.drop_succ_cons, List.drop_zero]
  have HF7 := Lib.hid (HFi.out w7 b0 b1 b2 b3 b4 (thruS hO HS6.out k7) (HC.out w7 k7) HN.out.1 HN.out.2.1 HN.out.2.2.1 HN.out.2.2.2.1 HN.out.2.2.2.2)
  clear k7 HC HFi HSt
  go_upto_region 4 with (first
    | (go_at_call 74; refine HF7.out.mono ?_; rintro e w8 ⟨rfl, hS8, h8⟩; have S8 := Lib.hid h8; clear hS8 h8))
  have h8 := S8.out
  unfold Asks at h8
  rw [HLA.out] at h8
  have T8 := Lib.hid h8
  clear h8 S8
  obtain ⟨-, -, c1, -, -, e4, -⟩ := T8.out
  obtain ⟨-, -, -, -, c4, c5, -⟩ := c1
  obtain ⟨hw1, hw2⟩ := HW.out
  have HO := Lib.hid (fun w' (j : Below w8.heap.size w8 w') => (⟨(j.block b2 (lt_of_block T8.out.2.2.2.1)).trans T8.out.2.2.2.1, thru T8.out.1 j⟩ : Zero4' w' b2 42 ∧ Below w.heap.size w w'))
  have hb2 : w.heap.size ≤ b2 := HN2.out
  go_wp2_with (first
    | (go_at_call 47; refine (rof_any _ _ _ _ _).mono ?_; rintro e w9 ⟨rfl, k9⟩; have T9 := Lib.hid (HO.out _ k9); obtain ⟨r0, r1, r2, r3⟩ := R4.of_block T9.out.1; obtain ⟨q0, q1, q2, q3⟩ := free4 T9.out.1; clear k9 c4 c5 e4))
  exact bodyPost_ret (v := .agg #[.int .i64 fx, .int .i64 fy, .int .i64 (fx + x.wd), .int .i64 (fy + x.ht)]) (by simp [results, Tryz.results67, go_sem, r0, r1, r2, r3]) rfl ⟨rfl, ((((T9.out.2.setCell (p := ⟨b2, 0, none⟩) hb2 _).setCell (p := ⟨b2, 1, none⟩) hb2 _).setCell (p := ⟨b2, 2, none⟩) hb2 _).setCell (p := ⟨b2, 3, none⟩) hb2 _)⟩

set_option maxRecDepth 100000 in
set_option maxHeartbeats 600000 in
theorem pput_any (hO : SpaceOk S) (w : World) (F : Nat → Prop) (p : Addr) (fs : List Fl) (x : Wt) (h : S w F p fs) (hlen : fs.length < 1000) (h49 : fs.all near49 = true) (hr : RightW x) :
    Calls Tryz.prog 48 #[.pointer (some p), x.v] w fun r w' => r = .returned (.agg #[.int .i64 (findX fs x), .int .i64 (findY fs x), .int .i64 (findX fs x + x.wd), .int .i64 (findY fs x + x.ht)]) ∧ (∃ F', S w' F' p (fs ++ [placed fs x]) ∧ ∀ k, F' k → F k ∨ w.heap.size ≤ k) ∧ But F w w' := by
  have HFi := Lib.hid (fun w1 (k : S w1 F p fs) => pfind_any hO w1 F p fs x k h49 hr)
  have HPu := Lib.hid (fun w1 (k : S w1 F p fs) => hO.put w1 F p fs (placed fs x) k hlen (near49_near h49) (placed_near h49 hr) hr.sd)
  unfold placed at HPu ⊢
  generalize findX fs x = fx at *
  generalize findY fs x = fy at *
  generalize fx + x.wd = fr at *
  generalize fy + x.ht = fb at *
  have HS := Lib.hid h
  have HF := Lib.hid (hO.lt _ _ _ _ h)
  clear h hlen h49 hr
  go_enter Tryz.func48, Tryz.ntmps48
  go_upto_region 1 with fail
  generalize hW1 : World.alloc w _ = W1
  obtain ⟨b0, hb0⟩ : ∃ b0, w.heap.size = b0 := ⟨_, rfl⟩
  have k1 : Below w.heap.size w W1 := by rw [← hW1]; exact ba1 _ _
  have s1 : W1.heap.size = b0 + 1 := by rw [← hW1, ← hb0]; simp
  have a1 : AtW W1 b0 x := by rw [← hW1, ← hb0]; exact atW_boxed _ _ _
  clear hW1
  generalize hW2 : World.alloc W1 _ = W2
  have k2 : Below W1.heap.size W1 W2 := by rw [← hW2]; exact ba1 _ _
  have z2 : Zero4' W2 (b0 + 1) 42 := by rw [← hW2, ← s1]; exact heap_alloc_new W1 _
  have s2 : W2.heap.size = b0 + 1 + 1 := by rw [← hW2, ← s1]; simp
  clear hW2
  rw [hb0]
  obtain ⟨b1, hb1⟩ : ∃ b1, b0 + 1 = b1 := ⟨_, rfl⟩
  rw [hb1] at s1 z2 s2
  rw [hb1]
  have S2 := Lib.hid (⟨thru k1 k2, a1.below k2, z2, thruS hO (thruS hO HS.out k1) k2⟩ : Below w.heap.size w W2 ∧ AtW W2 b0 x ∧ Zero4' W2 b1 42 ∧ S W2 F p fs)
  have HB := Lib.hid (show w.heap.size ≤ b0 ∧ w.heap.size ≤ b1 from by omega)
  clear k1 a1 k2 z2 s1 s2 hb0 hb1
  obtain ⟨c0, c1, c2, c3, c4, c5, c6⟩ := S2.out.2.1
  go_upto_region 2 with (first
    | (go_at_call 67; refine (HFi.out _ S2.out.2.2.2).mono ?_; rintro e w3 ⟨rfl, k3⟩; have S3 := Lib.hid (⟨thru S2.out.1 k3, S2.out.2.1.below k3, (k3.block b1 (lt_of_block S2.out.2.2.1)).trans S2.out.2.2.1, thruS hO S2.out.2.2.2 k3⟩ : Below w.heap.size w w3 ∧ AtW w3 b0 x ∧ Zero4' w3 b1 42 ∧ S w3 F p fs); clear k3))
  clear c0 c1 c2 c3 c4 c5 c6
  generalize hW4 : World.alloc w3 _ = W4
  obtain ⟨b2, hb2⟩ : ∃ b2, w3.heap.size = b2 := ⟨_, rfl⟩
  have k4 : Below w3.heap.size w3 W4 := by rw [← hW4]; exact ba1 _ _
  have r4 : R4 W4 b2 fx fy fr fb := by rw [← hW4, ← hb2]; exact R4.of_block (heap_alloc_new w3 _)
  have S4 := Lib.hid (⟨thru S3.out.1 k4, S3.out.2.1.below k4, (k4.block b1 (lt_of_block S3.out.2.2.1)).trans S3.out.2.2.1, thruS hO S3.out.2.2.2 k4, r4, by have := S3.out.1.size; omega⟩ : Below w.heap.size w W4 ∧ AtW W4 b0 x ∧ Zero4' W4 b1 42 ∧ S W4 F p fs ∧ R4 W4 b2 fx fy fr fb ∧ w.heap.size ≤ b2)
  rw [hb2]
  clear hW4 hb2 k4 r4
  obtain ⟨c0, c1, c2, c3, c4, c5, c6⟩ := S4.out.2.1
  obtain ⟨r0, r1, r2, r3⟩ := S4.out.2.2.2.2.1
  have HP4 := Lib.hid (HPu.out _ S4.out.2.2.2.1)
  go_upto_region 3 with (first
    | (go_at_call 27; refine HP4.out.mono ?_; rintro e w5 ⟨⟨v, rfl⟩, ⟨F5, hL5, hF5⟩, k5⟩; have S5 := Lib.hid (⟨⟨F5, hL5, hF5⟩, k5⟩ : (∃ F', S w5 F' p (fs ++ [⟨x.s, fx, fy, fr, fb⟩]) ∧ ∀ k, F' k → F k ∨ W4.heap.size ≤ k) ∧ But F W4 w5); clear hL5 hF5 k5))
  clear c0 c1 c2 c3 c4 c5 c6 r0 r1 r2 r3 HP4 HPu HFi S2 S3
  have hnF : ∀ k, w.heap.size ≤ k → ¬ F k := fun k hk q => by have := HF.out k q; omega
  have hb2l : b2 < W4.heap.size := block_lt_of_cell S4.out.2.2.2.2.1.1
  have hz5 : Zero4' w5 b1 42 := (S5.out.2.block b1 (lt_of_block S4.out.2.2.1) (hnF b1 HB.out.2)).trans S4.out.2.2.1
  have r0 := (S5.out.2.cell (o := 0) hb2l (hnF b2 S4.out.2.2.2.2.2)).trans S4.out.2.2.2.2.1.1
  have r1 := (S5.out.2.cell (o := 1) hb2l (hnF b2 S4.out.2.2.2.2.2)).trans S4.out.2.2.2.2.1.2.1
  have r2 := (S5.out.2.cell (o := 2) hb2l (hnF b2 S4.out.2.2.2.2.2)).trans S4.out.2.2.2.2.1.2.2.1
  have r3 := (S5.out.2.cell (o := 3) hb2l (hnF b2 S4.out.2.2.2.2.2)).trans S4.out.2.2.2.2.1.2.2.2
  obtain ⟨u0, u1, u2, u3⟩ := R4.of_block hz5
  obtain ⟨q0, q1, q2, q3⟩ := free4 hz5
  have HZ5 := Lib.hid hz5
  clear hnF hb2l hz5
  go_wp2_with fail
  have st : ∀ (w' : World) (o : Nat) (v : Value), But (fun j => j = b1) w' (w'.setCell ⟨b1, o, none⟩ v) := fun w' o v => But.set b1 o v rfl
  have hset : But (fun j => j = b1) w5 ((((w5.setCell ⟨b1, 0, none⟩ (.int .i64 fx)).setCell ⟨b1, 1, none⟩ (.int .i64 fy)).setCell ⟨b1, 2, none⟩ (.int .i64 fr)).setCell ⟨b1, 3, none⟩ (.int .i64 fb)) :=
    (((st _ 0 _).trans (st _ 1 _) (fun _ _ h => h)).trans (st _ 2 _) (fun _ _ h => h)).trans (st _ 3 _) (fun _ _ h => h)
  obtain ⟨⟨F5, hL5, hF5⟩, k5⟩ := S5.out
  refine bodyPost_ret (v := .agg #[.int .i64 fx, .int .i64 fy, .int .i64 fr, .int .i64 fb]) (by simp [results, Tryz.results48, go_sem, u0, u1, u2, u3]) rfl ⟨rfl, ⟨F5, hO.keep _ _ _ _ _ _ hL5 hset (fun k hk e => ?_), fun k hk => (hF5 k hk).imp id fun q => Nat.le_trans S4.out.1.size q⟩, ((But.of_below S4.out.1).trans k5 (fun _ _ h => h)).trans hset (fun j hj e => ?_)⟩
  · have h1 := hF5 k hk
    have h2 : b1 < W4.heap.size := lt_of_block S4.out.2.2.1
    have h3 := HB.out.2
    rcases h1 with h1 | h1
    · have := HF.out k h1; omega
    · omega
  · have h3 := HB.out.2
    omega

end

end Go.Proofs.YtdibdfalahjmbaaGreat.Place
