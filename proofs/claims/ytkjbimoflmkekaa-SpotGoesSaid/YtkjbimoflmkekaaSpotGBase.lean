/- A spot as five values; the contracts of the program's small functions on it. -/
import Derived.Test.YtkjbimoflmkekaaSpotGLies
import Derived.Test.YtkjbimoflmkekaaStrutJoin
import Derived.Test.YtkjbimoflmkekaaMoreHoldAll
namespace Go.Proofs.Ytkjbimoflmkekaa.Spot
open Go.RowKit Go.Sort Go.Proofs.Ytkjbimoflmkekaa.Strut Go.Proofs.Ytkjbimoflmkekaa.More
set_option linter.unusedVariables false
set_option linter.unusedSimpArgs false

/-- A spot: how far down, the greatest and the least margin, held, spent. -/
structure Sp where
  y : Int
  p : Int
  q : Int
  h : Bool
  s : Bool
abbrev Sp.v (x : Sp) : Value := .agg #[.int .i64 x.y, .int .i64 x.p, .int .i64 x.q, .bool x.h, .bool x.s]
abbrev sprow (x : Sp) : List Value := [.int .i64 x.y, .int .i64 x.p, .int .i64 x.q, .bool x.h, .bool x.s]
def SAt (w : World) (b : Nat) (x : Sp) : Prop :=
  w.cell? ⟨b, 0, none⟩ = some (.int .i64 x.y) ∧ w.cell? ⟨b, 1, none⟩ = some (.int .i64 x.p) ∧ w.cell? ⟨b, 2, none⟩ = some (.int .i64 x.q) ∧ w.cell? ⟨b, 3, none⟩ = some (.bool x.h) ∧ w.cell? ⟨b, 4, none⟩ = some (.bool x.s)
theorem sat_of {w : World} {b : Nat} {x : Sp} (h : Lies w b (sprow x)) : SAt w b x := ⟨h.at' 0, h.at' 1, h.at' 2, h.at' 3, h.at' 4⟩
def SFr (w : World) (b : Nat) : Prop :=
  w.frozen? ⟨b, 0, none⟩ = false ∧ w.frozen? ⟨b, 1, none⟩ = false ∧ w.frozen? ⟨b, 2, none⟩ = false ∧ w.frozen? ⟨b, 3, none⟩ = false ∧ w.frozen? ⟨b, 4, none⟩ = false
theorem sfr_of {w : World} {b : Nat} {xs : List Value} (h : Lies w b xs) : SFr w b := ⟨h.frz 0, h.frz 1, h.frz 2, h.frz 3, h.frz 4⟩
abbrev zeroSp : Sp := ⟨0, 0, 0, false, false⟩
abbrev atS (x : Sp) : Int := bif x.s then x.y else x.y + (x.p + x.q)
abbrev withS (x : Sp) (m : Int) : Sp := ⟨x.y, max x.p m, min x.q m, x.h, x.s⟩
abbrev fixS (x : Sp) (e : Int) : Sp := ⟨atS x + e, 0, 0, false, false⟩
abbrev passS (x : Sp) (m : Int) : Sp := bif x.s then ⟨x.y - (x.p + x.q), max x.p m, min x.q m, true, false⟩ else withS x m
abbrev belowS (y m : Int) : Sp := ⟨y, max 0 m, min 0 m, false, false⟩
abbrev clearedS (y m : Int) : Sp := ⟨y, max 0 m, min 0 m, false, true⟩

/-- A spot whose numbers are not great. -/
def FineS (x : Sp) : Prop := (-4611686018427387904 ≤ x.y ∧ x.y ≤ 4611686018427387904) ∧ (-1152921504606846976 ≤ x.p ∧ x.p ≤ 1152921504606846976) ∧ (-1152921504606846976 ≤ x.q ∧ x.q ≤ 1152921504606846976)

set_option maxHeartbeats 400000 in
theorem gwith_any (x : Sp) (m : Int) (w : World) :
    Calls Try.prog 9 #[x.v, .int .i64 m] w fun e w' => e = .returned (withS x m).v ∧ Below w.heap.size w w' := by
  obtain ⟨y, p, q, h, s⟩ := x
  go_enter Try.func9, Try.ntmps9
  go_upto_region 1 with fail
  generalize hW : World.alloc _ _ = W
  obtain ⟨b0, hb0⟩ : ∃ b0, w.heap.size = b0 := ⟨_, rfl⟩
  have k1 : Below w.heap.size w W := by rw [← hW]; exact ba2 _ _ _
  have z0 : Lies W b0 (sprow ⟨y, p, q, h, s⟩) := by rw [← hW, ← hb0]; exact (Lies.new w _ _).below (by simp) (ba1 _ _)
  have z1 : Lies W (b0 + 1) (sprow zeroSp) := by rw [← hW, ← hb0]; have := Lies.new (w.alloc (.cells #[.int .i64 y, .int .i64 p, .int .i64 q, .bool h, .bool s] 27)) (sprow zeroSp) 27; simp at this; exact this
  rw [hb0]
  obtain ⟨c0, c1, c2, c3, c4⟩ := sat_of z0
  have K1 := Lib.hid (⟨k1, z0, z1, (by omega : w.heap.size ≤ b0)⟩ : Below w.heap.size w W ∧ Lies W b0 (sprow ⟨y, p, q, h, s⟩) ∧ Lies W (b0 + 1) (sprow zeroSp) ∧ w.heap.size ≤ b0)
  clear hW k1 z0 z1 hb0
  go_wp2_with fail
  refine (with_any _ _ _ _).mono ?_; rintro e w1 ⟨rfl, hb⟩
  have z0 := K1.out.2.1.below (by simp) hb
  have z1 := K1.out.2.2.1.below (by simp) hb
  clear c0 c1 c2 c3 c4
  obtain ⟨c0, c1, c2, c3, c4⟩ := sat_of z0
  obtain ⟨f0, f1, f2, f3, f4⟩ := sfr_of z0
  obtain ⟨d0, d1, d2, d3, d4⟩ := sat_of z1
  obtain ⟨g0, g1, g2, g3, g4⟩ := sfr_of z1
  have K2 := Lib.hid (⟨thru K1.out.1 hb, K1.out.2.2.2⟩ : Below w.heap.size w w1 ∧ w.heap.size ≤ b0)
  clear K1 hb z0 z1
  go_wp2_with fail
  refine bodyPost_ret (v := Sp.v ⟨y, max p m, min q m, h, s⟩) (by simp [results, Try.results9, go_sem, d0, d1, d2, d3, d4]) rfl ⟨rfl, ?_⟩
  have hle := K2.out.2
  repeat refine Below.setCell ?_ (by simp <;> omega) _
  exact K2.out.1

-- the rest is written by gbase.py
set_option maxHeartbeats 400000 in
theorem gat_any (x : Sp) (hx : FineS x) (w : World) :
    Calls Try.prog 20 #[x.v] w fun e w' => e = .returned (.int .i64 (atS x)) ∧ Below w.heap.size w w' := by
  obtain ⟨y, p, q, h, s⟩ := x
  obtain ⟨⟨y1, y2⟩, ⟨p1, p2⟩, q1, q2⟩ := hx
  dsimp only at y1 y2 p1 p2 q1 q2
  have hwr : IntKind.i64.wrap (y + (p + q)) = y + (p + q) := IntWalk.i64_in _ (by omega)
  go_enter Try.func20, Try.ntmps20
  cases s with
  | true =>
    go_wp2_with fail
    go_ret
    exact ⟨rfl, ba1 _ _⟩
  | false =>
    go_upto_region 3 with fail
    generalize hW : World.alloc _ _ = W
    obtain ⟨b0, hb0⟩ : ∃ b0, w.heap.size = b0 := ⟨_, rfl⟩
    have k1 : Below w.heap.size w W := by rw [← hW]; exact ba1 _ _
    have z0 : Lies W b0 (sprow ⟨y, p, q, h, false⟩) := by rw [← hW, ← hb0]; exact Lies.new w _ _
    try rw [hb0]
    have K1 := Lib.hid k1
    have HZ := Lib.hid (fun w' (j : Below W.heap.size W w') => z0.below (by simp) j)
    clear hW k1 z0 hb0
    refine Hold.wp_region_hold [.val (.pointer (some ⟨b0, 0, none⟩)), .val (.int .i64 y), .val (.pointer (some ⟨b0, 1, none⟩)), .val (.agg #[.int .i64 p, .int .i64 q]), .val (.int .i64 (p + q)), .val (.int .i64 ((y + (p + q))))] (by kernel_rfl) (by kernel_rfl) (by kernel_rfl) ?_ ?_
    · simp only [Hold.fill, Hold.Leave.value]
      refine ⟨?_, ?_, ?_, ?_, ?_, ?_, trivial⟩
      · intro gg w' hw hk
        go_simp
        exact ⟨rfl, rfl⟩
      · intro gg w' hw hk
        have q0 : w'.cell? ⟨b0, 0, none⟩ = some (.int .i64 y) := (HZ.out w' hw).at' 0
        go_simp
        exact ⟨rfl, rfl⟩
      · intro gg w' hw hk
        go_simp
        exact ⟨rfl, rfl⟩
      · intro gg w' hw hk
        have q0 : w'.cell? ⟨b0, 1, none⟩ = some (.int .i64 p) := (HZ.out w' hw).at' 1
        have q1 : w'.cell? ⟨b0, 2, none⟩ = some (.int .i64 q) := (HZ.out w' hw).at' 2
        go_simp
        exact ⟨rfl, rfl⟩
      · intro gg w' hw hk
        go_simp
        exact Hold.stays_call (sum_any p q ⟨p1, p2⟩ ⟨q1, q2⟩ w')
      · intro gg w' hw hk
        go_simp
        exact ⟨rfl, rfl⟩
    intro gg w3 k3 hgg
    clear hgg
    simp only [Hold.fill, Hold.Leave.value, List.length_cons, List.length_nil, List.drop_succ_cons, List.drop_zero]
    go_simp
    go_wp2_with fail
    go_ret
    exact ⟨rfl, thru K1.out k3⟩

theorem atS_b {x : Sp} (hx : FineS x) : -6917529027641081856 ≤ atS x ∧ atS x ≤ 6917529027641081856 := by
  obtain ⟨y, p, q, h, s⟩ := x
  obtain ⟨⟨y1, y2⟩, ⟨p1, p2⟩, q1, q2⟩ := hx
  dsimp only at y1 y2 p1 p2 q1 q2
  unfold atS; cases s <;> simp <;> omega

set_option maxHeartbeats 400000 in
theorem gfix_any (x : Sp) (d : Int) (hx : FineS x) (hd : -1152921504606846976 ≤ d ∧ d ≤ 1152921504606846976) (w : World) :
    Calls Try.prog 11 #[x.v, .int .i64 d] w fun e w' => e = .returned (fixS x d).v ∧ Below w.heap.size w w' := by
  have HA := Lib.hid (fun w1 => gat_any x hx w1)
  obtain ⟨a, ha⟩ : ∃ a, atS x = a := ⟨_, rfl⟩
  have hab : -6917529027641081856 ≤ a ∧ a ≤ 6917529027641081856 := by
    rw [← ha]; exact atS_b hx
  have hwr : IntKind.i64.wrap (a + d) = a + d := IntWalk.i64_in _ (by omega)
  unfold fixS
  rw [ha] at HA ⊢
  obtain ⟨y, p, q, h, s⟩ := x
  clear ha hab hx hd
  go_enter Try.func11, Try.ntmps11
  go_upto_region 1 with fail
  generalize hW : World.alloc _ _ = W
  obtain ⟨b0, hb0⟩ : ∃ b0, w.heap.size = b0 := ⟨_, rfl⟩
  have k1 : Below w.heap.size w W := by rw [← hW]; exact ba2 _ _ _
  have z0 : Lies W b0 (sprow ⟨y, p, q, h, s⟩) := by rw [← hW, ← hb0]; exact (Lies.new w _ _).below (by simp) (ba1 _ _)
  have z1 : Lies W (b0 + 1) (sprow zeroSp) := by rw [← hW, ← hb0]; have := Lies.new (w.alloc (.cells #[.int .i64 y, .int .i64 p, .int .i64 q, .bool h, .bool s] 27)) (sprow zeroSp) 27; simp at this; exact this
  rw [hb0]
  obtain ⟨c0, c1, c2, c3, c4⟩ := sat_of z0
  have K1 := Lib.hid (⟨k1, z1, (by omega : w.heap.size ≤ b0)⟩ : Below w.heap.size w W ∧ Lies W (b0 + 1) (sprow zeroSp) ∧ w.heap.size ≤ b0)
  clear hW k1 z0 z1 hb0
  go_wp2_with fail
  refine (HA.out _).mono ?_; rintro e w1 ⟨rfl, hb⟩
  have z1 := K1.out.2.1.below (by simp) hb
  clear c0 c1 c2 c3 c4
  obtain ⟨d0, d1, d2, d3, d4⟩ := sat_of z1
  obtain ⟨g0, g1, g2, g3, g4⟩ := sfr_of z1
  have K2 := Lib.hid (⟨thru K1.out.1 hb, K1.out.2.2⟩ : Below w.heap.size w w1 ∧ w.heap.size ≤ b0)
  clear K1 hb z1
  go_wp2_with fail
  refine bodyPost_ret (v := Sp.v ⟨a + d, 0, 0, false, false⟩) (by simp [results, Try.results11, go_sem, d0, d1, d2, d3, d4]) rfl ⟨rfl, ?_⟩
  have hle := K2.out.2
  repeat refine Below.setCell ?_ (by simp <;> omega) _
  exact K2.out.1

set_option maxHeartbeats 400000 in
theorem gbelow_any (y m : Int) (w : World) :
    Calls Try.prog 15 #[.int .i64 y, .int .i64 m] w fun e w' => e = .returned (belowS y m).v ∧ Below w.heap.size w w' := by
  go_enter Try.func15, Try.ntmps15
  go_upto_region 1 with fail
  generalize hW : World.alloc _ _ = W
  obtain ⟨b0, hb0⟩ : ∃ b0, w.heap.size = b0 := ⟨_, rfl⟩
  have k1 : Below w.heap.size w W := by rw [← hW]; exact ba1 _ _
  have z1 : Lies W b0 (sprow zeroSp) := by rw [← hW, ← hb0]; exact Lies.new w _ _
  try rw [hb0]
  have K1 := Lib.hid (⟨k1, z1, (by omega : w.heap.size ≤ b0)⟩ : Below w.heap.size w W ∧ Lies W b0 (sprow zeroSp) ∧ w.heap.size ≤ b0)
  clear hW k1 z1 hb0
  go_wp2_with fail
  refine (of_any _ 1 1 [m] _ rfl (by omega) (nums1 W m)).mono ?_; rintro e w1 ⟨rfl, hb⟩
  have hb2 := thru (ba1 W _) hb
  have z1 := K1.out.2.1.below (by simp) hb2
  obtain ⟨d0, d1, d2, d3, d4⟩ := sat_of z1
  obtain ⟨g0, g1, g2, g3, g4⟩ := sfr_of z1
  have K2 := Lib.hid (⟨thru K1.out.1 hb2, K1.out.2.2⟩ : Below w.heap.size w w1 ∧ w.heap.size ≤ b0)
  clear K1 hb hb2 z1
  go_wp2_with fail
  refine bodyPost_ret (v := Sp.v ⟨y, Strut.mostOf [m], Strut.leastOf [m], false, false⟩) (by simp [results, Try.results15, go_sem, d0, d1, d2, d3, d4]) rfl ⟨rfl, ?_⟩
  have hle := K2.out.2
  repeat refine Below.setCell ?_ (by simp <;> omega) _
  exact K2.out.1

set_option maxHeartbeats 400000 in
theorem gcleared_any (y m : Int) (w : World) :
    Calls Try.prog 17 #[.int .i64 y, .int .i64 m] w fun e w' => e = .returned (clearedS y m).v ∧ Below w.heap.size w w' := by
  go_enter Try.func17, Try.ntmps17
  go_upto_region 1 with fail
  generalize hW : World.alloc _ _ = W
  obtain ⟨b0, hb0⟩ : ∃ b0, w.heap.size = b0 := ⟨_, rfl⟩
  have k1 : Below w.heap.size w W := by rw [← hW]; exact ba1 _ _
  have z1 : Lies W b0 (sprow zeroSp) := by rw [← hW, ← hb0]; exact Lies.new w _ _
  try rw [hb0]
  have K1 := Lib.hid (⟨k1, z1, (by omega : w.heap.size ≤ b0)⟩ : Below w.heap.size w W ∧ Lies W b0 (sprow zeroSp) ∧ w.heap.size ≤ b0)
  clear hW k1 z1 hb0
  go_wp2_with fail
  refine (of_any _ 1 1 [m] _ rfl (by omega) (nums1 W m)).mono ?_; rintro e w1 ⟨rfl, hb⟩
  have hb2 := thru (ba1 W _) hb
  have z1 := K1.out.2.1.below (by simp) hb2
  obtain ⟨d0, d1, d2, d3, d4⟩ := sat_of z1
  obtain ⟨g0, g1, g2, g3, g4⟩ := sfr_of z1
  have K2 := Lib.hid (⟨thru K1.out.1 hb2, K1.out.2.2⟩ : Below w.heap.size w w1 ∧ w.heap.size ≤ b0)
  clear K1 hb hb2 z1
  go_wp2_with fail
  refine bodyPost_ret (v := Sp.v ⟨y, Strut.mostOf [m], Strut.leastOf [m], false, true⟩) (by simp [results, Try.results17, go_sem, d0, d1, d2, d3, d4]) rfl ⟨rfl, ?_⟩
  have hle := K2.out.2
  repeat refine Below.setCell ?_ (by simp <;> omega) _
  exact K2.out.1

set_option maxHeartbeats 400000 in
theorem gpass_no (y p q : Int) (h : Bool) (m : Int) (hx : FineS ⟨y, p, q, h, false⟩) (w : World) :
    Calls Try.prog 13 #[Sp.v ⟨y, p, q, h, false⟩, .int .i64 m] w fun e w' => e = .returned (withS ⟨y, p, q, h, false⟩ m).v ∧ Below w.heap.size w w' := by
  obtain ⟨⟨y1, y2⟩, ⟨p1, p2⟩, q1, q2⟩ := hx
  dsimp only at y1 y2 p1 p2 q1 q2
  have hwr : IntKind.i64.wrap (y - (p + q)) = y - (p + q) := IntWalk.i64_in _ (by omega)
  go_enter Try.func13, Try.ntmps13
  go_upto_region 1 with fail
  generalize hW : World.alloc _ _ = W
  obtain ⟨b0, hb0⟩ : ∃ b0, w.heap.size = b0 := ⟨_, rfl⟩
  have k1 : Below w.heap.size w W := by rw [← hW]; exact ba2 _ _ _
  have z0 : Lies W b0 (sprow ⟨y, p, q, h, false⟩) := by rw [← hW, ← hb0]; exact (Lies.new w _ _).below (by simp) (ba1 _ _)
  have z1 : Lies W (b0 + 1) (sprow zeroSp) := by rw [← hW, ← hb0]; have := Lies.new (w.alloc (.cells #[.int .i64 y, .int .i64 p, .int .i64 q, .bool h, .bool false] 27)) (sprow zeroSp) 27; simp at this; exact this
  rw [hb0]
  obtain ⟨c0, c1, c2, c3, c4⟩ := sat_of z0
  have K1 := Lib.hid (⟨k1, z0, z1, (by omega : w.heap.size ≤ b0)⟩ : Below w.heap.size w W ∧ Lies W b0 (sprow ⟨y, p, q, h, false⟩) ∧ Lies W (b0 + 1) (sprow zeroSp) ∧ w.heap.size ≤ b0)
  clear hW k1 z0 z1 hb0
  have K1' := Lib.hid (⟨K1.out.1, K1.out.2.2⟩ : Below w.heap.size w W ∧ Lies W (b0 + 1) (sprow zeroSp) ∧ w.heap.size ≤ b0)
  clear K1
  go_wp2_with fail
  refine (gwith_any ⟨y, p, q, h, false⟩ m _).mono ?_; rintro e w5 ⟨rfl, hb5⟩
  have z1 := K1'.out.2.1.below (by simp) hb5
  obtain ⟨d0, d1, d2, d3, d4⟩ := sat_of z1
  obtain ⟨g0, g1, g2, g3, g4⟩ := sfr_of z1
  have K5 := Lib.hid (⟨thru K1'.out.1 hb5, K1'.out.2.2⟩ : Below w.heap.size w w5 ∧ w.heap.size ≤ b0)
  clear K1' hb5 z1 c0 c1 c2 c3 c4
  go_wp2_with fail
  refine bodyPost_ret (v := (withS ⟨y, p, q, h, false⟩ m).v) (by simp [results, Try.results13, go_sem, d0, d1, d2, d3, d4]) rfl ⟨rfl, ?_⟩
  have hle := K5.out.2
  repeat refine Below.setCell ?_ (by simp <;> omega) _
  exact K5.out.1

set_option maxHeartbeats 800000 in
theorem gpass_yes (y p q : Int) (h : Bool) (m : Int) (hx : FineS ⟨y, p, q, h, true⟩) (w : World) :
    Calls Try.prog 13 #[Sp.v ⟨y, p, q, h, true⟩, .int .i64 m] w fun e w' => e = .returned (withS ⟨y - (p + q), p, q, true, false⟩ m).v ∧ Below w.heap.size w w' := by
  obtain ⟨⟨y1, y2⟩, ⟨p1, p2⟩, q1, q2⟩ := hx
  dsimp only at y1 y2 p1 p2 q1 q2
  have hwr : IntKind.i64.wrap (y - (p + q)) = y - (p + q) := IntWalk.i64_in _ (by omega)
  go_enter Try.func13, Try.ntmps13
  go_upto_region 1 with fail
  generalize hW : World.alloc _ _ = W
  obtain ⟨b0, hb0⟩ : ∃ b0, w.heap.size = b0 := ⟨_, rfl⟩
  have k1 : Below w.heap.size w W := by rw [← hW]; exact ba2 _ _ _
  have z0 : Lies W b0 (sprow ⟨y, p, q, h, true⟩) := by rw [← hW, ← hb0]; exact (Lies.new w _ _).below (by simp) (ba1 _ _)
  have z1 : Lies W (b0 + 1) (sprow zeroSp) := by rw [← hW, ← hb0]; have := Lies.new (w.alloc (.cells #[.int .i64 y, .int .i64 p, .int .i64 q, .bool h, .bool true] 27)) (sprow zeroSp) 27; simp at this; exact this
  rw [hb0]
  obtain ⟨c0, c1, c2, c3, c4⟩ := sat_of z0
  have K1 := Lib.hid (⟨k1, z0, z1, (by omega : w.heap.size ≤ b0)⟩ : Below w.heap.size w W ∧ Lies W b0 (sprow ⟨y, p, q, h, true⟩) ∧ Lies W (b0 + 1) (sprow zeroSp) ∧ w.heap.size ≤ b0)
  clear hW k1 z0 z1 hb0
  go_upto_region 2 with fail
  have HZ := Lib.hid (fun w' (j : Below W.heap.size W w') => K1.out.2.1.below (by simp) j)
  clear c0 c1 c2 c3 c4
  refine Hold.wp_region_hold [.val (.pointer (some ⟨b0, 0, none⟩)), .val (.int .i64 y), .val (.pointer (some ⟨b0, 1, none⟩)), .val (.agg #[.int .i64 p, .int .i64 q]), .val (.int .i64 (p + q)), .val (.int .i64 ((y - (p + q))))] (by kernel_rfl) (by kernel_rfl) (by kernel_rfl) ?_ ?_
  · simp only [Hold.fill, Hold.Leave.value]
    refine ⟨?_, ?_, ?_, ?_, ?_, ?_, trivial⟩
    · intro gg w' hw hk
      go_simp
      exact ⟨rfl, rfl⟩
    · intro gg w' hw hk
      have q0 : w'.cell? ⟨b0, 0, none⟩ = some (.int .i64 y) := (HZ.out w' hw).at' 0
      go_simp
      exact ⟨rfl, rfl⟩
    · intro gg w' hw hk
      go_simp
      exact ⟨rfl, rfl⟩
    · intro gg w' hw hk
      have q0 : w'.cell? ⟨b0, 1, none⟩ = some (.int .i64 p) := (HZ.out w' hw).at' 1
      have q1 : w'.cell? ⟨b0, 2, none⟩ = some (.int .i64 q) := (HZ.out w' hw).at' 2
      go_simp
      exact ⟨rfl, rfl⟩
    · intro gg w' hw hk
      go_simp
      exact Hold.stays_call (sum_any p q ⟨p1, p2⟩ ⟨q1, q2⟩ w')
    · intro gg w' hw hk
      go_simp
      exact ⟨rfl, rfl⟩
  intro gg w3 k3 hgg
  clear hgg
  simp only [Hold.fill, Hold.Leave.value, List.length_cons, List.length_nil, List.drop_succ_cons, List.drop_zero]
  have x0 := HZ.out w3 k3
  have x1 := K1.out.2.2.1.below (by simp) k3
  have hle := K1.out.2.2.2
  have x0' := ((x0.set 0 (.int .i64 (y - (p + q))) (by simp)).set 2 (.bool true) (by simp)).set 3 (.bool false) (by simp)
  obtain ⟨c0, c1, c2, c3, c4⟩ := sat_of x0
  obtain ⟨f0, f1, f2, f3, f4⟩ := sfr_of x0
  have K3 := Lib.hid (⟨thru K1.out.1 k3, x0, x1, hle⟩ : Below w.heap.size w w3 ∧ Lies w3 b0 (sprow ⟨y, p, q, h, true⟩) ∧ Lies w3 (b0 + 1) (sprow zeroSp) ∧ w.heap.size ≤ b0)
  clear x0 x1 hle x0' HZ k3 K1
  go_simp
  go_upto_region 4 with fail
  generalize hV : World.setCell (World.setCell (World.setCell w3 _ _) _ _) _ _ = V
  have kV : Below w.heap.size w V := by
    rw [← hV]
    have hle := K3.out.2.2.2
    repeat refine Below.setCell ?_ (by simp <;> omega) _
    exact K3.out.1
  have z0 : Lies V b0 (sprow ⟨y - (p + q), p, q, true, false⟩) := by
    rw [← hV]; exact ((K3.out.2.1.set 0 (.int .i64 (y - (p + q))) (by simp)).set 3 (.bool true) (by simp)).set 4 (.bool false) (by simp)
  have z1 : Lies V (b0 + 1) (sprow zeroSp) := by
    rw [← hV]
    exact K3.out.2.2.1.save (by simp) (((Save.set b0 0 _).onto 3 _).onto 4 _) (by omega)
  have KV := Lib.hid (⟨kV, z1, K3.out.2.2.2⟩ : Below w.heap.size w V ∧ Lies V (b0 + 1) (sprow zeroSp) ∧ w.heap.size ≤ b0)
  clear c0 c1 c2 c3 c4 f0 f1 f2 f3 f4 hV kV z1 K3
  obtain ⟨c0, c1, c2, c3, c4⟩ := sat_of z0
  clear z0
  go_wp2_with fail
  refine (gwith_any ⟨y - (p + q), p, q, true, false⟩ m _).mono ?_; rintro e w5 ⟨rfl, hb5⟩
  have z1 := KV.out.2.1.below (by simp) hb5
  obtain ⟨d0, d1, d2, d3, d4⟩ := sat_of z1
  obtain ⟨g0, g1, g2, g3, g4⟩ := sfr_of z1
  have K5 := Lib.hid (⟨thru KV.out.1 hb5, KV.out.2.2⟩ : Below w.heap.size w w5 ∧ w.heap.size ≤ b0)
  clear KV hb5 z1 c0 c1 c2 c3 c4
  go_wp2_with fail
  refine bodyPost_ret (v := (withS ⟨y - (p + q), p, q, true, false⟩ m).v) (by simp [results, Try.results13, go_sem, d0, d1, d2, d3, d4]) rfl ⟨rfl, ?_⟩
  have hle := K5.out.2
  repeat refine Below.setCell ?_ (by simp <;> omega) _
  exact K5.out.1

theorem gpass_any (x : Sp) (m : Int) (hx : FineS x) (w : World) :
    Calls Try.prog 13 #[x.v, .int .i64 m] w fun e w' => e = .returned (passS x m).v ∧ Below w.heap.size w w' := by
  obtain ⟨y, p, q, h, s⟩ := x
  cases s with
  | false => exact gpass_no y p q h m hx w
  | true => exact gpass_yes y p q h m hx w

end Go.Proofs.Ytkjbimoflmkekaa.Spot
