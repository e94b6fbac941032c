/- The document's spots (margins in a list of one's own): the contracts of its functions. -/
import Derived.Test.YtkjbimoflmkekaaSpotGBase
namespace Go.Proofs.Ytkjbimoflmkekaa.Spot
open Go.RowKit Go.Sort Go.Proofs.Ytkjbimoflmkekaa.Strut Go.Proofs.Ytkjbimoflmkekaa.More
set_option linter.unusedVariables false
set_option linter.unusedSimpArgs false

/-- A document's spot. -/
structure Rp where
  y : Int
  ms : List Int
  h : Bool
  s : Bool
abbrev rpv (x : Rp) (A : Option Addr) (n c : Nat) : Value := .agg #[.int .i64 x.y, .slice A n c, .bool x.h, .bool x.s]
abbrev rprow (x : Rp) (A : Option Addr) (n c : Nat) : List Value := [.int .i64 x.y, .slice A n c, .bool x.h, .bool x.s]
def RAt (w : World) (b : Nat) (x : Rp) (A : Option Addr) (n c : Nat) : Prop :=
  w.cell? ⟨b, 0, none⟩ = some (.int .i64 x.y) ∧ w.cell? ⟨b, 1, none⟩ = some (.slice A n c) ∧ w.cell? ⟨b, 2, none⟩ = some (.bool x.h) ∧ w.cell? ⟨b, 3, none⟩ = some (.bool x.s)
theorem rat_of {w : World} {b : Nat} {x : Rp} {A : Option Addr} {n c : Nat} (h : Lies w b (rprow x A n c)) : RAt w b x A n c := ⟨h.at' 0, h.at' 1, h.at' 2, h.at' 3⟩
def RFr (w : World) (b : Nat) : Prop :=
  w.frozen? ⟨b, 0, none⟩ = false ∧ w.frozen? ⟨b, 1, none⟩ = false ∧ w.frozen? ⟨b, 2, none⟩ = false ∧ w.frozen? ⟨b, 3, none⟩ = false
theorem rfr_of {w : World} {b : Nat} {xs : List Value} (h : Lies w b xs) : RFr w b := ⟨h.frz 0, h.frz 1, h.frz 2, h.frz 3⟩
/-- What it is as a program's spot. -/
abbrev Rp.sp (x : Rp) : Sp := ⟨x.y, Strut.mostOf x.ms, Strut.leastOf x.ms, x.h, x.s⟩
abbrev zeroRp : Rp := ⟨0, [], false, false⟩
abbrev withR (x : Rp) (m : Int) : Rp := ⟨x.y, x.ms ++ [m], x.h, x.s⟩
abbrev fixR (x : Rp) (d : Int) : Rp := ⟨atS x.sp + d, [], false, false⟩
abbrev passR (x : Rp) (m : Int) : Rp := bif x.s then ⟨x.y - (Strut.mostOf x.ms + Strut.leastOf x.ms), x.ms ++ [m], true, false⟩ else withR x m
abbrev belowR (y m : Int) : Rp := ⟨y, [m], false, false⟩
abbrev clearedR (y m : Int) : Rp := ⟨y, [m], false, true⟩
theorem withR_sp (x : Rp) (m : Int) : (withR x m).sp = withS x.sp m := by
  unfold Rp.sp withS
  simp only [most_append, least_append]
  rw [show Strut.mostOf [m] = max 0 m from rfl, show Strut.leastOf [m] = min 0 m from rfl]
  have h1 := most_zero x.ms
  have h2 := least_zero x.ms
  congr 1 <;> omega
theorem fixR_sp (x : Rp) (d : Int) : (fixR x d).sp = fixS x.sp d := rfl
theorem passR_sp (x : Rp) (m : Int) : (passR x m).sp = passS x.sp m := by
  obtain ⟨y, ms, h, s⟩ := x
  cases s
  · exact withR_sp _ m
  · exact withR_sp ⟨y - (Strut.mostOf ms + Strut.leastOf ms), ms, true, false⟩ m
theorem belowR_sp (y m : Int) : (belowR y m).sp = belowS y m := rfl
theorem clearedR_sp (y m : Int) : (clearedR y m).sp = clearedS y m := rfl

/-- A document's spot as a value, with its margins. -/
def RIn (w : World) (B : Nat) (x : Rp) (A : Option Addr) (n c : Nat) : Prop := Mine w B A n c x.ms
/-- .. whose numbers are not great. -/
def FineR (x : Rp) : Prop := (-4611686018427387904 ≤ x.y ∧ x.y ≤ 4611686018427387904) ∧ x.ms.all inB = true ∧ x.ms.length ≤ 1000
theorem FineR.sp {x : Rp} (h : FineR x) : FineS x.sp := by
  obtain ⟨hy, hm, -⟩ := h
  have hb := Strut.bounds_of x.ms hm
  exact ⟨hy, by show _ ≤ Strut.mostOf x.ms ∧ Strut.mostOf x.ms ≤ _; omega, by show _ ≤ Strut.leastOf x.ms ∧ Strut.leastOf x.ms ≤ _; omega⟩
/-- What a function that answers one leaves. -/
def GivesR (w : World) (x : Rp) (e : Ending) (w' : World) : Prop := (∃ A n c, e = .returned (rpv x A n c) ∧ Mine w' w.heap.size A n c x.ms) ∧ Below w.heap.size w w'

set_option maxRecDepth 100000 in
set_option maxHeartbeats 800000 in
theorem grwith_any (B : Nat) (x : Rp) (A : Option Addr) (n c : Nat) (m : Int) (w : World) (hx : Mine w B A n c x.ms) (hn : x.ms.length ≤ 1000) :
    Calls Try.prog 10 #[rpv x A n c, .int .i64 m] w (GivesR w (withR x m)) := by
  obtain ⟨y, ms, h, s⟩ := x
  have hln := Mine.len hx
  have HM := Lib.hid (fun w' (j : Below w.heap.size w w') => Mine.src (hx.below j))
  have HN := Lib.hid (⟨hn, hln⟩ : ms.length ≤ 1000 ∧ ms.length = n)
  clear hx hn hln
  go_enter Try.func10, Try.ntmps10
  go_upto_region 1 with fail
  generalize hW : World.alloc _ _ = W
  obtain ⟨b0, hb0⟩ : ∃ b0, w.heap.size = b0 := ⟨_, rfl⟩
  have k1 : Below w.heap.size w W := by rw [← hW]; exact ba2 _ _ _
  have z0 : Lies W b0 (rprow ⟨y, ms, h, s⟩ A n c) := by rw [← hW, ← hb0]; exact (Lies.new w _ _).below (by simp) (ba1 _ _)
  have z1 : Lies W (b0 + 1) (rprow zeroRp none 0 0) := by rw [← hW, ← hb0]; have := Lies.new (w.alloc (.cells (rprow ⟨y, ms, h, s⟩ A n c).toArray 30)) (rprow zeroRp none 0 0) 30; simp at this; exact this
  rw [hb0]
  obtain ⟨c0, c1, c2, c3⟩ := rat_of z0
  have K1 := Lib.hid (⟨k1, z0, z1, (by omega : w.heap.size ≤ b0), by rw [← hW, ← hb0]; simp⟩ : Below w.heap.size w W ∧ Lies W b0 (rprow ⟨y, ms, h, s⟩ A n c) ∧ Lies W (b0 + 1) (rprow zeroRp none 0 0) ∧ w.heap.size ≤ b0 ∧ W.heap.size = b0 + 2)
  clear hW k1 z0 z1 hb0
  have x1 : (W.alloc (.cells #[] 3)).cell? ⟨b0, 1, none⟩ = some (.slice A n c) := by rw [World.cell?_alloc_past _ _ _ (by have := K1.out.2.2.2.2; show b0 < W.heap.size; omega)]; exact c1
  clear c0 c1 c2 c3
  go_wp2_with (first
    | (at_builtin; refine wpList_append_mine _ rfl (.tmp 5) (.tmp 7) rfl W.heap.size (some ⟨W.heap.size, 0, none⟩) 0 0 [] rfl (none_mine W W.heap.size (Nat.le_refl _)) A n c ms rfl (HM.out _ (thru K1.out.1 (ba1 W _))) (by have := HN.out; omega) (by simp) ?_; intro A1 c1' W1 h1; have G1 := Lib.hid (⟨by have := h1.1; simpa using this, h1.below (none_mine W W.heap.size (Nat.le_refl _)) (ba1 W _) (Nat.le_refl _) (by simp)⟩ : Mine W1 W.heap.size A1 n c1' ms ∧ Below W.heap.size W W1); clear h1)
    | (at_builtin; refine wpList_append_mine _ rfl (.tmp 8) (.tmp 10) rfl W.heap.size A1 n c1' ms rfl (G1.out.1.alloc _) (some ⟨W1.heap.size, 0, none⟩) 1 1 [m] rfl (one_src _ _) (by have := HN.out; omega) (by have := G1.out.2.size; simp; omega) ?_; intro A2 c2' W2 h2; have G2 := Lib.hid (⟨h2.1, h2.below (G1.out.1.alloc _) (G1.out.2.alloc G1.out.2.size _) (Nat.le_refl _) (by have := G1.out.2.size; simp; omega)⟩ : Mine W2 W.heap.size A2 (n + 1) c2' (ms ++ [m]) ∧ Below W.heap.size W W2); have y0 := K1.out.2.1.below (by simp) G2.out.2; have y1 := K1.out.2.2.1.below (by simp) G2.out.2; obtain ⟨c0, c1, c2, c3⟩ := rat_of y0; obtain ⟨f0, f1, f2, f3⟩ := rfr_of y0; obtain ⟨d0, d1, d2, d3⟩ := rat_of y1; obtain ⟨g0, g1, g2, g3⟩ := rfr_of y1; clear h2 y0 y1))
  refine bodyPost_ret (v := rpv ⟨y, ms ++ [m], h, s⟩ A2 (n + 1) c2') (by simp [results, Try.results10, go_sem, d0, d1, d2, d3]) rfl ?_
  have hle := K1.out.2.2.2.1
  have hWs := K1.out.2.2.2.2
  have hz2 := G2.out.2.size
  refine ⟨⟨A2, n + 1, c2', rfl, ?_⟩, ?_⟩
  · refine mine_save (w := W2) (S := fun k => k < W.heap.size) (Mine.mono G2.out.1 K1.out.1.size) ?_ fun j hj hlt => by have := (Mine.lt G2.out.1 j hj).1; omega
    repeat refine Save.onto_in ?_ _ _ _ (by show _ < _; omega)
    exact Save.refl _ _
  · repeat refine Below.setCell ?_ (by simp <;> omega) _
    exact thru K1.out.1 G2.out.2


set_option maxRecDepth 100000 in
set_option maxHeartbeats 800000 in
theorem grat_any (B : Nat) (x : Rp) (A : Option Addr) (n c : Nat) (w : World) (hx : Mine w B A n c x.ms) (hf : FineR x) :
    Calls Try.prog 21 #[rpv x A n c] w fun e w' => e = .returned (.int .i64 (atS x.sp)) ∧ Below w.heap.size w w' := by
  obtain ⟨y, ms, h, s⟩ := x
  have hln := Mine.len hx
  obtain ⟨⟨y1, y2⟩, hall, hms⟩ := hf
  dsimp only at y1 y2 hall hms hln
  have hb := Strut.bounds_of ms hall
  obtain ⟨p, hp⟩ : ∃ p, Strut.mostOf ms = p := ⟨_, rfl⟩
  obtain ⟨q, hq⟩ : ∃ q, Strut.leastOf ms = q := ⟨_, rfl⟩
  have HS := Lib.hid (fun w' (j : Below w.heap.size w w') => (calls_same_below (rsum_any A n c ms w' (by omega) (by omega) w'.heap.size (Mine.nums (hx.below j)) hall)))
  have HM := Lib.hid (fun w' (j : Below w.heap.size w w') => Mine.src (hx.below j))
  have HN := Lib.hid (⟨hms, hln⟩ : ms.length ≤ 1000 ∧ ms.length = n)
  unfold Rp.sp
  rw [hp, hq] at HS ⊢
  have hwr : IntKind.i64.wrap (y + (p + q)) = y + (p + q) := IntWalk.i64_in _ (by omega)
  clear hx hall hms hln hb hp hq HM HN
  go_enter Try.func21, Try.ntmps21
  cases s with
  | true =>
    go_wp2_with fail
    go_ret
    exact ⟨rfl, ba1 _ _⟩
  | false =>
    go_upto_region 3 with fail
    generalize hW : World.alloc _ _ = W
    obtain ⟨b0, hb0⟩ : ∃ b0, w.heap.size = b0 := ⟨_, rfl⟩
    have k1 : Below w.heap.size w W := by rw [← hW]; exact ba1 _ _
    have z0 : Lies W b0 (rprow ⟨y, ms, h, false⟩ A n c) := by rw [← hW, ← hb0]; exact Lies.new w _ _
    try rw [hb0]
    have K1 := Lib.hid k1
    have HZ := Lib.hid (fun w' (j : Below W.heap.size W w') => z0.below (by simp) j)
    clear hW k1 z0 hb0
    refine Hold.wp_region_hold [.val (.pointer (some ⟨b0, 0, none⟩)), .val (.int .i64 y), .val (.pointer (some ⟨b0, 1, none⟩)), .val (.slice A n c), .val (.int .i64 (p + q)), .val (.int .i64 ((y + (p + q))))] (by kernel_rfl) (by kernel_rfl) (by kernel_rfl) ?_ ?_
    · simp only [Hold.fill, Hold.Leave.value]
      refine ⟨?_, ?_, ?_, ?_, ?_, ?_, trivial⟩
      · intro gg w' hw hk
        go_simp
        exact ⟨rfl, rfl⟩
      · intro gg w' hw hk
        have q0 : w'.cell? ⟨b0, 0, none⟩ = some (.int .i64 y) := (HZ.out w' hw).at' 0
        go_simp
        exact ⟨rfl, rfl⟩
      · intro gg w' hw hk
        go_simp
        exact ⟨rfl, rfl⟩
      · intro gg w' hw hk
        have q0 : w'.cell? ⟨b0, 1, none⟩ = some (.slice A n c) := (HZ.out w' hw).at' 1
        go_simp
        exact ⟨rfl, rfl⟩
      · intro gg w' hw hk
        go_simp
        exact Hold.stays_call (HS.out w' (thru K1.out hw))
      · intro gg w' hw hk
        go_simp
        exact ⟨rfl, rfl⟩
    intro gg w3 k3 hgg
    clear hgg
    simp only [Hold.fill, Hold.Leave.value, List.length_cons, List.length_nil, List.drop_succ_cons, List.drop_zero]
    go_simp
    go_wp2_with fail
    go_ret
    exact ⟨rfl, thru K1.out k3⟩

set_option maxRecDepth 100000 in
set_option maxHeartbeats 800000 in
theorem grfix_any (B : Nat) (x : Rp) (A : Option Addr) (n c : Nat) (d : Int) (w : World) (hx : Mine w B A n c x.ms) (hf : FineR x) (hd : -1152921504606846976 ≤ d ∧ d ≤ 1152921504606846976) :
    Calls Try.prog 12 #[rpv x A n c, .int .i64 d] w fun e w' => e = .returned (rpv (fixR x d) none 0 0) ∧ Below w.heap.size w w' := by
  have HA := Lib.hid (fun w' (j : Below w.heap.size w w') => grat_any B x A n c w' (hx.below j) hf)
  have hs := hf.sp
  obtain ⟨a, ha⟩ : ∃ a, atS x.sp = a := ⟨_, rfl⟩
  have hab : -6917529027641081856 ≤ a ∧ a ≤ 6917529027641081856 := by
    rw [← ha]; exact atS_b hs
  have hwr : IntKind.i64.wrap (a + d) = a + d := IntWalk.i64_in _ (by omega)
  unfold fixR
  rw [ha] at HA ⊢
  obtain ⟨y, ms, h, s⟩ := x
  clear ha hab hx hd hf hs
  go_enter Try.func12, Try.ntmps12
  go_upto_region 1 with fail
  generalize hW : World.alloc _ _ = W
  obtain ⟨b0, hb0⟩ : ∃ b0, w.heap.size = b0 := ⟨_, rfl⟩
  have k1 : Below w.heap.size w W := by rw [← hW]; exact ba2 _ _ _
  have z0 : Lies W b0 (rprow ⟨y, ms, h, s⟩ A n c) := by rw [← hW, ← hb0]; exact (Lies.new w _ _).below (by simp) (ba1 _ _)
  have z1 : Lies W (b0 + 1) (rprow zeroRp none 0 0) := by rw [← hW, ← hb0]; have := Lies.new (w.alloc (.cells (rprow ⟨y, ms, h, s⟩ A n c).toArray 30)) (rprow zeroRp none 0 0) 30; simp at this; exact this
  rw [hb0]
  obtain ⟨c0, c1, c2, c3⟩ := rat_of z0
  have K1 := Lib.hid (⟨k1, z0, z1, (by omega : w.heap.size ≤ b0), by rw [← hW, ← hb0]; simp⟩ : Below w.heap.size w W ∧ Lies W b0 (rprow ⟨y, ms, h, s⟩ A n c) ∧ Lies W (b0 + 1) (rprow zeroRp none 0 0) ∧ w.heap.size ≤ b0 ∧ W.heap.size = b0 + 2)
  clear hW k1 z0 z1 hb0
  go_wp2_with fail
  refine (HA.out W K1.out.1).mono ?_; rintro e w1 ⟨rfl, hb⟩
  have z1 := K1.out.2.2.1.below (by simp) hb
  clear c0 c1 c2 c3
  obtain ⟨d0, d1, d2, d3⟩ := rat_of z1
  obtain ⟨g0, g1, g2, g3⟩ := rfr_of z1
  have K2 := Lib.hid (⟨thru K1.out.1 hb, K1.out.2.2.2.1⟩ : Below w.heap.size w w1 ∧ w.heap.size ≤ b0)
  clear K1 hb z1 HA
  go_wp2_with fail
  refine bodyPost_ret (v := rpv ⟨a + d, [], false, false⟩ none 0 0) (by simp [results, Try.results12, go_sem, d0, d1, d2, d3]) rfl ⟨rfl, ?_⟩
  have hle := K2.out.2
  repeat refine Below.setCell ?_ (by simp <;> omega) _
  exact K2.out.1

set_option maxHeartbeats 400000 in
theorem grbelow_any (y m : Int) (w : World) :
    Calls Try.prog 16 #[.int .i64 y, .int .i64 m] w (GivesR w (belowR y m)) := by
  go_enter Try.func16, Try.ntmps16
  go_upto_region 1 with fail
  generalize hW : World.alloc _ _ = W
  obtain ⟨b0, hb0⟩ : ∃ b0, w.heap.size = b0 := ⟨_, rfl⟩
  have k1 : Below w.heap.size w W := by rw [← hW]; exact ba1 _ _
  have z1 : Lies W b0 (rprow zeroRp none 0 0) := by rw [← hW, ← hb0]; exact Lies.new w _ _
  try rw [hb0]
  have hWs : W.heap.size = b0 + 1 := by rw [← hW, ← hb0]; simp
  have z2 := z1.below (by simp) (ba1 W (.cells #[.int .i64 m] 3))
  obtain ⟨d0, d1, d2, d3⟩ := rat_of z2
  obtain ⟨g0, g1, g2, g3⟩ := rfr_of z2
  have K1 := Lib.hid (⟨k1, (by omega : w.heap.size ≤ b0), hWs⟩ : Below w.heap.size w W ∧ w.heap.size ≤ b0 ∧ W.heap.size = b0 + 1)
  clear hW k1 z1 z2 hb0 hWs
  go_wp2_with fail
  refine bodyPost_ret (v := rpv ⟨y, [m], false, false⟩ (some ⟨W.heap.size, 0, none⟩) 1 1) (by simp [results, Try.results16, go_sem, d0, d1, d2, d3]) rfl ?_
  have hle := K1.out.2.1
  have hWs := K1.out.2.2
  refine ⟨⟨_, 1, 1, rfl, ?_⟩, ?_⟩
  · refine mine_save (w := W.alloc (.cells #[.int .i64 m] 3)) (S := fun k => k < W.heap.size) (Mine.mono (one_mine W W.heap.size (Nat.le_refl _) m) K1.out.1.size) ?_ fun j hj hlt => by (have e : W.heap.size = j := Option.some.inj hj); omega
    repeat refine Save.onto_in ?_ _ _ _ (by show _ < _; omega)
    exact Save.refl _ _
  · repeat refine Below.setCell ?_ (by simp <;> omega) _
    exact thru K1.out.1 (ba1 W _)

set_option maxHeartbeats 400000 in
theorem grcleared_any (y m : Int) (w : World) :
    Calls Try.prog 18 #[.int .i64 y, .int .i64 m] w (GivesR w (clearedR y m)) := by
  go_enter Try.func18, Try.ntmps18
  go_upto_region 1 with fail
  generalize hW : World.alloc _ _ = W
  obtain ⟨b0, hb0⟩ : ∃ b0, w.heap.size = b0 := ⟨_, rfl⟩
  have k1 : Below w.heap.size w W := by rw [← hW]; exact ba1 _ _
  have z1 : Lies W b0 (rprow zeroRp none 0 0) := by rw [← hW, ← hb0]; exact Lies.new w _ _
  try rw [hb0]
  have hWs : W.heap.size = b0 + 1 := by rw [← hW, ← hb0]; simp
  have z2 := z1.below (by simp) (ba1 W (.cells #[.int .i64 m] 3))
  obtain ⟨d0, d1, d2, d3⟩ := rat_of z2
  obtain ⟨g0, g1, g2, g3⟩ := rfr_of z2
  have K1 := Lib.hid (⟨k1, (by omega : w.heap.size ≤ b0), hWs⟩ : Below w.heap.size w W ∧ w.heap.size ≤ b0 ∧ W.heap.size = b0 + 1)
  clear hW k1 z1 z2 hb0 hWs
  go_wp2_with fail
  refine bodyPost_ret (v := rpv ⟨y, [m], false, true⟩ (some ⟨W.heap.size, 0, none⟩) 1 1) (by simp [results, Try.results18, go_sem, d0, d1, d2, d3]) rfl ?_
  have hle := K1.out.2.1
  have hWs := K1.out.2.2
  refine ⟨⟨_, 1, 1, rfl, ?_⟩, ?_⟩
  · refine mine_save (w := W.alloc (.cells #[.int .i64 m] 3)) (S := fun k => k < W.heap.size) (Mine.mono (one_mine W W.heap.size (Nat.le_refl _) m) K1.out.1.size) ?_ fun j hj hlt => by (have e : W.heap.size = j := Option.some.inj hj); omega
    repeat refine Save.onto_in ?_ _ _ _ (by show _ < _; omega)
    exact Save.refl _ _
  · repeat refine Below.setCell ?_ (by simp <;> omega) _
    exact thru K1.out.1 (ba1 W _)

set_option maxRecDepth 100000 in
set_option maxHeartbeats 800000 in
theorem grpass_no (B : Nat) (y : Int) (ms : List Int) (h : Bool) (A : Option Addr) (n c : Nat) (m : Int) (w : World) (hx : Mine w B A n c ms) (hn : ms.length ≤ 1000) :
    Calls Try.prog 14 #[rpv ⟨y, ms, h, false⟩ A n c, .int .i64 m] w (GivesR w (withR ⟨y, ms, h, false⟩ m)) := by
  have HM := Lib.hid (fun w' (j : Below w.heap.size w w') => hx.below j)
  clear hx
  go_enter Try.func14, Try.ntmps14
  go_upto_region 1 with fail
  generalize hW : World.alloc _ _ = W
  obtain ⟨b0, hb0⟩ : ∃ b0, w.heap.size = b0 := ⟨_, rfl⟩
  have k1 : Below w.heap.size w W := by rw [← hW]; exact ba2 _ _ _
  have z0 : Lies W b0 (rprow ⟨y, ms, h, false⟩ A n c) := by rw [← hW, ← hb0]; exact (Lies.new w _ _).below (by simp) (ba1 _ _)
  have z1 : Lies W (b0 + 1) (rprow zeroRp none 0 0) := by rw [← hW, ← hb0]; have := Lies.new (w.alloc (.cells (rprow ⟨y, ms, h, false⟩ A n c).toArray 30)) (rprow zeroRp none 0 0) 30; simp at this; exact this
  rw [hb0]
  obtain ⟨c0, c1, c2, c3⟩ := rat_of z0
  have K1 := Lib.hid (⟨k1, z0, z1, (by omega : w.heap.size ≤ b0), by rw [← hW, ← hb0]; simp⟩ : Below w.heap.size w W ∧ Lies W b0 (rprow ⟨y, ms, h, false⟩ A n c) ∧ Lies W (b0 + 1) (rprow zeroRp none 0 0) ∧ w.heap.size ≤ b0 ∧ W.heap.size = b0 + 2)
  clear hW k1 z0 z1 hb0
  have HC := Lib.hid (⟨K1.out.1, K1.out.2.2.1, K1.out.2.2.2.1, (by have := K1.out.2.2.2.2; omega), K1.out.1.size, grwith_any B ⟨y, ms, h, false⟩ A n c m W (HM.out W K1.out.1) hn⟩ : Below w.heap.size w W ∧ Lies W (b0 + 1) (rprow zeroRp none 0 0) ∧ w.heap.size ≤ b0 ∧ b0 + 1 < W.heap.size ∧ w.heap.size ≤ W.heap.size ∧ Calls Try.prog 10 #[rpv ⟨y, ms, h, false⟩ A n c, .int .i64 m] W (GivesR W (withR ⟨y, ms, h, false⟩ m)))
  clear K1 HM hn
  go_wp2_with fail
  refine (HC.out.2.2.2.2.2).mono ?_; rintro e w5 ⟨⟨A5, n5, c5, rfl, hm5⟩, hb5⟩
  have z1 := HC.out.2.1.below (by simp) hb5
  obtain ⟨d0, d1, d2, d3⟩ := rat_of z1
  obtain ⟨g0, g1, g2, g3⟩ := rfr_of z1
  have K5 := Lib.hid (⟨thru HC.out.1 hb5, HC.out.2.2.1, HC.out.2.2.2.1, HC.out.2.2.2.2.1, hm5⟩ : Below w.heap.size w w5 ∧ w.heap.size ≤ b0 ∧ b0 + 1 < W.heap.size ∧ w.heap.size ≤ W.heap.size ∧ Mine w5 W.heap.size A5 n5 c5 (ms ++ [m]))
  clear HC hb5 hm5 z1 c0 c1 c2 c3
  go_wp2_with fail
  refine bodyPost_ret (v := rpv (withR ⟨y, ms, h, false⟩ m) A5 n5 c5) (by simp [results, Try.results14, go_sem, d0, d1, d2, d3]) rfl ?_
  have hle := K5.out.2.1
  have hWs := K5.out.2.2.1
  refine ⟨⟨A5, n5, c5, rfl, ?_⟩, ?_⟩
  · refine mine_save (w := w5) (S := fun k => k < W.heap.size) (Mine.mono K5.out.2.2.2.2 K5.out.2.2.2.1) ?_ fun j hj hlt => by have := (Mine.lt K5.out.2.2.2.2 j hj).1; omega
    repeat refine Save.onto_in ?_ _ _ _ (by show _ < _; omega)
    exact Save.refl _ _
  · repeat refine Below.setCell ?_ (by simp <;> omega) _
    exact K5.out.1

set_option maxRecDepth 100000 in
set_option maxHeartbeats 1000000 in
theorem grpass_yes (B : Nat) (y : Int) (ms : List Int) (h : Bool) (A : Option Addr) (n c : Nat) (m : Int) (w : World) (hx : Mine w B A n c ms) (hf : FineR ⟨y, ms, h, true⟩) :
    Calls Try.prog 14 #[rpv ⟨y, ms, h, true⟩ A n c, .int .i64 m] w (GivesR w (passR ⟨y, ms, h, true⟩ m)) := by
  have hln := Mine.len hx
  obtain ⟨⟨y1, y2⟩, hall, hms⟩ := hf
  dsimp only at y1 y2 hall hms hln
  have hb := Strut.bounds_of ms hall
  obtain ⟨p, hp⟩ : ∃ p, Strut.mostOf ms = p := ⟨_, rfl⟩
  obtain ⟨q, hq⟩ : ∃ q, Strut.leastOf ms = q := ⟨_, rfl⟩
  have HS := Lib.hid (fun w' (j : Below w.heap.size w w') => (calls_same_below (rsum_any A n c ms w' (by omega) (by omega) w'.heap.size (Mine.nums (hx.below j)) hall)))
  have HM := Lib.hid (fun w' (j : Below w.heap.size w w') => Mine.src (hx.below j))
  have HN := Lib.hid (⟨hms, hln⟩ : ms.length ≤ 1000 ∧ ms.length = n)
  have HM2 := Lib.hid (fun w' (j : Below w.heap.size w w') => hx.below j)
  have e9 : passR ⟨y, ms, h, true⟩ m = withR ⟨y - (p + q), ms, true, false⟩ m := by rw [← hp, ← hq]; rfl
  rw [e9]
  rw [hp, hq] at HS
  have hwr : IntKind.i64.wrap (y - (p + q)) = y - (p + q) := IntWalk.i64_in _ (by omega)
  clear hx hall hms hln hb hp hq e9 HM
  go_enter Try.func14, Try.ntmps14
  go_upto_region 1 with fail
  generalize hW : World.alloc _ _ = W
  obtain ⟨b0, hb0⟩ : ∃ b0, w.heap.size = b0 := ⟨_, rfl⟩
  have k1 : Below w.heap.size w W := by rw [← hW]; exact ba2 _ _ _
  have z0 : Lies W b0 (rprow ⟨y, ms, h, true⟩ A n c) := by rw [← hW, ← hb0]; exact (Lies.new w _ _).below (by simp) (ba1 _ _)
  have z1 : Lies W (b0 + 1) (rprow zeroRp none 0 0) := by rw [← hW, ← hb0]; have := Lies.new (w.alloc (.cells (rprow ⟨y, ms, h, true⟩ A n c).toArray 30)) (rprow zeroRp none 0 0) 30; simp at this; exact this
  rw [hb0]
  obtain ⟨c0, c1, c2, c3⟩ := rat_of z0
  have K1 := Lib.hid (⟨k1, z0, z1, (by omega : w.heap.size ≤ b0), by rw [← hW, ← hb0]; simp⟩ : Below w.heap.size w W ∧ Lies W b0 (rprow ⟨y, ms, h, true⟩ A n c) ∧ Lies W (b0 + 1) (rprow zeroRp none 0 0) ∧ w.heap.size ≤ b0 ∧ W.heap.size = b0 + 2)
  clear hW k1 z0 z1 hb0
  go_upto_region 2 with fail
  have HZ := Lib.hid (fun w' (j : Below W.heap.size W w') => K1.out.2.1.below (by simp) j)
  clear c0 c1 c2 c3
  refine Hold.wp_region_hold [.val (.pointer (some ⟨b0, 0, none⟩)), .val (.int .i64 y), .val (.pointer (some ⟨b0, 1, none⟩)), .val (.slice A n c), .val (.int .i64 (p + q)), .val (.int .i64 ((y - (p + q))))] (by kernel_rfl) (by kernel_rfl) (by kernel_rfl) ?_ ?_
  · simp only [Hold.fill, Hold.Leave.value]
    refine ⟨?_, ?_, ?_, ?_, ?_, ?_, trivial⟩
    · intro gg w' hw hk
      go_simp
      exact ⟨rfl, rfl⟩
    · intro gg w' hw hk
      have q0 : w'.cell? ⟨b0, 0, none⟩ = some (.int .i64 y) := (HZ.out w' hw).at' 0
      go_simp
      exact ⟨rfl, rfl⟩
    · intro gg w' hw hk
      go_simp
      exact ⟨rfl, rfl⟩
    · intro gg w' hw hk
      have q0 : w'.cell? ⟨b0, 1, none⟩ = some (.slice A n c) := (HZ.out w' hw).at' 1
      go_simp
      exact ⟨rfl, rfl⟩
    · intro gg w' hw hk
      go_simp
      exact Hold.stays_call (HS.out w' (thru K1.out.1 hw))
    · intro gg w' hw hk
      go_simp
      exact ⟨rfl, rfl⟩
  intro gg w3 k3 hgg
  clear hgg
  simp only [Hold.fill, Hold.Leave.value, List.length_cons, List.length_nil, List.drop_succ_cons, List.drop_zero]
  have x0 := HZ.out w3 k3
  have x1 := K1.out.2.2.1.below (by simp) k3
  have hz3 := k3.size
  obtain ⟨c0, c1, c2, c3⟩ := rat_of x0
  obtain ⟨f0, f1, f2, f3⟩ := rfr_of x0
  have K3 := Lib.hid (⟨thru K1.out.1 k3, x0, x1, K1.out.2.2.2.1, (by have := K1.out.2.2.2.2; omega)⟩ : Below w.heap.size w w3 ∧ Lies w3 b0 (rprow ⟨y, ms, h, true⟩ A n c) ∧ Lies w3 (b0 + 1) (rprow zeroRp none 0 0) ∧ w.heap.size ≤ b0 ∧ b0 + 1 < w3.heap.size)
  clear x0 x1 HZ k3 K1 hz3 HS
  go_simp
  go_upto_region 5 with fail
  generalize hV : World.setCell (World.setCell (World.setCell w3 _ _) _ _) _ _ = V
  have kV : Below w.heap.size w V := by
    rw [← hV]
    have hle := K3.out.2.2.2.1
    repeat refine Below.setCell ?_ (by simp <;> omega) _
    exact K3.out.1
  have hVs : V.heap.size = w3.heap.size := by rw [← hV]; simp [World.setCell]
  have z0 : Lies V b0 (rprow ⟨y - (p + q), ms, true, false⟩ A n c) := by
    rw [← hV]; exact ((K3.out.2.1.set 0 (.int .i64 (y - (p + q))) (by simp)).set 3 (.bool false) (by simp)).set 2 (.bool true) (by simp)
  have z1 : Lies V (b0 + 1) (rprow zeroRp none 0 0) := by
    rw [← hV]
    exact K3.out.2.2.1.save (by simp) (((Save.set b0 0 _).onto 3 _).onto 2 _) (by omega)
  have KV := Lib.hid (⟨kV, z1, K3.out.2.2.2.1, (by have := K3.out.2.2.2.2; omega), kV.size, grwith_any B ⟨y - (p + q), ms, true, false⟩ A n c m V (HM2.out V kV) HN.out.1⟩ : Below w.heap.size w V ∧ Lies V (b0 + 1) (rprow zeroRp none 0 0) ∧ w.heap.size ≤ b0 ∧ b0 + 1 < V.heap.size ∧ w.heap.size ≤ V.heap.size ∧ Calls Try.prog 10 #[rpv ⟨y - (p + q), ms, true, false⟩ A n c, .int .i64 m] V (GivesR V (withR ⟨y - (p + q), ms, true, false⟩ m)))
  clear c0 c1 c2 c3 f0 f1 f2 f3 hV kV z1 K3 hVs HM2 HN
  obtain ⟨c0, c1, c2, c3⟩ := rat_of z0
  clear z0
  go_wp2_with fail
  refine (KV.out.2.2.2.2.2).mono ?_; rintro e w5 ⟨⟨A5, n5, c5, rfl, hm5⟩, hb5⟩
  have z1 := KV.out.2.1.below (by simp) hb5
  obtain ⟨d0, d1, d2, d3⟩ := rat_of z1
  obtain ⟨g0, g1, g2, g3⟩ := rfr_of z1
  have K5 := Lib.hid (⟨thru KV.out.1 hb5, KV.out.2.2.1, KV.out.2.2.2.1, KV.out.2.2.2.2.1, hm5⟩ : Below w.heap.size w w5 ∧ w.heap.size ≤ b0 ∧ b0 + 1 < V.heap.size ∧ w.heap.size ≤ V.heap.size ∧ Mine w5 V.heap.size A5 n5 c5 (ms ++ [m]))
  clear KV hb5 hm5 z1 c0 c1 c2 c3
  go_wp2_with fail
  refine bodyPost_ret (v := rpv (withR ⟨y - (p + q), ms, true, false⟩ m) A5 n5 c5) (by simp [results, Try.results14, go_sem, d0, d1, d2, d3]) rfl ?_
  have hle := K5.out.2.1
  have hWs := K5.out.2.2.1
  refine ⟨⟨A5, n5, c5, rfl, ?_⟩, ?_⟩
  · refine mine_save (w := w5) (S := fun k => k < V.heap.size) (Mine.mono K5.out.2.2.2.2 K5.out.2.2.2.1) ?_ fun j hj hlt => by have := (Mine.lt K5.out.2.2.2.2 j hj).1; omega
    repeat refine Save.onto_in ?_ _ _ _ (by show _ < _; omega)
    exact Save.refl _ _
  · repeat refine Below.setCell ?_ (by simp <;> omega) _
    exact K5.out.1

theorem grpass_any (B : Nat) (x : Rp) (A : Option Addr) (n c : Nat) (m : Int) (w : World) (hx : Mine w B A n c x.ms) (hf : FineR x) :
    Calls Try.prog 14 #[rpv x A n c, .int .i64 m] w (GivesR w (passR x m)) := by
  obtain ⟨y, ms, h, s⟩ := x
  cases s with
  | false => exact grpass_no B y ms h A n c m w hx hf.2.2
  | true => exact grpass_yes B y ms h A n c m w hx hf

set_option maxRecDepth 100000 in
set_option maxHeartbeats 1000000 in
theorem gof_any (B : Nat) (x : Rp) (A : Option Addr) (n c : Nat) (w : World) (hx : Mine w B A n c x.ms) (hf : FineR x) :
    Calls Try.prog 19 #[rpv x A n c] w fun e w' => e = .returned x.sp.v ∧ Below w.heap.size w w' := by
  obtain ⟨y, ms, h, s⟩ := x
  have hln := Mine.len hx
  obtain ⟨-, -, hms⟩ := hf
  dsimp only at hms hln
  obtain ⟨p, hp⟩ : ∃ p, Strut.mostOf ms = p := ⟨_, rfl⟩
  obtain ⟨q, hq⟩ : ∃ q, Strut.leastOf ms = q := ⟨_, rfl⟩
  have HP := Lib.hid (fun w' (j : Below w.heap.size w w') => (calls_same_below (most_any A n c ms w' (by omega) (by omega) w'.heap.size (Mine.nums (hx.below j)))))
  have HQ := Lib.hid (fun w' (j : Below w.heap.size w w') => (calls_same_below (least_any A n c ms w' (by omega) (by omega) w'.heap.size (Mine.nums (hx.below j)))))
  unfold Rp.sp
  rw [hp] at HP
  rw [hq] at HQ
  rw [hp, hq]
  clear hx hms hln hp hq
  go_enter Try.func19, Try.ntmps19
  go_upto_region 1 with fail
  generalize hW : World.alloc _ _ = W
  obtain ⟨b0, hb0⟩ : ∃ b0, w.heap.size = b0 := ⟨_, rfl⟩
  have k1 : Below w.heap.size w W := by rw [← hW]; exact ba2 _ _ _
  have z0 : Lies W b0 (rprow ⟨y, ms, h, s⟩ A n c) := by rw [← hW, ← hb0]; exact (Lies.new w _ _).below (by simp) (ba1 _ _)
  have z1 : Lies W (b0 + 1) (sprow zeroSp) := by rw [← hW, ← hb0]; have := Lies.new (w.alloc (.cells (rprow ⟨y, ms, h, s⟩ A n c).toArray 30)) (sprow zeroSp) 27; simp at this; exact this
  try rw [hb0]
  have K1 := Lib.hid (⟨k1, z1, (by omega : w.heap.size ≤ b0)⟩ : Below w.heap.size w W ∧ Lies W (b0 + 1) (sprow zeroSp) ∧ w.heap.size ≤ b0)
  have HZ := Lib.hid (fun w' (j : Below W.heap.size W w') => z0.below (by simp) j)
  clear hW k1 z0 z1 hb0
  refine Hold.wp_region_hold [.val (.pointer (some ⟨b0, 0, none⟩)), .val (.int .i64 y), .val (.pointer (some ⟨b0, 1, none⟩)), .val (.slice A n c), .val (.int .i64 p), .val (.pointer (some ⟨b0, 1, none⟩)), .val (.slice A n c), .val (.int .i64 q), .val (.agg #[.int .i64 p, .int .i64 q]), .val (.pointer (some ⟨b0, 2, none⟩)), .val (.bool h), .val (.pointer (some ⟨b0, 3, none⟩)), .val (.bool s), .val (.agg #[.int .i64 y, .int .i64 p, .int .i64 q, .bool h, .bool s])] (by kernel_rfl) (by kernel_rfl) (by kernel_rfl) ?_ ?_
  · simp only [Hold.fill, Hold.Leave.value]
    refine ⟨?_, ?_, ?_, ?_, ?_, ?_, ?_, ?_, ?_, ?_, ?_, ?_, ?_, ?_, trivial⟩
    · intro gg w' hw hk
      go_simp
      exact ⟨rfl, rfl⟩
    · intro gg w' hw hk
      have q0 : w'.cell? ⟨b0, 0, none⟩ = some (.int .i64 y) := (HZ.out w' hw).at' 0
      go_simp
      exact ⟨rfl, rfl⟩
    · intro gg w' hw hk
      go_simp
      exact ⟨rfl, rfl⟩
    · intro gg w' hw hk
      have q0 : w'.cell? ⟨b0, 1, none⟩ = some (.slice A n c) := (HZ.out w' hw).at' 1
      go_simp
      exact ⟨rfl, rfl⟩
    · intro gg w' hw hk
      go_simp
      exact Hold.stays_call (HP.out w' (thru K1.out.1 hw))
    · intro gg w' hw hk
      go_simp
      exact ⟨rfl, rfl⟩
    · intro gg w' hw hk
      have q0 : w'.cell? ⟨b0, 1, none⟩ = some (.slice A n c) := (HZ.out w' hw).at' 1
      go_simp
      exact ⟨rfl, rfl⟩
    · intro gg w' hw hk
      go_simp
      exact Hold.stays_call (HQ.out w' (thru K1.out.1 hw))
    · intro gg w' hw hk
      go_simp
      exact ⟨rfl, rfl⟩
    · intro gg w' hw hk
      go_simp
      exact ⟨rfl, rfl⟩
    · intro gg w' hw hk
      have q0 : w'.cell? ⟨b0, 2, none⟩ = some (.bool h) := (HZ.out w' hw).at' 2
      go_simp
      exact ⟨rfl, rfl⟩
    · intro gg w' hw hk
      go_simp
      exact ⟨rfl, rfl⟩
    · intro gg w' hw hk
      have q0 : w'.cell? ⟨b0, 3, none⟩ = some (.bool s) := (HZ.out w' hw).at' 3
      go_simp
      exact ⟨rfl, rfl⟩
    · intro gg w' hw hk
      go_simp
      exact ⟨rfl, rfl⟩
  intro gg w3 k3 hgg
  clear hgg
  simp only [Hold.fill, Hold.Leave.value, List.length_cons, List.length_nil, List.drop_succ_cons, List.drop_zero]
  have z1 := K1.out.2.1.below (by simp) k3
  obtain ⟨d0, d1, d2, d3, d4⟩ := sat_of z1
  obtain ⟨g0, g1, g2, g3, g4⟩ := sfr_of z1
  have K3 := Lib.hid (⟨thru K1.out.1 k3, K1.out.2.2⟩ : Below w.heap.size w w3 ∧ w.heap.size ≤ b0)
  clear z1 k3 K1 HZ HP HQ
  go_simp
  go_wp2_with fail
  refine bodyPost_ret (v := Sp.v ⟨y, p, q, h, s⟩) (by simp [results, Try.results19, go_sem, d0, d1, d2, d3, d4]) rfl ⟨rfl, ?_⟩
  have hle := K3.out.2
  repeat refine Below.setCell ?_ (by simp <;> omega) _
  exact K3.out.1

end Go.Proofs.Ytkjbimoflmkekaa.Spot
