/- The law: a line begins at the highest place, row by row, where its first atom has room, or where no float reaches in. -/
import Derived.Test.YtmgokpdeolnidaaPart41
namespace Go.Proofs.Ytmgokpdeolnidaa.Line
open Go.RowKit Go.Sort Go.Proofs.Ytmgokpdeolnidaa.Rect Go.Proofs.Ytmgokpdeolnidaa.More Go.Proofs.Ytmgokpdeolnidaa.Shelf Go.Proofs.Ytmgokpdeolnidaa.Space Go.Proofs.Ytmgokpdeolnidaa.Place
set_option linter.unusedVariables false
set_option linter.unusedSimpArgs false

theorem caught_but {w w5 w6 : World} {g1 g2 g3 g4 g5 b : Nat} {p : Addr} {z : Sz} {f t : Int} (h : Caught w g1 g2 g3 g4 g5 p z f t) (h5 : Caught w5 g1 g2 g3 g4 g5 p z f t) (hb : w.heap.size ≤ b) (k : But (fun j => j = b) w5 w6) : Caught w6 g1 g2 g3 g4 g5 p z f t :=
  h5.but k (fun e => by have := h.z.lt (by simp); omega) (fun e => by have := h.s.lt (by simp); omega) (fun e => by have := h.c.lt (by simp); omega) (fun e => by have := h.f.lt (by simp); omega) (fun e => by have := h.t.lt (by simp); omega)
theorem one_sizes {w : World} {g : Nat} {z : Sz} {T : TypeId} (h : w.heap[g]? = some (.cells (zcells z).toArray T)) : Sizes w w.heap.size (some ⟨g, 0, none⟩) [z] := fun k x hk => by
  have hk1 : k < 1 := (List.getElem?_eq_some_iff.1 hk).1
  obtain rfl : k = 0 := by omega
  obtain rfl : z = x := Option.some.inj hk
  have r := rowAt_of (xs := zcells z) h
  exact ⟨_, rfl, lt_of_block h, r.at' 0, r.at' 1⟩

section
variable {S : World → (Nat → Prop) → Addr → List Fl → Prop}

set_option maxRecDepth 100000 in
set_option maxHeartbeats 2000000 in
theorem first_few (hO : SpaceOk S) (A : Option Addr) (n c : Nat) (fs : List Fl) (f t y : Int) (z : Sz) (w : World) (hn : n = fs.length) (hx : Floats w w.heap.size A fs) (hv : (nearL fs f t y && decide ((n : Int) ≤ 20)) = false) :
    Calls Try.prog 7 #[.slice A n c, .int .i64 f, .int .i64 t, .int .i64 y, .agg #[.int .i64 z.wd, .int .i64 z.ht]] w fun e w' => e = .returned (.bool true) ∧ Below w.heap.size w w' := by
  have HBe := Lib.hid (fun w1 (k : Below w.heap.size w w1) => llbegin_no A n c fs f t y w1 hn (hx.thru k) hv)
  clear hn hx hv
  go_enter Try.func7, Try.ntmps7
  go_upto_region 1 with fail
  generalize hW1 : World.alloc w _ = W1
  obtain ⟨g4, hg4⟩ : ∃ g4, w.heap.size = g4 := ⟨_, rfl⟩
  have k1 : Below w.heap.size w W1 := by rw [← hW1]; exact ba1 _ _
  have s1 : W1.heap.size = g4 + 1 := by rw [← hW1, ← hg4]; simp
  have z1 : RowAt W1 g4 [.int .i64 f] := by rw [← hW1, ← hg4]; exact RowAt.new w _ _
  clear hW1
  generalize hW2 : World.alloc W1 _ = W2
  have k2 : Below W1.heap.size W1 W2 := by rw [← hW2]; exact ba1 _ _
  have s2 : W2.heap.size = g4 + 1 + 1 := by rw [← hW2, ← s1]; simp
  have z2 : RowAt W2 (g4 + 1) [.int .i64 t] := by rw [← hW2, ← s1]; exact RowAt.new W1 _ _
  clear hW2
  generalize hW3 : World.alloc W2 _ = W
  have k3 : Below W2.heap.size W2 W := by rw [← hW3]; exact ba1 _ _
  have z3 : RowAt W (g4 + 1 + 1) (zcells z) := by rw [← hW3, ← s2]; exact RowAt.new W2 _ _
  clear hW3
  rw [hg4]
  obtain ⟨g5, hg5⟩ : ∃ g5, g4 + 1 = g5 := ⟨_, rfl⟩
  obtain ⟨g1, hg1⟩ : ∃ g1, g5 + 1 = g1 := ⟨_, rfl⟩
  rw [hg5] at s1 z2 s2 z3
  rw [hg5]
  rw [hg1] at s2 z3
  rw [hg1]
  have S1 := Lib.hid (⟨thru (thru k1 k2) k3, z1.below (by simp) (thru k2 k3), z2.below (by simp) k3, z3⟩ : Below w.heap.size w W ∧ RowAt W g4 [.int .i64 f] ∧ RowAt W g5 [.int .i64 t] ∧ RowAt W g1 (zcells z))
  clear hg4 hg5 hg1 k1 k2 k3 z1 z2 z3 s1 s2
  have c4 : W.cell? ⟨g4, 0, none⟩ = some (.int .i64 f) := S1.out.2.1.at' 0
  have c5 : W.cell? ⟨g5, 0, none⟩ = some (.int .i64 t) := S1.out.2.2.1.at' 0
  go_upto_region 2 with (first
    | (go_at_call 8; refine (HBe.out _ S1.out.1).mono ?_; rintro e w2 ⟨rfl, k2⟩; have K2 := Lib.hid (thru S1.out.1 k2); clear k2))
  clear c4 c5
  generalize hV : World.alloc w2 _ = V
  obtain ⟨g2, hg2⟩ : ∃ g2, w2.heap.size = g2 := ⟨_, rfl⟩
  have k2 : Below w2.heap.size w2 V := by rw [← hV]; exact ba1 _ _
  have z2 : RowAt V g2 [.pointer none] := by rw [← hV, ← hg2]; exact RowAt.new w2 _ _
  rw [hg2]
  have S2 := Lib.hid (⟨thru K2.out k2, z2⟩ : Below w.heap.size w V ∧ RowAt V g2 [.pointer none])
  clear hV hg2 k2 z2
  go_upto_region 3 with (first
    | (go_at_call 9; refine (lspeaks hO _).mono ?_; rintro e w3 ⟨rfl, k3⟩; have K3 := Lib.hid (thru S2.out.1 k3); have q2 : w3.cell? ⟨g2, 0, none⟩ = some (.pointer none) := (S2.out.2.below (by simp) k3).at' 0; clear k3))
  go_wp2_with (first
    | (go_at_call 9; refine (lspeaks hO _).mono ?_; rintro e w9 ⟨rfl, k9⟩; have K9 := Lib.hid (thru K3.out k9); clear k9))
  go_ret
  exact ⟨rfl, K9.out⟩

set_option maxRecDepth 100000 in
set_option maxHeartbeats 2000000 in
theorem first_wrong (hO : SpaceOk S) (A : Option Addr) (n c : Nat) (fs : List Fl) (f t y : Int) (z : Sz) (w : World) (hn : n = fs.length) (hx : Floats w w.heap.size A fs) (h20 : n ≤ 20) (hs : nearL fs f t y = true) (hr : rightS z = false) :
    Calls Try.prog 7 #[.slice A n c, .int .i64 f, .int .i64 t, .int .i64 y, .agg #[.int .i64 z.wd, .int .i64 z.ht]] w fun e w' => e = .returned (.bool true) ∧ Below w.heap.size w w' := by
  have HBe := Lib.hid (fun w1 (k : Below w.heap.size w w1) => llbegin_any hO A n c fs f t y w1 hn h20 (hx.thru k) hs)
  have HRi := Lib.hid (fun w1 g (hz : w1.heap[g]? = some (.cells (zcells z).toArray 52)) => lright_is (some ⟨g, 0, none⟩) 1 1 [z] false w1 rfl (by decide) (one_sizes hz) (by simp [hr]))
  clear hn hx hs hr
  go_enter Try.func7, Try.ntmps7
  go_upto_region 1 with fail
  generalize hW1 : World.alloc w _ = W1
  obtain ⟨g4, hg4⟩ : ∃ g4, w.heap.size = g4 := ⟨_, rfl⟩
  have k1 : Below w.heap.size w W1 := by rw [← hW1]; exact ba1 _ _
  have s1 : W1.heap.size = g4 + 1 := by rw [← hW1, ← hg4]; simp
  have z1 : RowAt W1 g4 [.int .i64 f] := by rw [← hW1, ← hg4]; exact RowAt.new w _ _
  clear hW1
  generalize hW2 : World.alloc W1 _ = W2
  have k2 : Below W1.heap.size W1 W2 := by rw [← hW2]; exact ba1 _ _
  have s2 : W2.heap.size = g4 + 1 + 1 := by rw [← hW2, ← s1]; simp
  have z2 : RowAt W2 (g4 + 1) [.int .i64 t] := by rw [← hW2, ← s1]; exact RowAt.new W1 _ _
  clear hW2
  generalize hW3 : World.alloc W2 _ = W
  have k3 : Below W2.heap.size W2 W := by rw [← hW3]; exact ba1 _ _
  have z3 : RowAt W (g4 + 1 + 1) (zcells z) := by rw [← hW3, ← s2]; exact RowAt.new W2 _ _
  clear hW3
  rw [hg4]
  obtain ⟨g5, hg5⟩ : ∃ g5, g4 + 1 = g5 := ⟨_, rfl⟩
  obtain ⟨g1, hg1⟩ : ∃ g1, g5 + 1 = g1 := ⟨_, rfl⟩
  rw [hg5] at s1 z2 s2 z3
  rw [hg5]
  rw [hg1] at s2 z3
  rw [hg1]
  have S1 := Lib.hid (⟨thru (thru k1 k2) k3, z1.below (by simp) (thru k2 k3), z2.below (by simp) k3, z3⟩ : Below w.heap.size w W ∧ RowAt W g4 [.int .i64 f] ∧ RowAt W g5 [.int .i64 t] ∧ RowAt W g1 (zcells z))
  clear hg4 hg5 hg1 k1 k2 k3 z1 z2 z3 s1 s2
  have c4 : W.cell? ⟨g4, 0, none⟩ = some (.int .i64 f) := S1.out.2.1.at' 0
  have c5 : W.cell? ⟨g5, 0, none⟩ = some (.int .i64 t) := S1.out.2.2.1.at' 0
  go_upto_region 2 with (first
    | (go_at_call 8; refine (HBe.out _ S1.out.1).mono ?_; rintro e w2 ⟨⟨p, F, rfl, hL, hF⟩, k2⟩; have S2 := Lib.hid (⟨hL, k2, hF⟩ : S w2 F p fs ∧ Below W.heap.size W w2 ∧ ∀ k, F k → W.heap.size ≤ k); clear hL hF k2))
  clear c4 c5
  generalize hV : World.alloc w2 _ = V
  obtain ⟨g2, hg2⟩ : ∃ g2, w2.heap.size = g2 := ⟨_, rfl⟩
  have k2 : Below w2.heap.size w2 V := by rw [← hV]; exact ba1 _ _
  have z2 : RowAt V g2 [.pointer (some p)] := by rw [← hV, ← hg2]; exact RowAt.new w2 _ _
  have hF2 : ∀ k, F k → k < g2 := fun k hk => by have := hO.lt _ _ _ _ S2.out.1 k hk; omega
  rw [hg2]
  have S3 := Lib.hid (⟨thruS hO S2.out.1 k2, thru S1.out.1 (thru S2.out.2.1 k2), S1.out.2.1.below (by simp) (thru S2.out.2.1 k2), S1.out.2.2.1.below (by simp) (thru S2.out.2.1 k2), S1.out.2.2.2.below (by simp) (thru S2.out.2.1 k2), z2, hF2⟩ : S V F p fs ∧ Below w.heap.size w V ∧ RowAt V g4 [.int .i64 f] ∧ RowAt V g5 [.int .i64 t] ∧ RowAt V g1 (zcells z) ∧ RowAt V g2 [.pointer (some p)] ∧ ∀ k, F k → k < g2)
  clear hV hg2 k2 z2 hF2
  go_upto_region 3 with (first
    | (go_at_call 9; refine (lspeaks hO _).mono ?_; rintro e w3 ⟨rfl, k3⟩; have S4 := Lib.hid (⟨thruS hO S3.out.1 k3, thru S3.out.2.1 k3, S3.out.2.2.1.below (by simp) k3, S3.out.2.2.2.1.below (by simp) k3, S3.out.2.2.2.2.1.below (by simp) k3, S3.out.2.2.2.2.2.1.below (by simp) k3⟩ : S w3 F p fs ∧ Below w.heap.size w w3 ∧ RowAt w3 g4 [.int .i64 f] ∧ RowAt w3 g5 [.int .i64 t] ∧ RowAt w3 g1 (zcells z) ∧ RowAt w3 g2 [.pointer (some p)]); have q2 : w3.cell? ⟨g2, 0, none⟩ = some (.pointer (some p)) := S4.out.2.2.2.2.2.at' 0; obtain ⟨q0, q1, -, -⟩ := two_of S4.out.2.2.2.2.1; clear k3)
    | (go_at_call 10; refine (HRi.out _ _ (heap_alloc_new w3 _)).mono ?_; rintro e w4 ⟨rfl, k4⟩; have k4' := thru (ba1 w3 _) k4; have S5 := Lib.hid (⟨thruS hO S4.out.1 k4', thru S4.out.2.1 k4', S4.out.2.2.1.below (by simp) k4', S4.out.2.2.2.1.below (by simp) k4', S4.out.2.2.2.2.1.below (by simp) k4', S4.out.2.2.2.2.2.below (by simp) k4'⟩ : S w4 F p fs ∧ Below w.heap.size w w4 ∧ RowAt w4 g4 [.int .i64 f] ∧ RowAt w4 g5 [.int .i64 t] ∧ RowAt w4 g1 (zcells z) ∧ RowAt w4 g2 [.pointer (some p)]); clear k4 k4'))
  clear q0 q1 q2
  go_wp2_with (first
    | (go_at_call 9; refine (lspeaks hO _).mono ?_; rintro e w9 ⟨rfl, k9⟩; have K9 := Lib.hid (thru S5.out.2.1 k9); clear k9))
  go_ret
  exact ⟨rfl, K9.out⟩

set_option maxRecDepth 100000 in
set_option maxHeartbeats 2000000 in
theorem first_yes (hO : SpaceOk S) (A : Option Addr) (n c : Nat) (fs : List Fl) (f t y : Int) (z : Sz) (w : World) (hn : n = fs.length) (hx : Floats w w.heap.size A fs) (h20 : n ≤ 20) (hs : nearL fs f t y = true) (hr : rightS z = true) :
    Calls Try.prog 7 #[.slice A n c, .int .i64 f, .int .i64 t, .int .i64 y, .agg #[.int .i64 z.wd, .int .i64 z.ht]] w fun e w' => e = .returned (.bool true) ∧ Below w.heap.size w w' := by
  have HBe := Lib.hid (fun w1 (k : Below w.heap.size w w1) => llbegin_any hO A n c fs f t y w1 hn h20 (hx.thru k) hs)
  have HRi := Lib.hid (fun w1 g (hz : w1.heap[g]? = some (.cells (zcells z).toArray 52)) => lright_is (some ⟨g, 0, none⟩) 1 1 [z] true w1 rfl (by decide) (one_sizes hz) (by simp [hr]))
  have HNL := Lib.hid (nearL_so hs)
  have HRZ := Lib.hid (rightS_iff.1 hr)
  clear hn hx hs hr
  go_enter Try.func7, Try.ntmps7
  go_upto_region 1 with fail
  generalize hW1 : World.alloc w _ = W1
  obtain ⟨g4, hg4⟩ : ∃ g4, w.heap.size = g4 := ⟨_, rfl⟩
  have k1 : Below w.heap.size w W1 := by rw [← hW1]; exact ba1 _ _
  have s1 : W1.heap.size = g4 + 1 := by rw [← hW1, ← hg4]; simp
  have z1 : RowAt W1 g4 [.int .i64 f] := by rw [← hW1, ← hg4]; exact RowAt.new w _ _
  clear hW1
  generalize hW2 : World.alloc W1 _ = W2
  have k2 : Below W1.heap.size W1 W2 := by rw [← hW2]; exact ba1 _ _
  have s2 : W2.heap.size = g4 + 1 + 1 := by rw [← hW2, ← s1]; simp
  have z2 : RowAt W2 (g4 + 1) [.int .i64 t] := by rw [← hW2, ← s1]; exact RowAt.new W1 _ _
  clear hW2
  generalize hW3 : World.alloc W2 _ = W
  have k3 : Below W2.heap.size W2 W := by rw [← hW3]; exact ba1 _ _
  have z3 : RowAt W (g4 + 1 + 1) (zcells z) := by rw [← hW3, ← s2]; exact RowAt.new W2 _ _
  clear hW3
  rw [hg4]
  obtain ⟨g5, hg5⟩ : ∃ g5, g4 + 1 = g5 := ⟨_, rfl⟩
  obtain ⟨g1, hg1⟩ : ∃ g1, g5 + 1 = g1 := ⟨_, rfl⟩
  rw [hg5] at s1 z2 s2 z3
  rw [hg5]
  rw [hg1] at s2 z3
  rw [hg1]
  have S1 := Lib.hid (⟨thru (thru k1 k2) k3, z1.below (by simp) (thru k2 k3), z2.below (by simp) k3, z3⟩ : Below w.heap.size w W ∧ RowAt W g4 [.int .i64 f] ∧ RowAt W g5 [.int .i64 t] ∧ RowAt W g1 (zcells z))
  clear hg4 hg5 hg1 k1 k2 k3 z1 z2 z3 s1 s2
  have c4 : W.cell? ⟨g4, 0, none⟩ = some (.int .i64 f) := S1.out.2.1.at' 0
  have c5 : W.cell? ⟨g5, 0, none⟩ = some (.int .i64 t) := S1.out.2.2.1.at' 0
  go_upto_region 2 with (first
    | (go_at_call 8; refine (HBe.out _ S1.out.1).mono ?_; rintro e w2 ⟨⟨p, F, rfl, hL, hF⟩, k2⟩; have S2 := Lib.hid (⟨hL, k2, hF⟩ : S w2 F p fs ∧ Below W.heap.size W w2 ∧ ∀ k, F k → W.heap.size ≤ k); clear hL hF k2))
  clear c4 c5
  generalize hV : World.alloc w2 _ = V
  obtain ⟨g2, hg2⟩ : ∃ g2, w2.heap.size = g2 := ⟨_, rfl⟩
  have k2 : Below w2.heap.size w2 V := by rw [← hV]; exact ba1 _ _
  have z2 : RowAt V g2 [.pointer (some p)] := by rw [← hV, ← hg2]; exact RowAt.new w2 _ _
  have hF2 : ∀ k, F k → k < g2 := fun k hk => by have := hO.lt _ _ _ _ S2.out.1 k hk; omega
  rw [hg2]
  have S3 := Lib.hid (⟨thruS hO S2.out.1 k2, thru S1.out.1 (thru S2.out.2.1 k2), S1.out.2.1.below (by simp) (thru S2.out.2.1 k2), S1.out.2.2.1.below (by simp) (thru S2.out.2.1 k2), S1.out.2.2.2.below (by simp) (thru S2.out.2.1 k2), z2, hF2⟩ : S V F p fs ∧ Below w.heap.size w V ∧ RowAt V g4 [.int .i64 f] ∧ RowAt V g5 [.int .i64 t] ∧ RowAt V g1 (zcells z) ∧ RowAt V g2 [.pointer (some p)] ∧ ∀ k, F k → k < g2)
  clear hV hg2 k2 z2 hF2
  go_upto_region 4 with (first
    | (go_at_call 9; refine (lspeaks hO _).mono ?_; rintro e w3 ⟨rfl, k3⟩; have S4 := Lib.hid (⟨thruS hO S3.out.1 k3, thru S3.out.2.1 k3, S3.out.2.2.1.below (by simp) k3, S3.out.2.2.2.1.below (by simp) k3, S3.out.2.2.2.2.1.below (by simp) k3, S3.out.2.2.2.2.2.1.below (by simp) k3⟩ : S w3 F p fs ∧ Below w.heap.size w w3 ∧ RowAt w3 g4 [.int .i64 f] ∧ RowAt w3 g5 [.int .i64 t] ∧ RowAt w3 g1 (zcells z) ∧ RowAt w3 g2 [.pointer (some p)]); have q2 : w3.cell? ⟨g2, 0, none⟩ = some (.pointer (some p)) := S4.out.2.2.2.2.2.at' 0; obtain ⟨q0, q1, -, -⟩ := two_of S4.out.2.2.2.2.1; clear k3)
    | (go_at_call 10; refine (HRi.out _ _ (heap_alloc_new w3 _)).mono ?_; rintro e w4 ⟨rfl, k4⟩; have k4' := thru (ba1 w3 _) k4; have S5 := Lib.hid (⟨thruS hO S4.out.1 k4', thru S4.out.2.1 k4', S4.out.2.2.1.below (by simp) k4', S4.out.2.2.2.1.below (by simp) k4', S4.out.2.2.2.2.1.below (by simp) k4', S4.out.2.2.2.2.2.below (by simp) k4'⟩ : S w4 F p fs ∧ Below w.heap.size w w4 ∧ RowAt w4 g4 [.int .i64 f] ∧ RowAt w4 g5 [.int .i64 t] ∧ RowAt w4 g1 (zcells z) ∧ RowAt w4 g2 [.pointer (some p)]); clear k4 k4'))
  clear q0 q1 q2
  have c4 : w4.cell? ⟨g4, 0, none⟩ = some (.int .i64 f) := S5.out.2.2.1.at' 0
  have c5 : w4.cell? ⟨g5, 0, none⟩ = some (.int .i64 t) := S5.out.2.2.2.1.at' 0
  go_upto_region 5 with fail
  clear c4 c5
  generalize hV : World.alloc w4 _ = V4
  obtain ⟨g3, hg3⟩ : ∃ g3, w4.heap.size = g3 := ⟨_, rfl⟩
  have k4 : Below w4.heap.size w4 V4 := by rw [← hV]; exact ba1 _ _
  have z4 : RowAt V4 g3 (two f t) := by rw [← hV, ← hg3]; exact RowAt.new w4 _ _
  rw [hg3]
  have hF3 : ∀ k, F k → k < V4.heap.size := hO.lt _ _ _ _ (thruS hO S5.out.1 k4)
  have S6 := Lib.hid (⟨thruS hO S5.out.1 k4, thru S5.out.2.1 k4, ⟨S5.out.2.2.2.2.1.below (by simp) k4, S5.out.2.2.2.2.2.below (by simp) k4, z4, S5.out.2.2.1.below (by simp) k4, S5.out.2.2.2.1.below (by simp) k4⟩, hF3⟩ : S V4 F p fs ∧ Below w.heap.size w V4 ∧ Caught V4 g1 g2 g3 g4 g5 p z f t ∧ ∀ k, F k → k < V4.heap.size)
  clear hV hg3 k4 z4 hF3 S1 S2 S3 S4 S5
  obtain ⟨c0, c1, c2, c3, c4, c5, c6⟩ := S6.out.2.2.1.all
  go_upto_region 6 with (first
    | (go_at_call 22; refine (lnew_any _ p f t y).mono ?_; rintro e w5 ⟨⟨b, rfl, hb, hbl⟩, k5⟩; have S7 := Lib.hid (⟨thruS hO S6.out.1 k5, thru S6.out.2.1 k5, S6.out.2.2.1.below k5, hbl fs 0, hb, k5⟩ : S w5 F p fs ∧ Below w.heap.size w w5 ∧ Caught w5 g1 g2 g3 g4 g5 p z f t ∧ Bl w5 p b ⟨fs, f, t, y, 0, []⟩ ∧ V4.heap.size ≤ b ∧ Below V4.heap.size V4 w5); clear hbl hb k5))
  clear c0 c1 c2 c3 c4 c5 c6
  have hN := HNL.out
  have hmid : Mid 0 ⟨fs, f, t, y, 0, []⟩ := ⟨hN.h49, (by show -4503599627370496 ≤ f; have := hN.f1; omega), (by show f ≤ 4503599627370496; have := hN.f2; omega), (by show -4503599627370496 ≤ t; have := hN.t1; omega), (by show t ≤ 4503599627370496; have := hN.t2; omega), (by show -281474976710656 ≤ y; have := hN.y1; omega), (by show y ≤ 562949953421312 + ((0 : Nat) : Int) * 2147483648; have := hN.y2; omega), fun x hx => (by cases hx), Nat.zero_le _, fun e => absurd rfl e, fun e => absurd rfl e⟩
  have hmid1 := hmid.add HRZ.out
  have hFb : ¬ F b := fun q => by have := S6.out.2.2.2 b q; have := S7.out.2.2.2.2.1; omega
  have HAd := Lib.hid (ladd_any hO w5 F p b ⟨fs, f, t, y, 0, []⟩ z S7.out.1 S7.out.2.2.2.1 hFb (hmid.fine (by omega)) HRZ.out)
  rw [add_nil (m := ⟨fs, f, t, y, 0, []⟩) rfl z] at HAd hmid1
  have HFb := Lib.hid hFb
  have HMD := Lib.hid hmid1
  have HB := Lib.hid (topL_is z hN.h49 (by have := hN.f1; omega : -4503599627370496 ≤ f) (by have := hN.t2; omega : t ≤ 4503599627370496) (by have := hN.y1; omega : -4503599627370496 ≤ y))
  obtain ⟨tp, htp⟩ : ∃ tp, topL fs f t z y = tp := ⟨_, rfl⟩
  have hz1 := HRZ.out.h1
  have HLN := Lib.hid (⟨htp, rfl, by show (0 : Int) + z.wd = z.wd; omega⟩ : (lnOf (Mk.fresh ⟨fs, f, t, y, 0, []⟩ z)).t = tp ∧ (lnOf (Mk.fresh ⟨fs, f, t, y, 0, []⟩ z)).a = 1 ∧ (lnOf (Mk.fresh ⟨fs, f, t, y, 0, []⟩ z)).w = z.wd)
  have htb := topL_b z hN.h49 (by have := hN.f1; omega : -4503599627370496 ≤ f) (by have := hN.t2; omega : t ≤ 4503599627370496) (by have := hN.y1; omega : -4503599627370496 ≤ y)
  rw [htp] at HB htb
  have HTB := Lib.hid htb
  obtain ⟨m1, hm1⟩ : ∃ m1, Mk.fresh ⟨fs, f, t, y, 0, []⟩ z = m1 := ⟨_, rfl⟩
  have hmfs : m1.fs = fs := by rw [← hm1]; rfl
  have hmne : m1.az ≠ [] := by rw [← hm1]; show [z] ≠ []; simp
  rw [hm1] at HAd HMD HLN
  have HM1 := Lib.hid (⟨hmfs, hmne⟩ : m1.fs = fs ∧ m1.az ≠ [])
  obtain ⟨x, hx⟩ : ∃ x, lnOf m1 = x := ⟨_, rfl⟩
  rw [hx] at HLN
  have HX := Lib.hid hx
  clear hN hmid hmid1 hFb htp hz1 htb hm1 hmfs hmne hx
  obtain ⟨c0, c1, c2, c3, c4, c5, c6⟩ := S7.out.2.2.1.all
  go_upto_region 8 with (first
    | (go_at_call 23; refine HAd.out.mono ?_; rintro e w6 ⟨rfl, hb6, k6⟩; have S8 := Lib.hid (⟨hO.keep _ _ _ _ _ _ S7.out.1 k6 (fun j hj e => HFb.out (by rw [← e]; exact hj)), S7.out.2.1.trans (k6.below S7.out.2.1.size (fun j e => by have := S6.out.2.1.size; have := S7.out.2.2.2.2.1; omega)), caught_but S6.out.2.2.1 S7.out.2.2.1 S7.out.2.2.2.2.1 k6, hb6⟩ : S w6 F p fs ∧ Below w.heap.size w w6 ∧ Caught w6 g1 g2 g3 g4 g5 p z f t ∧ Bl w6 p b m1); clear hb6 k6))
  clear c0 c1 c2 c3 c4 c5 c6
  have HNo := Lib.hid (lnow_some hO w6 F p b m1 (by rw [HM1.out.1]; exact S8.out.1) S8.out.2.2.2 HM1.out.2 (HMD.out.fine (by omega)))
  rw [HX.out] at HNo
  go_upto_region 9 with (first
    | (go_at_call 24; refine HNo.out.mono ?_; rintro e w7 ⟨rfl, k7⟩; have S9 := Lib.hid (⟨thruS hO S8.out.1 k7, thru S8.out.2.1 k7, S8.out.2.2.1.below k7⟩ : S w7 F p fs ∧ Below w.heap.size w w7 ∧ Caught w7 g1 g2 g3 g4 g5 p z f t); clear k7))
  generalize hV : World.alloc w7 _ = V7
  obtain ⟨b7, hb7⟩ : ∃ b7, w7.heap.size = b7 := ⟨_, rfl⟩
  have k7 : Below w7.heap.size w7 V7 := by rw [← hV]; exact ba1 _ _
  have z7 : RowAt V7 b7 (lnrow x) := by rw [← hV, ← hb7]; exact RowAt.new w7 _ _
  rw [hb7]
  have S10 := Lib.hid (⟨thruS hO S9.out.1 k7, thru S9.out.2.1 k7, S9.out.2.2.below k7, z7⟩ : S V7 F p fs ∧ Below w.heap.size w V7 ∧ Caught V7 g1 g2 g3 g4 g5 p z f t ∧ RowAt V7 b7 (lnrow x))
  clear hV hb7 k7 z7 S6 S7 S8 S9
  obtain ⟨c0, c1, c2, c3, c4, c5, c6⟩ := S10.out.2.2.1.all
  obtain ⟨r0, r1, r2, r3, r4, r5⟩ := lat_of S10.out.2.2.2
  have n1 : ¬ x.t < y := by rw [HLN.out.1]; have := HTB.out.1; omega
  have n2 : (x.a != 1) = false := by rw [HLN.out.2.1]; rfl
  have n3 : x.w = z.wd := HLN.out.2.2
  have hxt := HLN.out.1
  go_upto_region 12 with fail
  clear n1 n2 n3 c0 c1 c2 c3 c4 c5 c6 r0 r1 r2 r3 r4 r5
  obtain ⟨mn, hmn⟩ : ∃ mn, min tp (y + 100) = mn := ⟨_, rfl⟩
  have HMN := Lib.hid hmn
  have HXT := Lib.hid hxt
  clear hmn hxt
  go_wp2_with fail
  go_loopw [17] (fun i wr => ∃ k : Int, i = .int .i64 k ∧ Hid (y ≤ k ∧ k ≤ max y tp ∧ S wr F p fs ∧ Below w.heap.size w wr ∧ Caught wr g1 g2 g3 g4 g5 p z f t ∧ RowAt wr b7 (lnrow x))) (fun i _ => (tp - intOf i).toNat)
  case atStart => exact ⟨y, rfl, Lib.hid ⟨Int.le_refl _, by omega, S10.out⟩⟩
  case round =>
    obtain ⟨k, rfl, H⟩ := hrel
    have htb := HTB.out
    have hyN := HNL.out.y1
    have hyM := HNL.out.y2
    have hk1 := H.out.1
    have hk2 := H.out.2.1
    have hwk : IntKind.i64.wrap (k + 1) = k + 1 := IntWalk.i64_in _ (by omega)
    have hwy : IntKind.i64.wrap (y + 100) = y + 100 := IntWalk.i64_in _ (by omega)
    have HRm := Lib.hid (fun w1 qq (hq : -4503599627370496 ≤ qq ∧ qq ≤ 4503599627370496) (h1 : S w1 F p fs) (h2 : Caught w1 g1 g2 g3 g4 g5 p z f t) => lroom_any hO w1 F p fs g1 g2 g3 g4 g5 z f t qq h1 HNL.out.h49 h2 HRZ.out ⟨HNL.out.f1, HNL.out.f2⟩ ⟨HNL.out.t1, HNL.out.t2⟩ hq)
    have HKB := Lib.hid (⟨by omega, by omega, by omega⟩ : -4503599627370496 ≤ k ∧ k ≤ 4503599627370496 ∧ (-4503599627370496 ≤ tp ∧ tp ≤ 4503599627370496))
    clear htb hyN hyM hk1 hk2
    obtain ⟨r0, r1, r2, r3, r4, r5⟩ := lat_of H.out.2.2.2.2.2
    rw [HXT.out] at r1
    go_upto_region 13 with fail
    go_cut [86] (fun u wx => u = .bool (decide (k < mn)) ∧ wx = wr)
    case first =>
      have hmn := HMN.out
      rcases Int.lt_or_le tp (y + 100) with hq | hq
      · obtain rfl : tp = mn := by omega
        go_wp2_with fail
        all_goals (go_meet; exact ⟨congrArg Value.bool (decide_eq_decide.2 (by omega)), rfl⟩)
      · obtain rfl : y + 100 = mn := by omega
        go_wp2_with fail
        all_goals (go_meet; exact ⟨congrArg Value.bool (decide_eq_decide.2 (by omega)), rfl⟩)
    case rest =>
      obtain ⟨rfl, rfl⟩ := hcut
      by_cases hlt : k < mn
      · have hd : decide (k < mn) = true := decide_eq_true hlt
        rw [hd]
        have hno : okL fs f t z k = false := HB.out.2.2 k H.out.1 (by have := HMN.out; omega)
        have HR1 := Lib.hid (HRm.out wc k ⟨HKB.out.1, HKB.out.2.1⟩ H.out.2.2.1 H.out.2.2.2.2.1)
        rw [hno] at HR1
        have HK := Lib.hid hlt
        clear hd hno hlt
        go_wp2_with (first
          | (go_at_call 25; refine HR1.out.mono ?_; rintro e w8 ⟨rfl, k8⟩; have S8 := Lib.hid (⟨thruS hO H.out.2.2.1 k8, thru H.out.2.2.2.1 k8, H.out.2.2.2.2.1.below k8, H.out.2.2.2.2.2.below (by simp) k8⟩ : S w8 F p fs ∧ Below w.heap.size w w8 ∧ Caught w8 g1 g2 g3 g4 g5 p z f t ∧ RowAt w8 b7 (lnrow x)); clear k8))
        go_roundw
        case rel => exact ⟨k + 1, rfl, Lib.hid ⟨by have := H.out.1; omega, by have := HK.out; have := HMN.out; omega, S8.out⟩⟩
        case measure => have := HK.out; have := HMN.out; simp [intOf]; omega
      · have hd : decide (k < mn) = false := decide_eq_false hlt
        rw [hd]
        have HR1 := Lib.hid (HRm.out wc tp HKB.out.2.2 H.out.2.2.1 H.out.2.2.2.2.1)
        rw [HB.out.2.1] at HR1
        clear hd hlt
        go_wp2_with (first
          | (go_at_call 25; refine HR1.out.mono ?_; rintro e w8 ⟨rfl, k8⟩; have S8 := Lib.hid (thru H.out.2.2.2.1 k8); clear k8))
        go_ret
        exact ⟨rfl, S8.out⟩

theorem first_any (hO : SpaceOk S) (A : Option Addr) (n c : Nat) (fs : List Fl) (f t y : Int) (z : Sz) (w : World) (hn : n = fs.length) (hx : Floats w w.heap.size A fs) :
    Calls Try.prog 7 #[.slice A n c, .int .i64 f, .int .i64 t, .int .i64 y, .agg #[.int .i64 z.wd, .int .i64 z.ht]] w fun e w' => e = .returned (.bool true) ∧ Below w.heap.size w w' := by
  by_cases hh : (nearL fs f t y && decide ((n : Int) ≤ 20)) = true
  · simp only [Bool.and_eq_true, decide_eq_true_eq] at hh
    by_cases hr : rightS z = true
    · exact first_yes hO A n c fs f t y z w hn hx (by omega) hh.1 hr
    · exact first_wrong hO A n c fs f t y z w hn hx (by omega) hh.1 (by simpa using hr)
  · exact first_few hO A n c fs f t y z w hn hx (by simpa using hh)

end

end Go.Proofs.Ytmgokpdeolnidaa.Line
