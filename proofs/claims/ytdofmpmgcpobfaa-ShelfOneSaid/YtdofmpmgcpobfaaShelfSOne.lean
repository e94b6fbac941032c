/- The law of one float. -/
import Derived.Test.YtdofmpmgcpobfaaShelfSLays
import Derived.Test.YtdofmpmgcpobfaaShelfSMath3
import Derived.BigQuiet
namespace Go.Proofs.Ytdofmpmgcpobfaa.Shelf
open Go.RowKit Go.Sort Go.Proofs.Ytdofmpmgcpobfaa.Rect Go.Proofs.Ytdofmpmgcpobfaa.More
set_option linter.unusedVariables false

theorem floats_one {w : World} {sb : Nat} {f : Fl} (h0 : w.cell? ⟨sb, 0, none⟩ = some (.int .i64 f.s)) (h1 : w.cell? ⟨sb, 1, none⟩ = some (.int .i64 f.l)) (h2 : w.cell? ⟨sb, 2, none⟩ = some (.int .i64 f.t)) (h3 : w.cell? ⟨sb, 3, none⟩ = some (.int .i64 f.r)) (h4 : w.cell? ⟨sb, 4, none⟩ = some (.int .i64 f.b)) :
    Floats w w.heap.size (some ⟨sb, 0, none⟩) [f] := fun k g hk => by
  cases k with
  | succ k => simp at hk
  | zero =>
    have e : f = g := by simpa using hk
    subst e
    refine ⟨_, rfl, block_lt_of_cell h0, ?_⟩
    rw [Nat.zero_mul]
    exact ⟨by simpa [Addr.add] using h0, by simpa [Addr.add] using h1, by simpa [Addr.add] using h2, by simpa [Addr.add] using h3, by simpa [Addr.add] using h4⟩

section
variable {L : World → Nat → Addr → List Fl → Prop}

set_option maxRecDepth 100000 in
set_option maxHeartbeats 1000000 in
theorem one_far (hO : ListOk L) (f : Fl) (w : World) (hf : nearF f = false) :
    Calls Try.prog 8 #[.agg #[.int .i64 f.s, .int .i64 f.l, .int .i64 f.t, .int .i64 f.r, .int .i64 f.b]] w fun e w' => e = .returned (.bool true) ∧ Below w.heap.size w w' := by
  have HSm := Lib.hid (fun w1 => smallR_is f.l f.t f.r f.b false hf w1)
  clear hf
  go_enter Try.func8, Try.ntmps8
  go_upto_region 1 with fail
  generalize hW : World.alloc w _ = W
  obtain ⟨fb, hfb⟩ : ∃ fb, w.heap.size = fb := ⟨_, rfl⟩
  have hkW : Below w.heap.size w W := by rw [← hW]; exact ba1 _ _
  have e1 : W.cell? ⟨fb, 1, none⟩ = some (.int .i64 f.l) := by rw [← hW, ← hfb]; simp [go_sem]
  have e2 : W.cell? ⟨fb, 2, none⟩ = some (.int .i64 f.t) := by rw [← hW, ← hfb]; simp [go_sem]
  have e3 : W.cell? ⟨fb, 3, none⟩ = some (.int .i64 f.r) := by rw [← hW, ← hfb]; simp [go_sem]
  have e4 : W.cell? ⟨fb, 4, none⟩ = some (.int .i64 f.b) := by rw [← hW, ← hfb]; simp [go_sem]
  have HE := Lib.hid (⟨e1, e2, e3, e4⟩ : W.cell? ⟨fb, 1, none⟩ = some (.int .i64 f.l) ∧ W.cell? ⟨fb, 2, none⟩ = some (.int .i64 f.t) ∧ W.cell? ⟨fb, 3, none⟩ = some (.int .i64 f.r) ∧ W.cell? ⟨fb, 4, none⟩ = some (.int .i64 f.b))
  rw [hfb]
  have KW := Lib.hid hkW
  clear hW hkW hfb e1 e2 e3 e4
  go_upto_region 2 with (first
    | (go_at_call 9; refine (sspeaks hO _).mono ?_; rintro e w1 ⟨rfl, k1⟩; have e1 := (k1.cell (p := ⟨fb, 1, none⟩) (block_lt_of_cell HE.out.1)).trans HE.out.1; have e2 := (k1.cell (p := ⟨fb, 2, none⟩) (block_lt_of_cell HE.out.2.1)).trans HE.out.2.1; have e3 := (k1.cell (p := ⟨fb, 3, none⟩) (block_lt_of_cell HE.out.2.2.1)).trans HE.out.2.2.1; have e4 := (k1.cell (p := ⟨fb, 4, none⟩) (block_lt_of_cell HE.out.2.2.2)).trans HE.out.2.2.2; have K1 := Lib.hid (thru KW.out k1); clear k1)
    | (go_at_call 14; refine (HSm.out _).mono ?_; rintro e w2 ⟨rfl, k2⟩; have K2 := Lib.hid (thru K1.out k2); clear k2))
  go_wp2_with (first
    | (go_at_call 9; refine (sspeaks hO _).mono ?_; rintro e w3 ⟨rfl, k3⟩; have K3 := Lib.hid (thru K2.out k3); clear k3))
  go_ret
  exact ⟨rfl, K3.out⟩

/-- The numbers of the float, of the box in which the law keeps it. -/
structure Kept (w : World) (fb : Nat) (f : Fl) : Prop where
  e0 : w.cell? ⟨fb, 0, none⟩ = some (.int .i64 f.s)
  e1 : w.cell? ⟨fb, 1, none⟩ = some (.int .i64 f.l)
  e2 : w.cell? ⟨fb, 2, none⟩ = some (.int .i64 f.t)
  e3 : w.cell? ⟨fb, 3, none⟩ = some (.int .i64 f.r)
  e4 : w.cell? ⟨fb, 4, none⟩ = some (.int .i64 f.b)
theorem Kept.below {w w' : World} {fb : Nat} {f : Fl} (h : Kept w fb f) (k : Below w.heap.size w w') : Kept w' fb f :=
  have hb : fb < w.heap.size := block_lt_of_cell h.e0
  ⟨(k.cell (p := ⟨fb, 0, none⟩) hb).trans h.e0, (k.cell (p := ⟨fb, 1, none⟩) hb).trans h.e1, (k.cell (p := ⟨fb, 2, none⟩) hb).trans h.e2, (k.cell (p := ⟨fb, 3, none⟩) hb).trans h.e3, (k.cell (p := ⟨fb, 4, none⟩) hb).trans h.e4⟩

set_option maxRecDepth 100000 in
set_option maxHeartbeats 1500000 in
theorem one_flat (hO : ListOk L) (f : Fl) (w : World) (hf : nearF f = true) (h1 : ¬ f.l < f.r) :
    Calls Try.prog 8 #[.agg #[.int .i64 f.s, .int .i64 f.l, .int .i64 f.t, .int .i64 f.r, .int .i64 f.b]] w fun e w' => e = .returned (.bool true) ∧ Below w.heap.size w w' := by
  have hall : [f].all nearF = true := by simp [hf]
  have HSm := Lib.hid (fun w1 => smallR_is f.l f.t f.r f.b true hf w1)
  have HBe := Lib.hid (fun w1 sb (h : Floats w1 w1.heap.size (some ⟨sb, 0, none⟩) [f]) => begin_any hO (some ⟨sb, 0, none⟩) 1 1 [f] w1 rfl (by omega) h hall)
  have HSh := Lib.hid (fun w1 B p (h : L w1 B p [f]) => hO.shelves w1 B p [f] h hall)
  have HSS := Lib.hid (show (shelvesD [f]).length = 1 by rw [one_none (near_of hall) (by unfold cntF; simp [h1])]; rfl)
  clear hf hall
  go_enter Try.func8, Try.ntmps8
  go_upto_region 1 with fail
  generalize hW : World.alloc w _ = W
  obtain ⟨fb, hfb⟩ : ∃ fb, w.heap.size = fb := ⟨_, rfl⟩
  have hkW : Below w.heap.size w W := by rw [← hW]; exact ba1 _ _
  have HE := Lib.hid (show Kept W fb f from ⟨by rw [← hW, ← hfb]; simp [go_sem] <;> omega, by rw [← hW, ← hfb]; simp [go_sem], by rw [← hW, ← hfb]; simp [go_sem], by rw [← hW, ← hfb]; simp [go_sem], by rw [← hW, ← hfb]; simp [go_sem]⟩)
  rw [hfb]
  have KW := Lib.hid hkW
  clear hW hkW hfb
  go_upto_region 3 with (first
    | (go_at_call 9; refine (sspeaks hO _).mono ?_; rintro e w1 ⟨rfl, k1⟩; have E1 := Lib.hid (HE.out.below k1); have e1 := E1.out.e1; have e2 := E1.out.e2; have e3 := E1.out.e3; have e4 := E1.out.e4; have K1 := Lib.hid (thru KW.out k1); clear k1)
    | (go_at_call 14; refine (HSm.out _).mono ?_; rintro e w2 ⟨rfl, k2⟩; have E2 := Lib.hid (E1.out.below k2); have K2 := Lib.hid (thru K1.out k2); clear k2 e1 e2 e3 e4))
  have e0 := E2.out.e0
  have e1 := E2.out.e1
  have e2 := E2.out.e2
  have e3 := E2.out.e3
  have e4 := E2.out.e4
  go_upto_region 7 with (first
    | (go_at_call 11; refine (HBe.out _ _ (floats_one (by simp [go_sem] <;> omega) (by simp [go_sem]) (by simp [go_sem]) (by simp [go_sem]) (by simp [go_sem]))).mono ?_; rintro e w3 ⟨⟨p, rfl, hL⟩, k3⟩; have HL := Lib.hid hL; have K3 := Lib.hid (thru (thru K2.out (ba1 w2 _)) k3); have E3 := Lib.hid (E2.out.below (thru (ba1 w2 _) k3)); clear hL k3 e0 e1 e2 e3 e4)
    | (go_at_call 12; refine (HSh.out _ _ _ HL.out).mono ?_; rintro e w4 ⟨⟨Aa, ca, rfl, h4⟩, k4⟩; have MA := Lib.hid h4; have K4 := Lib.hid (thru K3.out k4); have E4 := Lib.hid (E3.out.below k4); clear h4 k4))
  have e0 := E4.out.e0
  have e1 := E4.out.e1
  have e2 := E4.out.e2
  have e3 := E4.out.e3
  have e4 := E4.out.e4
  rw [HSS.out]
  go_wp2_with fail
  go_ret
  exact ⟨rfl, K4.out⟩

set_option maxRecDepth 100000 in
set_option maxHeartbeats 1500000 in
theorem one_low (hO : ListOk L) (f : Fl) (w : World) (hf : nearF f = true) (h1 : f.l < f.r) (h2 : ¬ f.t < f.b) :
    Calls Try.prog 8 #[.agg #[.int .i64 f.s, .int .i64 f.l, .int .i64 f.t, .int .i64 f.r, .int .i64 f.b]] w fun e w' => e = .returned (.bool true) ∧ Below w.heap.size w w' := by
  have hall : [f].all nearF = true := by simp [hf]
  have HSm := Lib.hid (fun w1 => smallR_is f.l f.t f.r f.b true hf w1)
  have HBe := Lib.hid (fun w1 sb (h : Floats w1 w1.heap.size (some ⟨sb, 0, none⟩) [f]) => begin_any hO (some ⟨sb, 0, none⟩) 1 1 [f] w1 rfl (by omega) h hall)
  have HSh := Lib.hid (fun w1 B p (h : L w1 B p [f]) => hO.shelves w1 B p [f] h hall)
  have HSS := Lib.hid (show (shelvesD [f]).length = 1 by rw [one_none (near_of hall) (by unfold cntF; simp [h2])]; rfl)
  clear hf hall
  go_enter Try.func8, Try.ntmps8
  go_upto_region 1 with fail
  generalize hW : World.alloc w _ = W
  obtain ⟨fb, hfb⟩ : ∃ fb, w.heap.size = fb := ⟨_, rfl⟩
  have hkW : Below w.heap.size w W := by rw [← hW]; exact ba1 _ _
  have HE := Lib.hid (show Kept W fb f from ⟨by rw [← hW, ← hfb]; simp [go_sem] <;> omega, by rw [← hW, ← hfb]; simp [go_sem], by rw [← hW, ← hfb]; simp [go_sem], by rw [← hW, ← hfb]; simp [go_sem], by rw [← hW, ← hfb]; simp [go_sem]⟩)
  rw [hfb]
  have KW := Lib.hid hkW
  clear hW hkW hfb
  go_upto_region 3 with (first
    | (go_at_call 9; refine (sspeaks hO _).mono ?_; rintro e w1 ⟨rfl, k1⟩; have E1 := Lib.hid (HE.out.below k1); have e1 := E1.out.e1; have e2 := E1.out.e2; have e3 := E1.out.e3; have e4 := E1.out.e4; have K1 := Lib.hid (thru KW.out k1); clear k1)
    | (go_at_call 14; refine (HSm.out _).mono ?_; rintro e w2 ⟨rfl, k2⟩; have E2 := Lib.hid (E1.out.below k2); have K2 := Lib.hid (thru K1.out k2); clear k2 e1 e2 e3 e4))
  have e0 := E2.out.e0
  have e1 := E2.out.e1
  have e2 := E2.out.e2
  have e3 := E2.out.e3
  have e4 := E2.out.e4
  go_upto_region 7 with (first
    | (go_at_call 11; refine (HBe.out _ _ (floats_one (by simp [go_sem] <;> omega) (by simp [go_sem]) (by simp [go_sem]) (by simp [go_sem]) (by simp [go_sem]))).mono ?_; rintro e w3 ⟨⟨p, rfl, hL⟩, k3⟩; have HL := Lib.hid hL; have K3 := Lib.hid (thru (thru K2.out (ba1 w2 _)) k3); have E3 := Lib.hid (E2.out.below (thru (ba1 w2 _) k3)); clear hL k3 e0 e1 e2 e3 e4)
    | (go_at_call 12; refine (HSh.out _ _ _ HL.out).mono ?_; rintro e w4 ⟨⟨Aa, ca, rfl, h4⟩, k4⟩; have MA := Lib.hid h4; have K4 := Lib.hid (thru K3.out k4); have E4 := Lib.hid (E3.out.below k4); clear h4 k4))
  have e0 := E4.out.e0
  have e1 := E4.out.e1
  have e2 := E4.out.e2
  have e3 := E4.out.e3
  have e4 := E4.out.e4
  rw [HSS.out]
  go_wp2_with fail
  go_ret
  exact ⟨rfl, K4.out⟩

set_option maxRecDepth 100000 in
set_option maxHeartbeats 1500000 in
theorem one_nowhere (hO : ListOk L) (f : Fl) (w : World) (hf : nearF f = true) (h1 : f.l < f.r) (h2 : f.t < f.b) (h3 : ¬ f.s = 1) (h4 : ¬ f.s = 2) :
    Calls Try.prog 8 #[.agg #[.int .i64 f.s, .int .i64 f.l, .int .i64 f.t, .int .i64 f.r, .int .i64 f.b]] w fun e w' => e = .returned (.bool true) ∧ Below w.heap.size w w' := by
  have hall : [f].all nearF = true := by simp [hf]
  have HSm := Lib.hid (fun w1 => smallR_is f.l f.t f.r f.b true hf w1)
  have HBe := Lib.hid (fun w1 sb (h : Floats w1 w1.heap.size (some ⟨sb, 0, none⟩) [f]) => begin_any hO (some ⟨sb, 0, none⟩) 1 1 [f] w1 rfl (by omega) h hall)
  have HSh := Lib.hid (fun w1 B p (h : L w1 B p [f]) => hO.shelves w1 B p [f] h hall)
  have HSS := Lib.hid (show (shelvesD [f]).length = 1 by rw [one_none (near_of hall) (by unfold cntF; simp [h3, h4])]; rfl)
  have h3b : (f.s == 1) = false := by simp [h3]
  have h4b : (f.s == 2) = false := by simp [h4]
  clear hf hall
  go_enter Try.func8, Try.ntmps8
  go_upto_region 1 with fail
  generalize hW : World.alloc w _ = W
  obtain ⟨fb, hfb⟩ : ∃ fb, w.heap.size = fb := ⟨_, rfl⟩
  have hkW : Below w.heap.size w W := by rw [← hW]; exact ba1 _ _
  have HE := Lib.hid (show Kept W fb f from ⟨by rw [← hW, ← hfb]; simp [go_sem] <;> omega, by rw [← hW, ← hfb]; simp [go_sem], by rw [← hW, ← hfb]; simp [go_sem], by rw [← hW, ← hfb]; simp [go_sem], by rw [← hW, ← hfb]; simp [go_sem]⟩)
  rw [hfb]
  have KW := Lib.hid hkW
  clear hW hkW hfb
  go_upto_region 3 with (first
    | (go_at_call 9; refine (sspeaks hO _).mono ?_; rintro e w1 ⟨rfl, k1⟩; have E1 := Lib.hid (HE.out.below k1); have e1 := E1.out.e1; have e2 := E1.out.e2; have e3 := E1.out.e3; have e4 := E1.out.e4; have K1 := Lib.hid (thru KW.out k1); clear k1)
    | (go_at_call 14; refine (HSm.out _).mono ?_; rintro e w2 ⟨rfl, k2⟩; have E2 := Lib.hid (E1.out.below k2); have K2 := Lib.hid (thru K1.out k2); clear k2 e1 e2 e3 e4))
  have e0 := E2.out.e0
  have e1 := E2.out.e1
  have e2 := E2.out.e2
  have e3 := E2.out.e3
  have e4 := E2.out.e4
  go_upto_region 7 with (first
    | (go_at_call 11; refine (HBe.out _ _ (floats_one (by simp [go_sem] <;> omega) (by simp [go_sem]) (by simp [go_sem]) (by simp [go_sem]) (by simp [go_sem]))).mono ?_; rintro e w3 ⟨⟨p, rfl, hL⟩, k3⟩; have HL := Lib.hid hL; have K3 := Lib.hid (thru (thru K2.out (ba1 w2 _)) k3); have E3 := Lib.hid (E2.out.below (thru (ba1 w2 _) k3)); clear hL k3 e0 e1 e2 e3 e4)
    | (go_at_call 12; refine (HSh.out _ _ _ HL.out).mono ?_; rintro e w4 ⟨⟨Aa, ca, rfl, h4⟩, k4⟩; have MA := Lib.hid h4; have K4 := Lib.hid (thru K3.out k4); have E4 := Lib.hid (E3.out.below k4); clear h4 k4))
  have e0 := E4.out.e0
  have e1 := E4.out.e1
  have e2 := E4.out.e2
  have e3 := E4.out.e3
  have e4 := E4.out.e4
  rw [HSS.out]
  go_wp2_with fail
  go_ret
  exact ⟨rfl, K4.out⟩

set_option maxRecDepth 100000 in
set_option maxHeartbeats 1500000 in
theorem one_at_left (hO : ListOk L) (f : Fl) (w : World) (hf : nearF f = true) (h1 : f.l < f.r) (h2 : f.t < f.b) (h3 : f.s = 1) :
    Calls Try.prog 8 #[.agg #[.int .i64 f.s, .int .i64 f.l, .int .i64 f.t, .int .i64 f.r, .int .i64 f.b]] w fun e w' => e = .returned (.bool true) ∧ Below w.heap.size w w' := by
  have hall : [f].all nearF = true := by simp [hf]
  have HSm := Lib.hid (fun w1 => smallR_is f.l f.t f.r f.b true hf w1)
  have HBe := Lib.hid (fun w1 sb (h : Floats w1 w1.heap.size (some ⟨sb, 0, none⟩) [f]) => begin_any hO (some ⟨sb, 0, none⟩) 1 1 [f] w1 rfl (by omega) h hall)
  have HSh := Lib.hid (fun w1 B p (h : L w1 B p [f]) => hO.shelves w1 B p [f] h hall)
  have hb := List.all_eq_true.1 (show [f.l, f.t, f.r, f.b].all inS = true from hf) f.r (by simp)
  have HSS := Lib.hid (show shelvesD [f] = [(-far, (-far, far)), (f.t, (f.r, far)), (f.b, (-far, far))] from one_left (near_of hall) (by unfold cntF; simp [h1, h2, h3]) h3 (by have := (inS_iff.1 hb).1; unfold far; omega))
  clear hb
  clear hf hall
  go_enter Try.func8, Try.ntmps8
  go_upto_region 1 with fail
  generalize hW : World.alloc w _ = W
  obtain ⟨fb, hfb⟩ : ∃ fb, w.heap.size = fb := ⟨_, rfl⟩
  have hkW : Below w.heap.size w W := by rw [← hW]; exact ba1 _ _
  have HE := Lib.hid (show Kept W fb f from ⟨by rw [← hW, ← hfb]; simp [go_sem] <;> omega, by rw [← hW, ← hfb]; simp [go_sem], by rw [← hW, ← hfb]; simp [go_sem], by rw [← hW, ← hfb]; simp [go_sem], by rw [← hW, ← hfb]; simp [go_sem]⟩)
  rw [hfb]
  have KW := Lib.hid hkW
  clear hW hkW hfb
  go_upto_region 3 with (first
    | (go_at_call 9; refine (sspeaks hO _).mono ?_; rintro e w1 ⟨rfl, k1⟩; have E1 := Lib.hid (HE.out.below k1); have e1 := E1.out.e1; have e2 := E1.out.e2; have e3 := E1.out.e3; have e4 := E1.out.e4; have K1 := Lib.hid (thru KW.out k1); clear k1)
    | (go_at_call 14; refine (HSm.out _).mono ?_; rintro e w2 ⟨rfl, k2⟩; have E2 := Lib.hid (E1.out.below k2); have K2 := Lib.hid (thru K1.out k2); clear k2 e1 e2 e3 e4))
  have e0 := E2.out.e0
  have e1 := E2.out.e1
  have e2 := E2.out.e2
  have e3 := E2.out.e3
  have e4 := E2.out.e4
  go_upto_region 7 with (first
    | (go_at_call 11; refine (HBe.out _ _ (floats_one (by simp [go_sem] <;> omega) (by simp [go_sem]) (by simp [go_sem]) (by simp [go_sem]) (by simp [go_sem]))).mono ?_; rintro e w3 ⟨⟨p, rfl, hL⟩, k3⟩; have HL := Lib.hid hL; have K3 := Lib.hid (thru (thru K2.out (ba1 w2 _)) k3); have E3 := Lib.hid (E2.out.below (thru (ba1 w2 _) k3)); clear hL k3 e0 e1 e2 e3 e4)
    | (go_at_call 12; refine (HSh.out _ _ _ HL.out).mono ?_; rintro e w4 ⟨⟨Aa, ca, rfl, h4⟩, k4⟩; have MA := Lib.hid h4; have K4 := Lib.hid (thru K3.out k4); have E4 := Lib.hid (E3.out.below k4); clear h4 k4))
  have e0 := E4.out.e0
  have e1 := E4.out.e1
  have e2 := E4.out.e2
  have e3 := E4.out.e3
  have e4 := E4.out.e4
  rw [HSS.out] at MA
  obtain ⟨ga, rfl, -, -, -, -⟩ := MineE.form MA.out (by simp)
  have g3 : w4.cell? ⟨ga, 3, none⟩ = some (.int .i64 f.t) := MineE.at MA.out 1 _ rfl 0 (by decide)
  have g4 : w4.cell? ⟨ga, 4, none⟩ = some (.int .i64 f.r) := MineE.at MA.out 1 _ rfl 1 (by decide)
  have g5 : w4.cell? ⟨ga, 5, none⟩ = some (.int .i64 4503599627370496) := MineE.at MA.out 1 _ rfl 2 (by decide)
  have g6 : w4.cell? ⟨ga, 6, none⟩ = some (.int .i64 f.b) := MineE.at MA.out 2 _ rfl 0 (by decide)
  have HG := Lib.hid (fun w' (j : Below w4.heap.size w4 w') => (⟨(j.cell (p := ⟨ga, 4, none⟩) (block_lt_of_cell g4)).trans g4, (j.cell (p := ⟨ga, 5, none⟩) (block_lt_of_cell g5)).trans g5⟩ : w'.cell? ⟨ga, 4, none⟩ = some (.int .i64 f.r) ∧ w'.cell? ⟨ga, 5, none⟩ = some (.int .i64 4503599627370496)))
  rw [HSS.out]
  go_upto_region 10 with fail
  go_quiet (fail)
  have q : Below w4.heap.size w4 (w4.drewN nq) := ⟨rfl, rfl, rfl, Nat.le_refl _, fun _ _ => rfl⟩
  clear e0 e1 e2 e3 e4 g3 g4 g5 g6
  generalize w4.drewN nq = w5 at q ⊢
  have E5 := Lib.hid (E4.out.below q)
  have K5 := Lib.hid (thru K4.out q)
  obtain ⟨g4, g5⟩ := HG.out w5 q
  have e0 := E5.out.e0
  have e1 := E5.out.e1
  have e3 := E5.out.e3
  clear q
  go_upto_region 13 with fail
  go_quiet (fail)
  have q : Below w5.heap.size w5 (w5.drewN nq) := ⟨rfl, rfl, rfl, Nat.le_refl _, fun _ _ => rfl⟩
  clear e0 e1 e3 g4 g5
  generalize w5.drewN nq = w6 at q ⊢
  have K6 := Lib.hid (thru K5.out q)
  clear q
  go_wp2_with fail
  go_ret
  exact ⟨rfl, K6.out⟩

set_option maxRecDepth 100000 in
set_option maxHeartbeats 1500000 in
theorem one_at_right (hO : ListOk L) (f : Fl) (w : World) (hf : nearF f = true) (h1 : f.l < f.r) (h2 : f.t < f.b) (h3 : f.s = 2) :
    Calls Try.prog 8 #[.agg #[.int .i64 f.s, .int .i64 f.l, .int .i64 f.t, .int .i64 f.r, .int .i64 f.b]] w fun e w' => e = .returned (.bool true) ∧ Below w.heap.size w w' := by
  have hall : [f].all nearF = true := by simp [hf]
  have HSm := Lib.hid (fun w1 => smallR_is f.l f.t f.r f.b true hf w1)
  have HBe := Lib.hid (fun w1 sb (h : Floats w1 w1.heap.size (some ⟨sb, 0, none⟩) [f]) => begin_any hO (some ⟨sb, 0, none⟩) 1 1 [f] w1 rfl (by omega) h hall)
  have HSh := Lib.hid (fun w1 B p (h : L w1 B p [f]) => hO.shelves w1 B p [f] h hall)
  have hb := List.all_eq_true.1 (show [f.l, f.t, f.r, f.b].all inS = true from hf) f.l (by simp)
  have HSS := Lib.hid (show shelvesD [f] = [(-far, (-far, far)), (f.t, (-far, f.l)), (f.b, (-far, far))] from one_right (near_of hall) (by unfold cntF; simp [h1, h2, h3]) h3 (by have := (inS_iff.1 hb).2; unfold far; omega))
  clear hb
  clear hf hall
  go_enter Try.func8, Try.ntmps8
  go_upto_region 1 with fail
  generalize hW : World.alloc w _ = W
  obtain ⟨fb, hfb⟩ : ∃ fb, w.heap.size = fb := ⟨_, rfl⟩
  have hkW : Below w.heap.size w W := by rw [← hW]; exact ba1 _ _
  have HE := Lib.hid (show Kept W fb f from ⟨by rw [← hW, ← hfb]; simp [go_sem] <;> omega, by rw [← hW, ← hfb]; simp [go_sem], by rw [← hW, ← hfb]; simp [go_sem], by rw [← hW, ← hfb]; simp [go_sem], by rw [← hW, ← hfb]; simp [go_sem]⟩)
  rw [hfb]
  have KW := Lib.hid hkW
  clear hW hkW hfb
  go_upto_region 3 with (first
    | (go_at_call 9; refine (sspeaks hO _).mono ?_; rintro e w1 ⟨rfl, k1⟩; have E1 := Lib.hid (HE.out.below k1); have e1 := E1.out.e1; have e2 := E1.out.e2; have e3 := E1.out.e3; have e4 := E1.out.e4; have K1 := Lib.hid (thru KW.out k1); clear k1)
    | (go_at_call 14; refine (HSm.out _).mono ?_; rintro e w2 ⟨rfl, k2⟩; have E2 := Lib.hid (E1.out.below k2); have K2 := Lib.hid (thru K1.out k2); clear k2 e1 e2 e3 e4))
  have e0 := E2.out.e0
  have e1 := E2.out.e1
  have e2 := E2.out.e2
  have e3 := E2.out.e3
  have e4 := E2.out.e4
  go_upto_region 7 with (first
    | (go_at_call 11; refine (HBe.out _ _ (floats_one (by simp [go_sem] <;> omega) (by simp [go_sem]) (by simp [go_sem]) (by simp [go_sem]) (by simp [go_sem]))).mono ?_; rintro e w3 ⟨⟨p, rfl, hL⟩, k3⟩; have HL := Lib.hid hL; have K3 := Lib.hid (thru (thru K2.out (ba1 w2 _)) k3); have E3 := Lib.hid (E2.out.below (thru (ba1 w2 _) k3)); clear hL k3 e0 e1 e2 e3 e4)
    | (go_at_call 12; refine (HSh.out _ _ _ HL.out).mono ?_; rintro e w4 ⟨⟨Aa, ca, rfl, h4⟩, k4⟩; have MA := Lib.hid h4; have K4 := Lib.hid (thru K3.out k4); have E4 := Lib.hid (E3.out.below k4); clear h4 k4))
  have e0 := E4.out.e0
  have e1 := E4.out.e1
  have e2 := E4.out.e2
  have e3 := E4.out.e3
  have e4 := E4.out.e4
  rw [HSS.out] at MA
  obtain ⟨ga, rfl, -, -, -, -⟩ := MineE.form MA.out (by simp)
  have g3 : w4.cell? ⟨ga, 3, none⟩ = some (.int .i64 f.t) := MineE.at MA.out 1 _ rfl 0 (by decide)
  have g4 : w4.cell? ⟨ga, 4, none⟩ = some (.int .i64 (-4503599627370496)) := MineE.at MA.out 1 _ rfl 1 (by decide)
  have g5 : w4.cell? ⟨ga, 5, none⟩ = some (.int .i64 f.l) := MineE.at MA.out 1 _ rfl 2 (by decide)
  have g6 : w4.cell? ⟨ga, 6, none⟩ = some (.int .i64 f.b) := MineE.at MA.out 2 _ rfl 0 (by decide)
  have HG := Lib.hid (fun w' (j : Below w4.heap.size w4 w') => (⟨(j.cell (p := ⟨ga, 4, none⟩) (block_lt_of_cell g4)).trans g4, (j.cell (p := ⟨ga, 5, none⟩) (block_lt_of_cell g5)).trans g5⟩ : w'.cell? ⟨ga, 4, none⟩ = some (.int .i64 (-4503599627370496)) ∧ w'.cell? ⟨ga, 5, none⟩ = some (.int .i64 f.l)))
  rw [HSS.out]
  go_upto_region 10 with fail
  go_quiet (fail)
  have q : Below w4.heap.size w4 (w4.drewN nq) := ⟨rfl, rfl, rfl, Nat.le_refl _, fun _ _ => rfl⟩
  clear e0 e1 e2 e3 e4 g3 g4 g5 g6
  generalize w4.drewN nq = w5 at q ⊢
  have E5 := Lib.hid (E4.out.below q)
  have K5 := Lib.hid (thru K4.out q)
  obtain ⟨g4, g5⟩ := HG.out w5 q
  have e0 := E5.out.e0
  have e1 := E5.out.e1
  have e3 := E5.out.e3
  clear q
  go_upto_region 14 with fail
  go_quiet (fail)
  have q : Below w5.heap.size w5 (w5.drewN nq) := ⟨rfl, rfl, rfl, Nat.le_refl _, fun _ _ => rfl⟩
  clear e0 e1 e3 g4 g5
  generalize w5.drewN nq = w6 at q ⊢
  have K6 := Lib.hid (thru K5.out q)
  clear q
  go_wp2_with fail
  go_ret
  exact ⟨rfl, K6.out⟩

theorem one_any (hO : ListOk L) (f : Fl) (w : World) :
    Calls Try.prog 8 #[.agg #[.int .i64 f.s, .int .i64 f.l, .int .i64 f.t, .int .i64 f.r, .int .i64 f.b]] w fun e w' => e = .returned (.bool true) ∧ Below w.heap.size w w' := by
  cases hf : nearF f
  · exact one_far hO f w hf
  · by_cases h1 : f.l < f.r
    · by_cases h2 : f.t < f.b
      · by_cases h3 : f.s = 1
        · exact one_at_left hO f w hf h1 h2 h3
        · by_cases h4 : f.s = 2
          · exact one_at_right hO f w hf h1 h2 h4
          · exact one_nowhere hO f w hf h1 h2 h3 h4
      · exact one_low hO f w hf h1 h2
    · exact one_flat hO f w hf h1
end

end Go.Proofs.Ytdofmpmgcpobfaa.Shelf
