/- The law's example. -/
import Derived.Test.YtpfcefflcmeobaaSpacePOk
import Derived.Test.YtpfcefflcmeobaaShelfSLays
namespace Go.Proofs.Ytpfcefflcmeobaa.Space
open Go.RowKit Go.Sort Go.Proofs.Ytpfcefflcmeobaa.Rect Go.Proofs.Ytpfcefflcmeobaa.More Go.Proofs.Ytpfcefflcmeobaa.Shelf
set_option linter.unusedVariables false

/-- The example's float. -/
def exP : Fl := ⟨1, 0, 2, 3, 5⟩

section
variable {S : World → (Nat → Prop) → Addr → List Fl → Prop}

theorem SpaceOk.thru (hO : SpaceOk S) {w w' : World} {F : Nat → Prop} {p : Addr} {fs : List Fl} (h : S w F p fs) (k : Below w.heap.size w w') : S w' F p fs :=
  hO.keep _ _ _ (fun _ => False) _ _ h (But.of_below k) (fun _ _ h => h)

set_option maxRecDepth 100000 in
set_option maxHeartbeats 600000 in
theorem speaks_so (hO : SpaceOk S) (b1 : Nat) (F : Nat → Prop) (p : Addr) (z : Int) (w : World) (h : S w F p [exP]) (hc : w.cell? ⟨b1, 0, none⟩ = some (.pointer (some p))) (hz : inS z = true) :
    Calls Try.prog 32 (#[.int .i64 z] ++ #[.pointer (some ⟨b1, 0, none⟩)]) w fun e w' => e = .returned (.bool (decide (bandL [exP] z (z + 1) < 0))) ∧ Below w.heap.size w w' := by
  have hz2 := inS_iff.1 hz
  have HR := Lib.hid (fun w => hO.rows z 1 w (by omega) (by omega))
  rw [show highZ 1 = 1 from rfl] at HR
  have HB := Lib.hid (fun w1 (k : Below w.heap.size w w1) => hO.bounds w1 F p [exP] z (z + 1) (hO.thru h k) (by decide) (by omega) (by omega))
  obtain ⟨L, hL⟩ : ∃ L, bandL [exP] z (z + 1) = L := ⟨_, rfl⟩
  obtain ⟨R, hR⟩ : ∃ R, bandR [exP] z (z + 1) = R := ⟨_, rfl⟩
  rw [hL, hR] at HB
  rw [hL]
  clear hL hR h hz hz2
  go_enter Try.func32, Try.ntmps32
  go_upto_region 1 with fail
  refine Hold.wp_region_hold [.val (.pointer (some p)), .val (.int .i64 z), .val (.agg #[.int .i64 z, .int .i64 (z + 1)]), .val (.agg #[.int .i64 L, .int .i64 R]), .val (.int .i64 L), .val (.bool (decide (L < 0)))] (by kernel_rfl) (by kernel_rfl) (by kernel_rfl) ?_ ?_
  · simp only [Hold.fill, Hold.Leave.value]
    refine ⟨?_, ?_, ?_, ?_, ?_, ?_, trivial⟩
    · intro gg w' hw hk
      have q0 := (hw.cell (p := ⟨b1, 0, none⟩) (block_lt_of_cell hc)).trans hc
      go_simp
      exact ⟨rfl, rfl⟩
    · intro gg w' hw hk
      go_simp
      exact ⟨rfl, rfl⟩
    · intro gg w' hw hk
      go_simp
      exact Hold.stays_call (HR.out w')
    · intro gg w' hw hk
      go_simp
      exact Hold.stays_call (HB.out w' hw)
    · intro gg w' hw hk
      have hf := field_sp L R w'
      go_simp
      exact ⟨rfl, rfl⟩
    · intro gg w' hw hk
      go_simp
      exact ⟨rfl, rfl⟩
  intro gg w2 k2 hgg
  clear hgg
  simp only [Hold.fill, Hold.Leave.value, List.length_cons, List.length_nil, List.drop_succ_cons, List.drop_zero]
  have K2 := Lib.hid k2
  clear k2
  go_wp2_with fail
  go_ret
  exact ⟨rfl, K2.out⟩

set_option maxRecDepth 100000 in
set_option maxHeartbeats 600000 in
theorem pspeaks (hO : SpaceOk S) (w : World) : Calls Try.prog 8 #[] w fun e w' => e = .returned (.bool true) ∧ Below w.heap.size w w' := by
  have HNew := Lib.hid (hO.new w)
  have HPut := Lib.hid (fun w1 F p (h : S w1 F p []) => hO.put w1 F p [] exP h (by decide) (by decide) (by decide) (.inl rfl))
  have HFl := Lib.hid (fun w1 F p (h : S w1 F p [exP]) => hO.floats w1 F p [exP] h (by decide))
  have HSo := Lib.hid (fun w1 F p b1 (h : S w1 F p [exP]) (hc : w1.cell? ⟨b1, 0, none⟩ = some (.pointer (some p))) => hO.first w1 F p [exP] 3 32 #[.pointer (some ⟨b1, 0, none⟩)] (fun z => decide (bandL [exP] z (z + 1) < 0)) (fun w2 _ => Below w1.heap.size w1 w2) h (by decide) (by decide)
    (enters_of Try.func32 (by kernel_rfl) rfl) (Below.refl _ _) (fun w2 w3 pre k1 k2 => Rect.thru k1 k2)
    (fun w2 pre z hs k hz hl => (speaks_so hO b1 F p z w2 hs ((k.cell (p := ⟨b1, 0, none⟩) (block_lt_of_cell hc)).trans hc) hz).mono fun e w3 ⟨q1, q2⟩ => ⟨q1, hO.thru hs q2, Rect.thru k q2⟩))
  rw [show atD (fun z => decide (bandL [exP] z (z + 1) < 0)) (topsD [exP] 3) = 5 by decide] at HSo
  go_enter Try.func8, Try.ntmps8
  go_upto_region 2 with (first
    | (go_at_call 30; refine HNew.out.mono ?_; rintro e w1 ⟨⟨p, F, rfl, hL, hF⟩, k1⟩; have HL := Lib.hid (⟨hL, hF, k1⟩ : S w1 F p [] ∧ (∀ k, F k → w.heap.size ≤ k) ∧ Below w.heap.size w w1); clear hL hF k1))
  generalize hW : World.alloc w1 _ = W
  obtain ⟨b1, hb⟩ : ∃ b1, w1.heap.size = b1 := ⟨_, rfl⟩
  have hkW : Below w1.heap.size w1 W := by rw [← hW]; exact ba1 _ _
  have e1 : W.cell? ⟨b1, 0, none⟩ = some (.pointer (some p)) := by rw [← hW, ← hb]; simp [go_sem]
  rw [hb]
  have HW := Lib.hid (⟨hO.thru HL.out.1 hkW, Rect.thru HL.out.2.2 hkW, (fun h => by have := hO.lt _ _ _ _ HL.out.1 b1 h; omega), block_lt_of_cell e1⟩ : S W F p [] ∧ Below w.heap.size w W ∧ ¬ F b1 ∧ b1 < W.heap.size)
  clear hW hb hkW
  go_upto_region 5 with (first
    | (go_at_call 31; refine (HPut.out _ _ _ HW.out.1).mono ?_; rintro e w2 ⟨⟨v, rfl⟩, ⟨F2, hL2, hF2⟩, k2⟩; have H2 := Lib.hid (⟨hL2, HW.out.2.1.trans (k2.below HW.out.2.1.size HL.out.2.1)⟩ : S w2 F2 p [exP] ∧ Below w.heap.size w w2); have hcell := (k2.cell HW.out.2.2.2 HW.out.2.2.1).trans e1; clear hL2 hF2 k2))
  go_wp2_with (first
    | (go_at_call 27; refine (HSo.out _ _ _ _ H2.out.1 hcell).mono ?_; rintro e w3 ⟨rfl, hL3, k3⟩; have H3 := Lib.hid (⟨hL3, Rect.thru H2.out.2 k3⟩ : S w3 F2 p [exP] ∧ Below w.heap.size w w3); have hcell3 := (k3.cell (p := ⟨b1, 0, none⟩) (block_lt_of_cell hcell)).trans hcell; clear hL3 k3)
    | (go_at_call 18; refine (HFl.out _ _ _ H3.out.1).mono ?_; rintro e w4 ⟨⟨A4, c4, rfl, -⟩, k4⟩; have K4 := Lib.hid (Rect.thru H3.out.2 k4); clear k4))
  go_ret
  exact ⟨rfl, K4.out⟩

end

end Go.Proofs.Ytpfcefflcmeobaa.Space
