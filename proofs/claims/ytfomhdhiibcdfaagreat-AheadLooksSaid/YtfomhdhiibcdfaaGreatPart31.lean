/- Texts of this proof that follow each other, in one file. -/
import Derived.Test.YtfomhdhiibcdfaaGreatPart1
import Derived.Test.YtfomhdhiibcdfaaGreatPart30
import Derived.Deep.Slices
import Derived.Test.YtfomhdhiibcdfaaGreatPart12
/-! A slice that came in, with its capacity. -/
namespace Go.Proofs.YtfomhdhiibcdfaaGreat
open Go.RowKit Go.ChangeShapes Go.WideShapes Go.ChangeAt

/-- A slice of numbers that came in, with its capacity. -/
theorem open_row {H : Type} {enc : TypeId × Value → H} {W : World} {v : Value} {d : DataW H} {ps : List MemPlace} (hv : ∃ a len cap, v = .slice a len cap)
    (h : DataW.Trod enc Tryz.prog W 0 (fun _ => true) true 24 v d ps) :
    ∃ A len cap xs, v = .slice A len cap ∧ len = xs.length ∧ len ≤ 9223372036854775807 ∧ len ≤ cap ∧ (A = none → cap = 0) ∧ Nums W W.heap.size A xs ∧ (∀ n ∈ xs, -9223372036854775808 ≤ n ∧ n ≤ 9223372036854775807) := by
  obtain ⟨a0, len, cap, rfl⟩ := hv
  obtain ⟨fuel, hf⟩ := h
  rcases open_ints Tryz.underlying24 Tryz.underlying3 cells3 hf with ⟨hcs, hx⟩ | ⟨a, len', cap', zs, hcs, _, hl, hm, hz, hx, hcell, hwz⟩
  · simp [Value.cells] at hcs
    obtain ⟨rfl, rfl, rfl⟩ := hcs
    exact ⟨none, 0, 0, [], rfl, rfl, by omega, by omega, fun _ => rfl, fun k hk => by simp at hk, fun n hn => by simp at hn⟩
  · simp [Value.cells] at hcs
    obtain ⟨rfl, rfl, rfl⟩ := hcs
    simp only [if_true] at hz
    unfold maxLen at hm
    refine ⟨some a, len, cap, zs.take len, rfl, by rw [List.length_take]; omega, by omega, by omega, fun e => (by cases e), fun k hk => ?_, fun n hn => ?_⟩
    · rw [List.length_take] at hk
      have hc := hcell k (by omega)
      have hb := World.block_lt_of_cell? _ _ hc
      rw [block_of_add] at hb
      refine ⟨a, rfl, hb, ?_⟩
      rw [hc]
      simp only [List.getD, List.getElem?_take]
      rw [if_pos (by omega)]
    · have := hwz n (List.mem_of_mem_take hn)
      simpa [Lit.wf, IntKind.min, IntKind.max, IntKind.signed, IntKind.bits] using this

end Go.Proofs.YtfomhdhiibcdfaaGreat

/-! Where a look begins, as it came in. -/
namespace Go.Proofs.YtfomhdhiibcdfaaGreat.Ahead
open Go.ChangeShapes Go.WideShapes Go.ChangeAt Go.RowKit
set_option linter.unusedVariables false
set_option maxRecDepth 100000

theorem cellsFi : Tryz.prog.cellsOf 3 = 1 := by kernel_rfl
theorem cellsFs : Tryz.prog.cellsOf 24 = 1 := by kernel_rfl
theorem cellsFb : Tryz.prog.cellsOf 4 = 1 := by kernel_rfl
theorem cellsFr : Tryz.prog.cellsOf 26 = 5 := by kernel_rfl

theorem open_from {H : Type} {enc : TypeId × Value → H} {W : World} {r : Reach} {b0 : Nat} {v : Value} {d : DataW H} {ps : List MemPlace} (hv : Value.okWide Tryz.prog W r b0 26 v)
    (h : DataW.Trod enc Tryz.prog W 0 (fun _ => true) true 26 v d ps) :
    ∃ (y : Int) (A : Option Addr) (n c : Nat) (ms : List Int) (sp l rr : Bool), v = fromV y A n c sp l rr ∧ n = ms.length ∧ n ≤ 9223372036854775807 ∧ n ≤ c ∧ (A = none → c = 0) ∧ Nums W W.heap.size A ms := by
  obtain ⟨cs, rfl, hsz⟩ := okWide_struct Tryz.underlying26 hv
  obtain ⟨fuel, hf0⟩ := h
  have hl : cs.toList.length = 5 := by rw [Array.length_toList]; exact hsz.trans cellsFr
  have hcs : (Value.agg cs).cells.toList = cs.toList := by simp [Value.cells]
  rw [hcs] at hf0
  obtain ⟨l⟩ := cs
  simp only at hl hf0
  match l, hl with
  | [c0, c1, c2, c3, c4], _ =>
    obtain ⟨xs, n, _, _, _, hlen, hf⟩ := DataW.trod_struct Tryz.underlying26 hf0
    match xs, hlen with
    | [y0, y1, y2, y3, y4], _ =>
      have f0 : DataW.trod enc Tryz.prog W 0 (fun _ => true) true n 3 ((([c0, c1, c2, c3, c4] : List Value).drop 0).take (Tryz.prog.cellsOf 3)) = some y0 := hf 0 _ rfl
      have f1 : DataW.trod enc Tryz.prog W 0 (fun _ => true) true n 24 ((([c0, c1, c2, c3, c4] : List Value).drop 1).take (Tryz.prog.cellsOf 24)) = some y1 := hf 1 _ rfl
      have f2 : DataW.trod enc Tryz.prog W 0 (fun _ => true) true n 4 ((([c0, c1, c2, c3, c4] : List Value).drop 2).take (Tryz.prog.cellsOf 4)) = some y2 := hf 2 _ rfl
      have f3 : DataW.trod enc Tryz.prog W 0 (fun _ => true) true n 4 ((([c0, c1, c2, c3, c4] : List Value).drop 3).take (Tryz.prog.cellsOf 4)) = some y3 := hf 3 _ rfl
      have f4 : DataW.trod enc Tryz.prog W 0 (fun _ => true) true n 4 ((([c0, c1, c2, c3, c4] : List Value).drop 4).take (Tryz.prog.cellsOf 4)) = some y4 := hf 4 _ rfl
      rw [cellsFi] at f0
      rw [cellsFs] at f1
      rw [cellsFb] at f2 f3 f4
      simp only [List.drop_succ_cons, List.drop_zero, List.take_succ_cons, List.take_zero] at f0 f1 f2 f3 f4
      obtain ⟨x0, e0, -, -⟩ := DataW.trod_int Tryz.underlying3 f0
      obtain ⟨x2, e2, -⟩ := DataW.trod_bool Tryz.underlying4 f2
      obtain ⟨x3, e3, -⟩ := DataW.trod_bool Tryz.underlying4 f3
      obtain ⟨x4, e4, -⟩ := DataW.trod_bool Tryz.underlying4 f4
      simp only [List.cons.injEq, and_true] at e0 e2 e3 e4
      subst e0 e2 e3 e4
      have hs : ∃ a len cap, c1 = .slice a len cap := by
        rcases open_ints Tryz.underlying24 Tryz.underlying3 cellsFi f1 with ⟨h1, -⟩ | ⟨a, len, cap, zs, h1, -⟩
        · simp at h1; exact ⟨_, _, _, h1⟩
        · simp at h1; exact ⟨_, _, _, h1⟩
      obtain ⟨A, len, cap, ms, rfl, h1, h2, h3, h4, h5, -⟩ := open_row (v := c1) hs ⟨n, by obtain ⟨a, len, cap, rfl⟩ := hs; simpa [Value.cells] using f1⟩
      exact ⟨x0, A, len, cap, ms, x2, x3, x4, rfl, h1, h2, h3, h4, h5⟩

end Go.Proofs.YtfomhdhiibcdfaaGreat.Ahead

/-! The trees that looks go through; the law's example. -/
namespace Go.Proofs.YtfomhdhiibcdfaaGreat.Ahead
open Go.RowKit Go.Sort Go.Proofs.YtfomhdhiibcdfaaGreat.More Go.Proofs.YtfomhdhiibcdfaaGreat.Record Go.Proofs.YtfomhdhiibcdfaaGreat.Script Go.Proofs.YtfomhdhiibcdfaaGreat.Tree Go.Proofs.YtfomhdhiibcdfaaGreat.Shelf Go.Proofs.YtfomhdhiibcdfaaGreat.Space Go.Proofs.YtfomhdhiibcdfaaGreat.Spot
set_option linter.unusedVariables false
set_option linter.unusedSimpArgs false

theorem lit_boxes (w : World) (bs : List Bx) (t : TypeId) (hl : bs.length ≤ 1000) : Boxes (w.alloc (.cells (bs.flatMap cellsOfB).toArray t)) (w.alloc (.cells (bs.flatMap cellsOfB).toArray t)).heap.size (some ⟨w.heap.size, 0, none⟩) bs := by
  have hm : MineB t (w.alloc (.cells (bs.flatMap cellsOfB).toArray t)) 0 (some ⟨w.heap.size, 0, none⟩) bs.length bs.length bs := by
    have := World.ownsRow_lit (e := t) (size := 14) (base := 0) w (bs.flatMap cellsOfB).toArray bs.length (Nat.zero_le _) (by unfold maxLen; omega) (by simp only [List.size_toArray]; exact flat_len bs)
    simpa [MineB] using this
  exact hm.boxes

theorem wood_of {bs : List Bx} (h : Fine bs bs.length) (hl : bs.length ≤ 100) : Wood bs := by
  have key : ∀ i, i < bs.length → in50 (bs.getD i noB).m0 = true ∧ in50 (bs.getD i noB).m2 = true ∧ (1 ≤ (bs.getD i noB).k ∧ (bs.getD i noB).k ≤ 5) ∧ (0 ≤ (bs.getD i noB).c ∧ (bs.getD i noB).c ≤ 3) := fun i hi => by
    have hg := (good_iff _).1 (h.check hi)
    have h2 := hg.m
    simp only [List.any_cons, List.any_nil, Bool.or_false, Bool.or_eq_false_iff] at h2
    unfold bigB at h2
    have a0 := bey_no.1 h2.1
    have a2 := bey_no.1 h2.2.2.1
    have hk := hg.k
    have hc := hg.c
    exact ⟨in50_iff.2 (by omega), in50_iff.2 (by omega), hk, hc⟩
  exact ⟨hl, fun i hi => ⟨(key i hi).1, (key i hi).2.1⟩, fun i hi => (key i hi).2.2.1, fun i hi => (key i hi).2.2.2, fun k hk => h.depth hk, fun i hi => by
    have hg := ((good_iff _).1 (h.check hi)).z
    unfold sizeB at hg
    simp only [Bool.or_eq_false_iff, decide_eq_false_iff_not] at hg
    omega, fun i hi hk => by
    have hg := ((good_iff _).1 (h.check hi)).s
    unfold sideB at hg
    rw [if_pos hk] at hg
    simpa using hg, fun h0 => h.shape h0⟩

def exH : List Bx := [⟨0, 3, 0, 0, 0, 0, 0, 0, 0, 0, 0, 0, 0, 0⟩, ⟨1, 1, 0, 0, 0, -1, 3, 0, 0, 0, 0, 0, 0, 0⟩, ⟨2, 1, 0, 0, 0, -1, 5, 0, 0, 0, 0, 0, 0, 0⟩, ⟨3, 4, 0, 0, 0, -1, 0, 0, 0, 0, 0, 0, 0, 0⟩, ⟨4, 5, 0, 0, 0, 0, 0, 0, 0, 0, 0, 0, 0, 0⟩]
theorem exH_fine : Fine exH 5 := fun j hj => by
  have h5 : j = 0 ∨ j = 1 ∨ j = 2 ∨ j = 3 ∨ j = 4 := by omega
  rcases h5 with rfl | rfl | rfl | rfl | rfl <;> decide
theorem exH_ok : ∀ b ∈ exH, OkB b := by
  intro b hb x hx
  simp only [exH, List.mem_cons, List.not_mem_nil, or_false] at hb
  rcases hb with rfl | rfl | rfl | rfl | rfl <;> (simp only [List.mem_cons, List.not_mem_nil, or_false] at hx; rcases hx with rfl | rfl | rfl | rfl | rfl | rfl | rfl | rfl | rfl | rfl | rfl | rfl | rfl | rfl <;> decide)
theorem exH_into : intoT exH [] 1 zeroRl = ⟨⟨0, [3, 5, 0], false, false⟩, false, false, true⟩ := by kernel_rfl

section
variable {T : World → Addr → List Bx → Prop} {S : World → (Nat → Prop) → Addr → List Fl → Prop}

set_option maxRecDepth 100000 in
set_option maxHeartbeats 1600000 in
theorem hspeaks (hT : TreeOk T) (hS : SpaceOk S) (hA : AheadOk T S) (w : World) : Calls Tryz.prog 5 #[] w fun e w' => e = .returned (.bool true) ∧ Below w.heap.size w w' := by
  have HB := Lib.hid (hT.yes (some ⟨w.heap.size, 0, none⟩) 5 5 exH _ rfl (by omega) (by omega) (lit_boxes w exH 64 (by decide)) exH_ok exH_fine)
  have hkb := ba1 w (.cells (exH.flatMap cellsOfB).toArray 64)
  have KA := Lib.hid hkb
  have HW := Lib.hid (wood_of exH_fine (by decide))
  have HI := Lib.hid (fun w1 p F sp (ht : T w1 p exH) (hs : S w1 F sp []) => by
    have q := hA.into w1 p F sp exH [] 1 zeroRl 0 ht hs HW.out rfl ⟨by show _ ≤ (0 : Int) ∧ (0 : Int) ≤ _; simp, rfl, Nat.le_refl _⟩ (by decide)
    rw [exH_into] at q
    exact q)
  have HG := Lib.hid (fun w1 => gat_is (x := ⟨0, 5, 0, false, false⟩) (a := 5) (by unfold FineS; simp) (by simp [atS]) w1)
  clear hkb
  go_enter Tryz.func5, Tryz.ntmps5
  go_upto_region 2 with (first
    | (go_at_call 18; refine HB.out.mono ?_; rintro e w1 ⟨⟨p, rfl, ht⟩, k1⟩; have K1 := Lib.hid (⟨ht, thru KA.out k1⟩ : T w1 p exH ∧ Below w.heap.size w w1); clear ht k1))
  clear KA HB
  go_upto_region 5 with (first
    | (go_at_call 19; refine (hS.new w1).mono ?_; rintro e w2 ⟨⟨sp, F, rfl, hs, hF⟩, k2⟩; have K2 := Lib.hid (⟨hT.keep _ _ _ _ K1.out.1 k2, hs, thru K1.out.2 k2⟩ : T w2 p exH ∧ S w2 F sp [] ∧ Below w.heap.size w w2); clear hs hF k2))
  go_upto_region 6 with (first
    | (go_at_call 8; refine (HI.out w2 p F sp K2.out.1 K2.out.2.1).mono ?_; rintro e w3 ⟨rfl, k3⟩; have K3 := Lib.hid (thru K2.out.2.2 k3); clear k3))
  have hpv : Rl.pv ⟨⟨0, [3, 5, 0], false, false⟩, false, false, true⟩ = lpv ⟨0, 5, 0, false, false⟩ 0 true := by rfl
  generalize hW : World.alloc w3 _ = W
  obtain ⟨b5, hb5⟩ : ∃ b, w3.heap.size = b := ⟨_, rfl⟩
  have z5 : Lies W b5 (lprow ⟨0, 5, 0, false, false⟩ 0 true) := by rw [← hW, ← hb5]; exact Lies.new w3 _ _
  have k4 : Below w3.heap.size w3 W := by rw [← hW]; exact ba1 _ _
  try rw [hb5]
  have K4 := Lib.hid (thru K3.out k4)
  clear hW hb5 k4 hpv K2 K1
  obtain ⟨c0, c1, c2, c3, c4, c5, c6⟩ := lpat_of z5
  clear z5
  go_wp2_with (first
    | (go_at_call 20; refine (HG.out W).mono ?_; rintro e w5 ⟨rfl, k5⟩; have K5 := Lib.hid (thru K4.out k5); clear k5))
  go_ret
  exact ⟨rfl, K5.out⟩

end

end Go.Proofs.YtfomhdhiibcdfaaGreat.Ahead
