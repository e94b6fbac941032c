/- The law of the first place: its two closures. -/
import Derived.Test.YtpfcefflcmeobaaSpacePSpeaks
import Derived.Test.YtpfcefflcmeobaaSpacePFirstM
namespace Go.Proofs.Ytpfcefflcmeobaa.Space
open Go.RowKit Go.Sort Go.Proofs.Ytpfcefflcmeobaa.Rect Go.Proofs.Ytpfcefflcmeobaa.More Go.Proofs.Ytpfcefflcmeobaa.Shelf
set_option linter.unusedVariables false
set_option linter.unusedSimpArgs false

theorem band_small {fs : List Fl} (hs : fs.all nearF = true) (a z : Int) : bandL fs a z ≤ 2251799813685248 ∧ -2251799813685248 ≤ bandR fs a z := by
  have hf : ∀ f ∈ fs, inS f.l = true ∧ inS f.r = true := fun f hf => by
    have h := List.all_eq_true.1 hs f hf
    unfold nearF at h
    simp only [List.all_cons, List.all_nil, Bool.and_true, Bool.and_eq_true] at h
    exact ⟨h.1, h.2.2.1⟩
  constructor
  · rw [bandL_le]
    exact ⟨by unfold far; omega, fun f h _ => by have := inS_iff.1 (hf f h).2; omega⟩
  · rw [le_bandR]
    exact ⟨by unfold far; omega, fun f h _ => by have := inS_iff.1 (hf f h).1; omega⟩

/-- Is there room, so many columns of twenty, for so many rows? -/
def soQ (fs : List Fl) (hm wm z : Int) : Bool := decide (wm ≤ min 20 (bandR fs z (z + highZ hm)) - max 0 (bandL fs z (z + highZ hm)))

theorem soQ_up {fs : List Fl} (hm wm : Int) (z0 x : Int) (h1 : z0 ≤ x) (hc : ∀ r, z0 ≤ r → r ≤ x → bndF fs r = bndF fs z0) (h : soQ fs hm wm x = true) : soQ fs hm wm z0 = true := by
  unfold soQ at *
  obtain ⟨e1, e2⟩ := band_covers hc h1 (highZ_pos hm)
  simp only [decide_eq_true_eq] at *
  omega

set_option maxRecDepth 100000 in
set_option maxHeartbeats 600000 in
theorem so_any (A : Option Addr) (n c : Nat) (fs : List Fl) (b4 b7 b6 : Nat) (hv wv hm wm z : Int) (w : World) (hn : n = fs.length) (hlen : n ≤ 1000000) (hx : Floats w w.heap.size A fs) (hs : fs.all nearF = true) (hz : inS z = true)
    (c4 : w.cell? ⟨b4, 0, none⟩ = some (.slice A n c)) (c7 : w.cell? ⟨b7, 0, none⟩ = some (.int .u8 hv)) (c6 : w.cell? ⟨b6, 0, none⟩ = some (.int .u8 wv)) (hhm : hv.tmod 12 = hm) (hwm : wv.tmod 20 = wm) (hm0 : 0 ≤ hm ∧ hm < 12) (hw0 : 0 ≤ wm ∧ wm < 20) :
    Calls Try.prog 26 (#[.int .i64 z] ++ #[.pointer (some ⟨b4, 0, none⟩), .pointer (some ⟨b7, 0, none⟩), .pointer (some ⟨b6, 0, none⟩)]) w fun e w' => e = .returned (.bool (soQ fs hm wm z)) ∧ Below w.heap.size w w' := by
  have hz2 := inS_iff.1 hz
  have HB := Lib.hid (reffree_any A n c fs 0 20 z hm w hn hlen hx ⟨by omega, by omega⟩ (by omega))
  obtain ⟨g1, g2⟩ := band_small hs z (z + highZ hm)
  obtain ⟨v, hv'⟩ : ∃ v, soQ fs hm wm z = v := ⟨_, rfl⟩
  rw [hv']
  unfold soQ at hv'
  obtain ⟨p, hp⟩ : ∃ p, max 0 (bandL fs z (z + highZ hm)) = p := ⟨_, rfl⟩
  obtain ⟨q, hq⟩ : ∃ q, min 20 (bandR fs z (z + highZ hm)) = q := ⟨_, rfl⟩
  rw [hp, hq] at HB hv'
  have hcell : ∀ w', Below w.heap.size w w' → w'.cell? ⟨b6, 0, none⟩ = some (.int .u8 wv) := fun w' k => (k.cell (p := ⟨b6, 0, none⟩) (block_lt_of_cell c6)).trans c6
  have HC := Lib.hid hcell
  have hsub : IntKind.i64.wrap (q - p) = q - p := IntWalk.i64_in _ (by omega)
  have hc1 : IntKind.i64.wrap hm = hm := IntWalk.i64_in _ (by omega)
  have hc2 : IntKind.i64.wrap wm = wm := IntWalk.i64_in _ (by omega)
  have hcu1 : IntKind.u8.wrap hm = hm := by unfold IntKind.wrap; simp [IntKind.bits, IntKind.signed]; omega
  have hcu2 : IntKind.u8.wrap wm = wm := by unfold IntKind.wrap; simp [IntKind.bits, IntKind.signed]; omega
  have HV := Lib.hid hv'
  clear hx hn hs hz hz2 hp hq g1 g2 hcell hv'
  go_enter Try.func26, Try.ntmps26
  go_upto_region 2 with (first
    | (go_at_call 23; refine HB.out.mono ?_; rintro e w1 ⟨rfl, k1⟩; have K1 := Lib.hid k1; have c6' := HC.out _ k1; clear k1))
  clear c4 c6 c7
  go_wp2_with fail
  go_ret
  exact ⟨ret_b (by rw [← HV.out]), K1.out⟩

/-- Who has been asked: a list of one's own, whose slice lies at a block from B on. -/
def Asked (w : World) (B ba : Nat) (pre : List Int) : Prop :=
  ∃ A l c, w.cell? ⟨ba, 0, none⟩ = some (.slice A l c) ∧ w.frozen? ⟨ba, 0, none⟩ = false ∧ B ≤ ba ∧ (∀ k, blk A = some k → k ≠ ba) ∧ Mine w B A l c pre

theorem asked_below {w w' : World} {B ba : Nat} {pre : List Int} (h : Asked w B ba pre) (k : Below w.heap.size w w') : Asked w' B ba pre := by
  obtain ⟨A, l, c, h1, h2, h3, h4, h5⟩ := h
  exact ⟨A, l, c, (k.cell (p := ⟨ba, 0, none⟩) (block_lt_of_cell h1)).trans h1, (k.frozen (p := ⟨ba, 0, none⟩) (block_lt_of_cell h1)).trans h2, h3, h4, h5.below k⟩

set_option maxRecDepth 100000 in
set_option maxHeartbeats 600000 in
theorem asks_any (B ba bf so : Nat) (cb : Array Value) (pre : List Int) (z : Int) (v : Bool) (w w0 : World) (h : Asked w B ba pre) (hB : B ≤ w.heap.size) (hl : pre.length ≤ 3000) (hb : bf < B) (hf : w.cell? ⟨bf, 0, none⟩ = some (.func (.func so) #[] cb))
    (eg : ∀ args w, (callFunc so args).run Try.prog w = .ok (.enter so args) w)
    (hso : ∀ w1, Below B w w1 → Calls Try.prog so (#[.int .i64 z] ++ cb) w1 fun e w' => e = .returned (.bool v) ∧ Below w1.heap.size w1 w') :
    Calls Try.prog 28 (#[.int .i64 z] ++ #[.pointer (some ⟨ba, 0, none⟩), .pointer (some ⟨bf, 0, none⟩)]) w fun e w' => e = .returned (.bool v) ∧ Asked w' B ba (pre ++ [z]) ∧ Below B w w' := by
  obtain ⟨A, l, c, h1, h2, h3, h4, h5⟩ := h
  have hll : l = pre.length := h5.len.symm
  have HL := Lib.hid (show l ≤ 3000 by omega)
  have HM := Lib.hid (⟨h2, h3, h4, h5, hB⟩ : w.frozen? ⟨ba, 0, none⟩ = false ∧ B ≤ ba ∧ (∀ k, blk A = some k → k ≠ ba) ∧ Mine w B A l c pre ∧ B ≤ w.heap.size)
  have HF := Lib.hid (fun w' (k : Below B w w') => (k.cell (p := ⟨bf, 0, none⟩) hb).trans hf)
  have HSo := Lib.hid hso
  have hlt := Lib.hid (block_lt_of_cell h1)
  have H1 := Lib.hid h1
  clear h2 h3 h4 h5 hB hl hb hf hso hll
  go_enter Try.func28, Try.ntmps28
  go_upto_region 2 with (first
    | (at_builtin; refine wpList_append_mine _ rfl (.tmp 5) (.tmp 7) rfl B A l c pre rfl (HM.out.2.2.2.1.alloc _) (some ⟨w.heap.size, 0, none⟩) 1 1 [z] rfl (one_src w z) (by have := HL.out; omega) (by have := HM.out.2.2.2.2; simp; omega) ?_; intro A1 c1 W1 g1; have G1 := Lib.hid g1; have hw1 := g1.2.1.cell ((ba1 w (.cells #[.int .i64 z] 3)).cell (p := ⟨ba, 0, none⟩) hlt.out |>.trans H1.out) (by intro e; exact HM.out.2.2.1 ba (by first | exact e | exact e.symm) rfl); have hfz : W1.frozen? ⟨ba, 0, none⟩ = false := (g1.2.1.frozen_far ⟨ba, 0, none⟩ (show ba < _ from Nat.lt_of_lt_of_le hlt.out (ba1 w (.cells #[.int .i64 z] 3)).size) (by intro e; exact HM.out.2.2.1 ba (by first | exact e | exact e.symm) rfl)).trans (((ba1 w (.cells #[.int .i64 z] 3)).frozen (p := ⟨ba, 0, none⟩) hlt.out).trans HM.out.1); clear g1))
  obtain ⟨Z, hZ⟩ : ∃ Z, World.setCell W1 ⟨ba, 0, none⟩ (.slice A1 (l + 1) c1) = Z := ⟨_, rfl⟩
  rw [hZ]
  have hA1 : ∀ k, blk A1 = some k → k ≠ ba := by
    intro k hk
    rcases G1.out.2.2 with e | e
    · rw [e] at hk; exact HM.out.2.2.1 k hk
    · rw [e] at hk
      have h6 : ba < w.heap.size := hlt.out
      simp at hk
      omega
  have hbl : Below B w W1 := Appended.below G1.out (HM.out.2.2.2.1.alloc _) ((ba1 w (.cells #[.int .i64 z] 3)).mono HM.out.2.2.2.2) (Nat.le_refl _) (by have := HM.out.2.2.2.2; simp; omega)
  have hask : Asked Z B ba (pre ++ [z]) := by
    rw [← hZ]
    refine ⟨A1, l + 1, c1, World.cell?_setCell_same _ _ _ hw1, by rw [World.frozen?_setCell]; exact hfz, HM.out.2.1, hA1, ?_⟩
    refine Mine.kept G1.out.1 (row := some ba) ⟨rfl, rfl, rfl, by simp [World.setCell], fun k _ hk => Below.heap_setCell _ _ _ k (fun e => hk (by rw [e]))⟩ (fun k hk e => ?_)
    injection e with e
    exact hA1 k hk e.symm
  have hkZ : Below B w Z := by
    rw [← hZ]
    exact hbl.setCell (p := ⟨ba, 0, none⟩) HM.out.2.1 _
  have HZ := Lib.hid (⟨hask, hkZ⟩ : Asked Z B ba (pre ++ [z]) ∧ Below B w Z)
  have hcf := HF.out Z hkZ
  have HC := Lib.hid (HSo.out Z hkZ)
  clear hZ hA1 hfz hbl hask hkZ hw1 h1
  go_wp2_with (go_at_fn so; refine HC.out.mono ?_; rintro e w' ⟨rfl, kq⟩; have KQ := Lib.hid kq; clear kq)
  go_ret
  exact ⟨rfl, asked_below HZ.out.1 KQ.out, HZ.out.2.trans (KQ.out.mono (by have := HZ.out.2.size; have := HM.out.2.2.2.2; omega))⟩

end Go.Proofs.Ytpfcefflcmeobaa.Space
