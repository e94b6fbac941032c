/- What is asked of the program's widths, whatever they look like; the law's example; which lists may be a tree. -/
import Derived.Test.YtnmfgcdenngpfaaWidthDRefs
import Derived.Test.YtnmfgcdenngpfaaMoreRows
import Derived.Test.YtnmfgcdenngpfaaTreeLaws
namespace Go.Proofs.Ytnmfgcdenngpfaa.Width
open Go.RowKit Go.Sort Go.Proofs.Ytnmfgcdenngpfaa.Record Go.Proofs.Ytnmfgcdenngpfaa.Script Go.Proofs.Ytnmfgcdenngpfaa.Tree Go.Proofs.Ytnmfgcdenngpfaa.More

/-- A span. -/
structure Sp where
  f : Int
  t : Int

abbrev Sp.v (x : Sp) : Value := .agg #[.int .i64 x.f, .int .i64 x.t]

def encSp : Enc Sp := ⟨2, fun x => [.int .i64 x.f, .int .i64 x.t], fun _ => rfl, fun x u h => by
  simp only [List.mem_cons, List.not_mem_nil, or_false] at h
  rcases h with h | h <;> (subst h; rfl), by omega⟩

/-- The columns of all contents. -/
def spsD (bs : List Bx) : List Sp := (List.range bs.length).map fun i => ⟨lefD bs i, lefD bs i + widD bs i⟩

theorem spsD_len (bs : List Bx) : (spsD bs).length = bs.length := by simp [spsD]
theorem spsD_at {bs : List Bx} {i : Nat} (h : i < bs.length) : (spsD bs)[i]? = some ⟨lefD bs i, lefD bs i + widD bs i⟩ := by
  simp [spsD, h]

/-- The contracts of the program's widths. -/
structure WidthOk (T : World → Addr → List Bx → Prop) : Prop where
  con : ∀ (b : Bx) (x : Int) w, pickN (brokenOf b) = 0 → okX x = true → Calls Try.prog 11 #[b.v, .int .i64 x] w fun e w' => e = .returned (.int .i64 (conZ b x)) ∧ Below w.heap.size w w'
  bor : ∀ (b : Bx) (x : Int) w, pickN (brokenOf b) = 0 → okX x = true → Calls Try.prog 13 #[b.v, .int .i64 x] w fun e w' => e = .returned (.int .i64 (borZ b x)) ∧ Below w.heap.size w w'
  mar : ∀ (b : Bx) (x : Int) w, pickN (brokenOf b) = 0 → okX x = true → Calls Try.prog 15 #[b.v, .int .i64 x] w fun e w' => e = .returned (.int .i64 (marZ b x)) ∧ Below w.heap.size w w'
  frames : ∀ w p bs, T w p bs → bs.length ≤ 1000 → Shape (dOf bs) bs.length → Fine bs bs.length → Calls Try.prog 19 #[.pointer (some p)] w fun r w' =>
    (∃ A c, r = .returned (.slice A bs.length c) ∧ MineE encSp 41 w' w.heap.size A bs.length c (spsD bs)) ∧ Below w.heap.size w w'

/-- A list is long, or wrong, or fine. -/
theorem list_or (bs : List Bx) (n : Nat) (hn : n = bs.length) : 100 < n ∨ (n ≤ 100 ∧ ∃ a e : Int, chk bs = (a, e) ∧ e ≠ 0) ∨ (n ≤ 100 ∧ 0 < n ∧ chk bs = (-1, 0) ∧ Shape (dOf bs) bs.length ∧ Fine bs n) := by
  by_cases h : n ≤ 100
  · obtain ⟨a, e, hc⟩ : ∃ a e, chk bs = (a, e) := ⟨_, _, rfl⟩
    by_cases he : e = 0
    · subst he
      obtain ⟨ha, h0, hf⟩ := chk_ok hn hc
      exact .inr (.inr ⟨h, h0, by rw [hc, ha], by rw [← hn]; exact hf.shape h0, hf⟩)
    · exact .inr (.inl ⟨h, a, e, hc, he⟩)
  · exact .inl (by omega)

/-- The example's box. -/
def exD : Bx := ⟨0, 1, 0, 0, -1, 0, 0, 3, 0, 2, 0, 0, 0, 0⟩

section
variable {T : World → Addr → List Bx → Prop}

set_option maxRecDepth 100000 in
set_option maxHeartbeats 2000000 in
theorem dspeaks (hO : WidthOk T) (w : World) : Calls Try.prog 7 #[] w fun e w' => e = .returned (.bool true) ∧ Below w.heap.size w w' := by
  have h0 : pickN (brokenOf exD) = 0 := by decide
  have HC := Lib.hid (fun w => hO.con exD 20 w h0 (by decide))
  have HB := Lib.hid (fun w => hO.bor exD 15 w h0 (by decide))
  have HM := Lib.hid (fun w => hO.mar exD 15 w h0 (by decide))
  rw [show conZ exD 20 = 15 by decide] at HC
  rw [show borZ exD 15 = 15 by decide] at HB
  rw [show marZ exD 15 = 20 by decide] at HM
  clear h0
  go_enter Try.func7, Try.ntmps7
  go_upto_region 2 with fail
  generalize hW : World.alloc w _ = W
  obtain ⟨hat, hb⟩ := box_in exD hW
  have hsz : W.heap.size = w.heap.size + 1 := by rw [← hW]; simp
  have HA := Lib.hid hat
  have K := Lib.hid hb
  have hlt : w.heap.size < W.heap.size := by omega
  obtain ⟨c0, c1, c2, c3, c4, c5, c6, c7, c8, c9, c10, c11, c12, c13⟩ := hat
  clear hW hb hsz
  unfold exD at c0 c1 c2 c3 c4 c5 c6 c7 c8 c9 c10 c11 c12 c13
  dsimp only at c0 c1 c2 c3 c4 c5 c6 c7 c8 c9 c10 c11 c12 c13
  go_wp2_with (first
    | (go_at_call 11; refine (HC.out _).mono ?_; rintro e w1 ⟨rfl, k1⟩; obtain ⟨hc, -⟩ := bcell k1; have d0 := (hc _ 0 hlt).trans c0; have d1 := (hc _ 1 hlt).trans c1; have d2 := (hc _ 2 hlt).trans c2; have d3 := (hc _ 3 hlt).trans c3; have d4 := (hc _ 4 hlt).trans c4; have d5 := (hc _ 5 hlt).trans c5; have d6 := (hc _ 6 hlt).trans c6; have d7 := (hc _ 7 hlt).trans c7; have d8 := (hc _ 8 hlt).trans c8; have d9 := (hc _ 9 hlt).trans c9; have d10 := (hc _ 10 hlt).trans c10; have d11 := (hc _ 11 hlt).trans c11; have d12 := (hc _ 12 hlt).trans c12; have d13 := (hc _ 13 hlt).trans c13; have K1 := Lib.hid (thru K.out k1); have hlt1 := Nat.lt_of_lt_of_le hlt k1.size; clear hc k1 c0 c1 c2 c3 c4 c5 c6 c7 c8 c9 c10 c11 c12 c13 hlt)
    | (go_at_call 15; refine (HM.out _).mono ?_; rintro e w2 ⟨rfl, k2⟩; obtain ⟨hc, -⟩ := bcell k2; have f0 := (hc _ 0 hlt1).trans d0; have f1 := (hc _ 1 hlt1).trans d1; have f2 := (hc _ 2 hlt1).trans d2; have f3 := (hc _ 3 hlt1).trans d3; have f4 := (hc _ 4 hlt1).trans d4; have f5 := (hc _ 5 hlt1).trans d5; have f6 := (hc _ 6 hlt1).trans d6; have f7 := (hc _ 7 hlt1).trans d7; have f8 := (hc _ 8 hlt1).trans d8; have f9 := (hc _ 9 hlt1).trans d9; have f10 := (hc _ 10 hlt1).trans d10; have f11 := (hc _ 11 hlt1).trans d11; have f12 := (hc _ 12 hlt1).trans d12; have f13 := (hc _ 13 hlt1).trans d13; have K2 := Lib.hid (thru K1.out k2); clear hc k2 d0 d1 d2 d3 d4 d5 d6 d7 d8 d9 d10 d11 d12 d13 hlt1)
    | (go_at_call 13; refine (HB.out _).mono ?_; rintro e w3 ⟨rfl, k3⟩; have K3 := Lib.hid (thru K2.out k3); clear k3))
  go_ret
  exact ⟨rfl, K3.out⟩
end

end Go.Proofs.Ytnmfgcdenngpfaa.Width
