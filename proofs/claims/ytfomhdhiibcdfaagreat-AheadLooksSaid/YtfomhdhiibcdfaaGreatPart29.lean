/- What is asked of the program's looks; the law's own To and look, and its example. -/
import Derived.Test.YtfomhdhiibcdfaaGreatPart21
import Derived.Test.YtfomhdhiibcdfaaGreatPart28
import Derived.Test.YtfomhdhiibcdfaaGreatPart15
namespace Go.Proofs.YtfomhdhiibcdfaaGreat.Ahead
open Go.RowKit Go.Sort Go.Proofs.YtfomhdhiibcdfaaGreat.More Go.Proofs.YtfomhdhiibcdfaaGreat.Record Go.Proofs.YtfomhdhiibcdfaaGreat.Script Go.Proofs.YtfomhdhiibcdfaaGreat.Tree Go.Proofs.YtfomhdhiibcdfaaGreat.Shelf Go.Proofs.YtfomhdhiibcdfaaGreat.Space Go.Proofs.YtfomhdhiibcdfaaGreat.Spot
set_option linter.unusedVariables false
set_option linter.unusedSimpArgs false

/-- The number of some sides. -/
def sidesI (l r : Bool) : Int := (bif l then 1 else 0) + (bif r then 2 else 0)
/-- A program's look. -/
abbrev lpv (x : Sp) (d : Int) (e : Bool) : Value := .agg #[.int .i64 x.y, .int .i64 x.p, .int .i64 x.q, .bool x.h, .bool x.s, .int .i64 d, .bool e]
abbrev lprow (x : Sp) (d : Int) (e : Bool) : List Value := [.int .i64 x.y, .int .i64 x.p, .int .i64 x.q, .bool x.h, .bool x.s, .int .i64 d, .bool e]
abbrev Rl.pv (k : Rl) : Value := lpv k.x.sp (sidesI k.l k.r) k.e
def LpAt (w : World) (b : Nat) (x : Sp) (d : Int) (e : Bool) : Prop :=
  w.cell? ⟨b, 0, none⟩ = some (.int .i64 x.y) ∧ w.cell? ⟨b, 1, none⟩ = some (.int .i64 x.p) ∧ w.cell? ⟨b, 2, none⟩ = some (.int .i64 x.q) ∧ w.cell? ⟨b, 3, none⟩ = some (.bool x.h) ∧
  w.cell? ⟨b, 4, none⟩ = some (.bool x.s) ∧ w.cell? ⟨b, 5, none⟩ = some (.int .i64 d) ∧ w.cell? ⟨b, 6, none⟩ = some (.bool e)
theorem lpat_of {w : World} {b : Nat} {x : Sp} {d : Int} {e : Bool} (h : Lies w b (lprow x d e)) : LpAt w b x d e := ⟨h.at' 0, h.at' 1, h.at' 2, h.at' 3, h.at' 4, h.at' 5, h.at' 6⟩
abbrev zeroLp : List Value := lprow zeroSp 0 false

/-- The contracts of the program's looks. -/
structure AheadOk (T : World → Addr → List Bx → Prop) (S : World → (Nat → Prop) → Addr → List Fl → Prop) : Prop where
  clears : ∀ (c d : Int) w, 0 ≤ c ∧ c ≤ 3 → 0 ≤ d ∧ d ≤ 3 → Calls Tryz.prog 47 #[.int .i64 c, .int .i64 d] w fun r w' => r = .returned (.bool (clrL c (d == 1 || d == 3) (d == 2 || d == 3))) ∧ Below w.heap.size w w'
  into : ∀ w tp F sp bs fs (i : Int) (k : Rl) (t : Nat), T w tp bs → S w F sp fs → Wood bs → fs.all nearF = true → Slim t k → t + 2 * bs.length ≤ 900 → Calls Tryz.prog 8 #[.pointer (some tp), .pointer (some sp), .int .i64 i, k.pv] w fun r w' => r = .returned (intoT bs fs i k).pv ∧ Below w.heap.size w w'
  past : ∀ w tp F sp bs fs (i : Int) (k : Rl) (t : Nat), T w tp bs → S w F sp fs → Wood bs → fs.all nearF = true → Slim t k → t + 2 * bs.length ≤ 900 → Calls Tryz.prog 9 #[.pointer (some tp), .pointer (some sp), .int .i64 i, k.pv] w fun r w' => r = .returned (pastT bs fs i k).pv ∧ Below w.heap.size w w'

theorem only_putP {T : TypeId} {w : World} {g : Nat} (z x : Sp) (dz dx : Int) (ez ex : Bool) (h : w.heap[g]? = some (.cells (lprow z dz ez).toArray T)) :
    (((((((w.setCell ⟨g, 0, none⟩ (.int .i64 x.y)).setCell ⟨g, 1, none⟩ (.int .i64 x.p)).setCell ⟨g, 2, none⟩ (.int .i64 x.q)).setCell ⟨g, 3, none⟩ (.bool x.h)).setCell ⟨g, 4, none⟩ (.bool x.s)).setCell ⟨g, 5, none⟩ (.int .i64 dx)).setCell ⟨g, 6, none⟩ (.bool ex)).heap[g]? = some (.cells (lprow x dx ex).toArray T) ∧
    Draw.Only g w (((((((w.setCell ⟨g, 0, none⟩ (.int .i64 x.y)).setCell ⟨g, 1, none⟩ (.int .i64 x.p)).setCell ⟨g, 2, none⟩ (.int .i64 x.q)).setCell ⟨g, 3, none⟩ (.bool x.h)).setCell ⟨g, 4, none⟩ (.bool x.s)).setCell ⟨g, 5, none⟩ (.int .i64 dx)).setCell ⟨g, 6, none⟩ (.bool ex)) :=
  ⟨by simp [World.setCell, Array.getElem?_modify, h], ((((((Draw.Only.set g _ 0 _).trans (Draw.Only.set g _ 1 _)).trans (Draw.Only.set g _ 2 _)).trans (Draw.Only.set g _ 3 _)).trans (Draw.Only.set g _ 4 _)).trans (Draw.Only.set g _ 5 _)).trans (Draw.Only.set g _ 6 _)⟩

set_option maxRecDepth 100000 in
set_option maxHeartbeats 2000000 in
theorem hto_any (k : Rl) (A : Option Addr) (n c : Nat) (w : World) (hh : Held w A n c k.x.ms) (hf : FineR k.x) :
    Calls Tryz.prog 7 #[rlv k A n c] w fun e w' => e = .returned k.pv ∧ Below w.heap.size w w' := by
  have hof := fun w' (j : Below w.heap.size w w') => gof_any k.x A n c w' (hh.below j) hf
  obtain ⟨⟨y, ms, hd, sp⟩, l, r, e⟩ := k
  unfold Rl.pv
  obtain ⟨⟨y2, p, q, h2, s2⟩, hS⟩ : ∃ S, Rp.sp ⟨y, ms, hd, sp⟩ = S := ⟨_, rfl⟩
  rw [hS] at hof ⊢
  have HOf := Lib.hid hof
  clear hof hS hh hf
  go_enter Tryz.func7, Tryz.ntmps7
  go_upto_region 1 with fail
  generalize hW : World.alloc (World.alloc _ _) _ = W
  have L3 := two_news w 35 42 (rlrow ⟨⟨y, ms, hd, sp⟩, l, r, e⟩ A n c) zeroLp (by simp)
  replace L3 := (show Lies W w.heap.size (rlrow ⟨⟨y, ms, hd, sp⟩, l, r, e⟩ A n c) ∧ Lies W (w.heap.size + 1) zeroLp ∧ Below w.heap.size w W by rw [← hW]; exact L3)
  obtain ⟨b1, hb1⟩ : ∃ b, w.heap.size = b := ⟨_, rfl⟩
  have K3 := Lib.hid (⟨L3.2.2, by rw [← hb1]; exact L3.1, by rw [← hb1]; exact L3.2.1, Nat.le_of_eq hb1⟩ : Below w.heap.size w W ∧ Lies W b1 (rlrow ⟨⟨y, ms, hd, sp⟩, l, r, e⟩ A n c) ∧ Lies W (b1 + 1) zeroLp ∧ w.heap.size ≤ b1)
  rw [hb1]
  clear hW L3 hb1
  have HZ := Lib.hid (fun st w' G (hw : Draw.quiet W st w' G) => K3.out.2.1.below (by simp) hw.1)
  refine Draw.wp_region_drawn (Draw.quiet W) 0 [.val (.pointer (some ⟨b1, 0, none⟩)), .val (.agg #[.int .i64 y, .slice A n c, .bool hd, .bool sp]), .val (.agg #[.int .i64 y2, .int .i64 p, .int .i64 q, .bool h2, .bool s2]), .val (.pointer (some ⟨b1, 6, none⟩)), .val (.bool e), .val (.agg #[.int .i64 y2, .int .i64 p, .int .i64 q, .bool h2, .bool s2, .int .i64 0, .bool e]), .box (.cells #[.int .i64 0, .int .i64 0, .int .i64 0, .bool false, .bool false, .int .i64 0, .bool false] 42), .put 6 (.cells #[.int .i64 y2, .int .i64 p, .int .i64 q, .bool h2, .bool s2, .int .i64 0, .bool e] 42)] (by kernel_rfl) (by kernel_rfl) (by kernel_rfl) (Draw.quiet_kept W) (Draw.quiet_start W) ?_ ?_
  · simp only [Draw.fill, Draw.Leave.value]
    refine ⟨?_, ?_, ?_, ?_, ?_, ?_, ?_, ?_, trivial⟩
    · intro st gg w' G hw hk
      go_simp
      exact ⟨rfl, rfl⟩
    · intro st gg w' G hw hk
      have q0 : w'.cell? ⟨b1, 0, none⟩ = some (.int .i64 y) := (HZ.out st w' G hw).at' 0
      have q1 : w'.cell? ⟨b1, 1, none⟩ = some (.slice A n c) := (HZ.out st w' G hw).at' 1
      have q2 : w'.cell? ⟨b1, 2, none⟩ = some (.bool hd) := (HZ.out st w' G hw).at' 2
      have q3 : w'.cell? ⟨b1, 3, none⟩ = some (.bool sp) := (HZ.out st w' G hw).at' 3
      go_simp
      exact ⟨rfl, rfl⟩
    · intro st gg w' G hw hk
      go_simp
      exact Draw.stays_call (HOf.out w' (thru K3.out.1 hw.1))
    · intro st gg w' G hw hk
      go_simp
      exact ⟨rfl, rfl⟩
    · intro st gg w' G hw hk
      have q0 : w'.cell? ⟨b1, 6, none⟩ = some (.bool e) := (HZ.out st w' G hw).at' 6
      go_simp
      exact ⟨rfl, rfl⟩
    · intro st gg w' G hw hk
      go_simp
      exact ⟨rfl, rfl⟩
    · intro st gg w' G hw hk
      go_simp
    · intro st gg w' G hw y b hy hob hb
      obtain rfl : Draw.Leave.box _ = y := Option.some.inj hy
      obtain rfl : _ = b := Option.some.inj hob
      have hb0 := lies_of (xs := zeroLp) hb
      obtain ⟨r0, r1, r2, r3, r4, r5, r6⟩ := lpat_of (x := zeroSp) (d := 0) (e := false) hb0
      obtain ⟨f0, f1, f2, f3, f4, f5, f6⟩ := lkfr_of hb0
      refine ⟨_, ?_, only_putP zeroSp ⟨y2, p, q, h2, s2⟩ 0 0 false e hb⟩
      clear hb0
      clear hb
      go_simp
      rfl
  intro gg w5 G5 k5 hbox hput hap
  have p6 := lies_of (xs := lprow ⟨y2, p, q, h2, s2⟩ 0 e) (hput 7 6 _ rfl)
  have l6 := (hbox 6 _ _ rfl rfl).2.1
  simp only [Draw.fill, Draw.Leave.value]
  go_simp
  generalize gg 6 = b3 at *
  have hlt := K3.out.2.2.1.lt (by simp)
  have E5 := Lib.hid (⟨thru K3.out.1 k5.1, K3.out.2.1.below (by simp) k5.1, K3.out.2.2.1.below (by simp) k5.1, p6, K3.out.2.2.2, by omega⟩ : Below w.heap.size w w5 ∧ Lies w5 b1 (rlrow ⟨⟨y, ms, hd, sp⟩, l, r, e⟩ A n c) ∧ Lies w5 (b1 + 1) zeroLp ∧ Lies w5 b3 (lprow ⟨y2, p, q, h2, s2⟩ 0 e) ∧ w.heap.size ≤ b1 ∧ b1 + 1 < b3)
  clear p6 l6 k5 hbox hput hap HZ K3 hlt HOf
  cases l <;> cases r
  · obtain ⟨c0, c1, c2, c3, c4, c5, c6⟩ := lkat_of E5.out.2.1
    obtain ⟨d0, d1, d2, d3, d4, d5, d6⟩ := lpat_of E5.out.2.2.2.1
    obtain ⟨f0, f1, f2, f3, f4, f5, f6⟩ := lkfr_of E5.out.2.2.2.1
    obtain ⟨o0, o1, o2, o3, o4, o5, o6⟩ := lpat_of (x := zeroSp) (d := 0) (e := false) E5.out.2.2.1
    obtain ⟨g0, g1, g2, g3, g4, g5, g6⟩ := lkfr_of E5.out.2.2.1
    have hle := E5.out.2.2.2.2.1
    have hlt := E5.out.2.2.2.2.2
    have hO1 : bits BinOp.or IntKind.i64 0 1 = 1 := by rfl
    have hO2 : bits BinOp.or IntKind.i64 0 2 = 2 := by rfl
    have hO3 : bits BinOp.or IntKind.i64 1 2 = 3 := by rfl
    have hn1 : ¬ b1 = b3 := by omega
    have hn2 : ¬ b3 = b1 := by omega
    have hn3 : ¬ b1 + 1 = b3 := by omega
    have hn4 : ¬ b3 = b1 + 1 := by omega
    go_wp2_with fail
    refine bodyPost_ret (v := lpv ⟨y2, p, q, h2, s2⟩ 0 e) (by simp [results, Tryz.results7, go_sem, o0, o1, o2, o3, o4, o5, o6, hn1, hn2, hn3, hn4, hO1, hO2, hO3]) rfl ⟨rfl, ?_⟩
    repeat refine Below.setCell ?_ (by simp <;> omega) _
    exact E5.out.1
  · obtain ⟨c0, c1, c2, c3, c4, c5, c6⟩ := lkat_of E5.out.2.1
    obtain ⟨d0, d1, d2, d3, d4, d5, d6⟩ := lpat_of E5.out.2.2.2.1
    obtain ⟨f0, f1, f2, f3, f4, f5, f6⟩ := lkfr_of E5.out.2.2.2.1
    obtain ⟨o0, o1, o2, o3, o4, o5, o6⟩ := lpat_of (x := zeroSp) (d := 0) (e := false) E5.out.2.2.1
    obtain ⟨g0, g1, g2, g3, g4, g5, g6⟩ := lkfr_of E5.out.2.2.1
    have hle := E5.out.2.2.2.2.1
    have hlt := E5.out.2.2.2.2.2
    have hO1 : bits BinOp.or IntKind.i64 0 1 = 1 := by rfl
    have hO2 : bits BinOp.or IntKind.i64 0 2 = 2 := by rfl
    have hO3 : bits BinOp.or IntKind.i64 1 2 = 3 := by rfl
    have hn1 : ¬ b1 = b3 := by omega
    have hn2 : ¬ b3 = b1 := by omega
    have hn3 : ¬ b1 + 1 = b3 := by omega
    have hn4 : ¬ b3 = b1 + 1 := by omega
    go_wp2_with fail
    refine bodyPost_ret (v := lpv ⟨y2, p, q, h2, s2⟩ 2 e) (by simp [results, Tryz.results7, go_sem, o0, o1, o2, o3, o4, o5, o6, hn1, hn2, hn3, hn4, hO1, hO2, hO3]) rfl ⟨rfl, ?_⟩
    repeat refine Below.setCell ?_ (by simp <;> omega) _
    exact E5.out.1
  · obtain ⟨c0, c1, c2, c3, c4, c5, c6⟩ := lkat_of E5.out.2.1
    obtain ⟨d0, d1, d2, d3, d4, d5, d6⟩ := lpat_of E5.out.2.2.2.1
    obtain ⟨f0, f1, f2, f3, f4, f5, f6⟩ := lkfr_of E5.out.2.2.2.1
    obtain ⟨o0, o1, o2, o3, o4, o5, o6⟩ := lpat_of (x := zeroSp) (d := 0) (e := false) E5.out.2.2.1
    obtain ⟨g0, g1, g2, g3, g4, g5, g6⟩ := lkfr_of E5.out.2.2.1
    have hle := E5.out.2.2.2.2.1
    have hlt := E5.out.2.2.2.2.2
    have hO1 : bits BinOp.or IntKind.i64 0 1 = 1 := by rfl
    have hO2 : bits BinOp.or IntKind.i64 0 2 = 2 := by rfl
    have hO3 : bits BinOp.or IntKind.i64 1 2 = 3 := by rfl
    have hn1 : ¬ b1 = b3 := by omega
    have hn2 : ¬ b3 = b1 := by omega
    have hn3 : ¬ b1 + 1 = b3 := by omega
    have hn4 : ¬ b3 = b1 + 1 := by omega
    go_wp2_with fail
    refine bodyPost_ret (v := lpv ⟨y2, p, q, h2, s2⟩ 1 e) (by simp [results, Tryz.results7, go_sem, o0, o1, o2, o3, o4, o5, o6, hn1, hn2, hn3, hn4, hO1, hO2, hO3]) rfl ⟨rfl, ?_⟩
    repeat refine Below.setCell ?_ (by simp <;> omega) _
    exact E5.out.1
  · obtain ⟨c0, c1, c2, c3, c4, c5, c6⟩ := lkat_of E5.out.2.1
    obtain ⟨d0, d1, d2, d3, d4, d5, d6⟩ := lpat_of E5.out.2.2.2.1
    obtain ⟨f0, f1, f2, f3, f4, f5, f6⟩ := lkfr_of E5.out.2.2.2.1
    obtain ⟨o0, o1, o2, o3, o4, o5, o6⟩ := lpat_of (x := zeroSp) (d := 0) (e := false) E5.out.2.2.1
    obtain ⟨g0, g1, g2, g3, g4, g5, g6⟩ := lkfr_of E5.out.2.2.1
    have hle := E5.out.2.2.2.2.1
    have hlt := E5.out.2.2.2.2.2
    have hO1 : bits BinOp.or IntKind.i64 0 1 = 1 := by rfl
    have hO2 : bits BinOp.or IntKind.i64 0 2 = 2 := by rfl
    have hO3 : bits BinOp.or IntKind.i64 1 2 = 3 := by rfl
    have hn1 : ¬ b1 = b3 := by omega
    have hn2 : ¬ b3 = b1 := by omega
    have hn3 : ¬ b1 + 1 = b3 := by omega
    have hn4 : ¬ b3 = b1 + 1 := by omega
    go_wp2_with fail
    refine bodyPost_ret (v := lpv ⟨y2, p, q, h2, s2⟩ 3 e) (by simp [results, Tryz.results7, go_sem, o0, o1, o2, o3, o4, o5, o6, hn1, hn2, hn3, hn4, hO1, hO2, hO3]) rfl ⟨rfl, ?_⟩
    repeat refine Below.setCell ?_ (by simp <;> omega) _
    exact E5.out.1

set_option maxHeartbeats 400000 in
theorem hlook_any (y : Int) (ms : List Int) (sp l r : Bool) (A : Option Addr) (n c : Nat) (w : World) :
    Calls Tryz.prog 6 #[.agg #[.int .i64 y, .slice A n c, .bool sp, .bool l, .bool r]] w fun e w' => e = .returned (rlv ⟨⟨y, ms, false, sp⟩, l, r, false⟩ A n c) ∧ Below w.heap.size w w' := by
  go_enter Tryz.func6, Tryz.ntmps6
  go_wp2_with fail
  exact bodyPost_ret (v := rlv ⟨⟨y, ms, false, sp⟩, l, r, false⟩ A n c) (by simp [results, Tryz.results6, go_sem]) rfl ⟨rfl, ba2 _ _ _⟩

end Go.Proofs.YtfomhdhiibcdfaaGreat.Ahead
