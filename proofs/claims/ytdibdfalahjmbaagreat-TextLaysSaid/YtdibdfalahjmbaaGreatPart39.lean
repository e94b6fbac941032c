
import Derived.Test.YtdibdfalahjmbaaGreatPart37
import Derived.Test.YtdibdfalahjmbaaGreatPart38
import Derived.Test.YtdibdfalahjmbaaGreatPart24
import Derived.Test.YtdibdfalahjmbaaGreatPart18
namespace Go.Proofs.YtdibdfalahjmbaaGreat.Text

open Go.RowKit Go.Sort Go.Proofs.YtdibdfalahjmbaaGreat.Rect Go.Proofs.YtdibdfalahjmbaaGreat.More Go.Proofs.YtdibdfalahjmbaaGreat.Shelf Go.Proofs.YtdibdfalahjmbaaGreat.Space Go.Proofs.YtdibdfalahjmbaaGreat.Place Go.Proofs.YtdibdfalahjmbaaGreat.Line

set_option linter.unusedVariables false

set_option linter.unusedSimpArgs false

abbrev mrow (A : Option Addr) (n c : Nat) (A2 : Option Addr) (n2 c2 : Nat) (m : Mk) : List Value := [.slice A n c, .int .i64 m.f, .int .i64 m.t, .int .i64 m.y, .int .i64 m.top, .slice A2 n2 c2]

abbrev frow (r : Fl) : List Value := [.int .i64 r.l, .int .i64 r.t, .int .i64 r.r, .int .i64 r.b]

abbrev zeroF : Fl := ⟨0, 0, 0, 0, 0⟩

def twoK (W : World) (b4 b5 : Nat) (x0 x1 y0 y1 : List Value) : Nat → World → (Nat → Prop) → Prop := fun st w G =>
  (b4 < W.heap.size ∧ b5 < W.heap.size) ∧ But (fun k => k = b4 ∨ k = b5) W w ∧ RowAt w b4 (if st = 0 then x0 else x1) ∧ RowAt w b5 (if st ≤ 1 then y0 else y1) ∧ ∀ k, G k → W.heap.size ≤ k ∧ k < w.heap.size

theorem but_only {b : Nat} {w w' : World} (h : Draw.Only b w w') : But (fun k => k = b) w w' := ⟨h.os, h.tape, h.output, by rw [h.size]; exact Nat.le_refl _, fun k _ hn => h.block k hn⟩

theorem twoK_kept (W : World) (b4 b5 : Nat) (x0 x1 y0 y1 : List Value) (hx : 0 < x0.length ∧ 0 < x1.length ∧ 0 < y0.length ∧ 0 < y1.length) : Draw.Kept (twoK W b4 b5 x0 x1 y0 y1) where
  below := fun st w w' G G' ⟨h0, h1, h2, h3, h4⟩ k hG => ⟨h0, h1.trans (But.of_below k) (fun _ _ h => h), h2.below (by split <;> omega) k, h3.below (by split <;> omega) k, fun j hj => by
    have := k.size
    rcases hG j hj with g | g
    · have := h4 j g; omega
    · have := h1.size; omega⟩
  only := fun st w w' b G ⟨h0, h1, h2, h3, h4⟩ hb ho => by
    have hbb := (h4 b hb).1
    refine ⟨h0, ⟨ho.os.trans h1.os, ho.tape.trans h1.tape, ho.output.trans h1.output, by rw [ho.size]; exact h1.size, fun k hk hn => (ho.block k (fun e => by omega)).trans (h1.block k hk hn)⟩, h2.kept (ho.block b4 (by omega)), h3.kept (ho.block b5 (by omega)), fun k hk => by rw [ho.size]; exact h4 k hk⟩
  less := fun st w G G' ⟨h0, h1, h2, h3, h4⟩ hG => ⟨h0, h1, h2, h3, fun k hk => h4 k (hG k hk)⟩

theorem twoK_start {W : World} {b4 b5 : Nat} {x0 x1 y0 y1 : List Value} (h4 : RowAt W b4 x0) (h5 : RowAt W b5 y0) (hx : 0 < x0.length ∧ 0 < y0.length) : twoK W b4 b5 x0 x1 y0 y1 0 { W with drawn := W.drawn + 1 } (fun _ => False) := by
  have hk : Below W.heap.size W { W with drawn := W.drawn + 1 } := ⟨rfl, rfl, rfl, Nat.le_refl _, fun _ _ => rfl⟩
  exact ⟨⟨h4.lt hx.1, h5.lt hx.2⟩, But.of_below hk, h4.below hx.1 hk, h5.below hx.2 hk, fun _ h => h.elim⟩

theorem twoK_first {W w w' : World} {b4 b5 : Nat} {x0 x1 y0 y1 : List Value} {G : Nat → Prop} (h : twoK W b4 b5 x0 x1 y0 y1 0 w G) (hne : b4 ≠ b5) (ho : Draw.Only b4 w w') (hr : RowAt w' b4 x1) :
    twoK W b4 b5 x0 x1 y0 y1 1 w' G ∧ w.heap.size ≤ w'.heap.size ∧ ∀ k, G k → w'.heap[k]? = w.heap[k]? := by
  obtain ⟨h0, h1, h2, h3, h4⟩ := h
  exact ⟨⟨h0, h1.trans (but_only ho) (fun _ _ h => .inl h), hr, h3.kept (ho.block b5 (fun e => hne e.symm)), fun k hk => by rw [ho.size]; exact h4 k hk⟩, by rw [ho.size]; exact Nat.le_refl _, fun k hk => ho.block k (fun e => by have := (h4 k hk).1; omega)⟩

theorem twoK_second {W w w' : World} {b4 b5 : Nat} {x0 x1 y0 y1 : List Value} {G : Nat → Prop} (h : twoK W b4 b5 x0 x1 y0 y1 1 w G) (hne : b4 ≠ b5) (ho : Draw.Only b5 w w') (hr : RowAt w' b5 y1) :
    twoK W b4 b5 x0 x1 y0 y1 2 w' G ∧ w.heap.size ≤ w'.heap.size ∧ ∀ k, G k → w'.heap[k]? = w.heap[k]? := by
  obtain ⟨h0, h1, h2, h3, h4⟩ := h
  exact ⟨⟨h0, h1.trans (but_only ho) (fun _ _ h => .inr h), h2.kept (ho.block b4 hne), hr, fun k hk => by rw [ho.size]; exact h4 k hk⟩, by rw [ho.size]; exact Nat.le_refl _, fun k hk => ho.block k (fun e => by have := (h4 k hk).1; omega)⟩

theorem row_six {w : World} {b : Nat} {x0 x1 x2 x3 x4 x5 : Value} (h : RowAt w b [x0, x1, x2, x3, x4, x5]) (c0 c1 c2 c3 c4 c5 : Value) :
    RowAt ((((((w.setCell ⟨b, 0, none⟩ c0).setCell ⟨b, 1, none⟩ c1).setCell ⟨b, 2, none⟩ c2).setCell ⟨b, 3, none⟩ c3).setCell ⟨b, 4, none⟩ c4).setCell ⟨b, 5, none⟩ c5) b [c0, c1, c2, c3, c4, c5] ∧
    Draw.Only b w ((((((w.setCell ⟨b, 0, none⟩ c0).setCell ⟨b, 1, none⟩ c1).setCell ⟨b, 2, none⟩ c2).setCell ⟨b, 3, none⟩ c3).setCell ⟨b, 4, none⟩ c4).setCell ⟨b, 5, none⟩ c5) :=
  ⟨(((((h.set 0 c0 (by simp)).set 1 c1 (by simp)).set 2 c2 (by simp)).set 3 c3 (by simp)).set 4 c4 (by simp)).set 5 c5 (by simp), (((((Draw.Only.set b w 0 c0).trans (Draw.Only.set b _ 1 c1)).trans (Draw.Only.set b _ 2 c2)).trans (Draw.Only.set b _ 3 c3)).trans (Draw.Only.set b _ 4 c4)).trans (Draw.Only.set b _ 5 c5)⟩

theorem row_four {w : World} {b : Nat} {x0 x1 x2 x3 : Value} (h : RowAt w b [x0, x1, x2, x3]) (c0 c1 c2 c3 : Value) :
    RowAt ((((w.setCell ⟨b, 0, none⟩ c0).setCell ⟨b, 1, none⟩ c1).setCell ⟨b, 2, none⟩ c2).setCell ⟨b, 3, none⟩ c3) b [c0, c1, c2, c3] ∧
    Draw.Only b w ((((w.setCell ⟨b, 0, none⟩ c0).setCell ⟨b, 1, none⟩ c1).setCell ⟨b, 2, none⟩ c2).setCell ⟨b, 3, none⟩ c3) :=
  ⟨(((h.set 0 c0 (by simp)).set 1 c1 (by simp)).set 2 c2 (by simp)).set 3 c3 (by simp), (((Draw.Only.set b w 0 c0).trans (Draw.Only.set b _ 1 c1)).trans (Draw.Only.set b _ 2 c2)).trans (Draw.Only.set b _ 3 c3)⟩

def FloatOut (A : Option Addr) (n c : Nat) (A2 : Option Addr) (n2 c2 : Nat) (m : Mk) (x : Wt) (w w' : World) (e : Ending) : Prop := match (m.beside x).2 with
  | none => e = .returned (.tuple #[Mv A n c A2 n2 c2 m, Fl.box zeroF, .bool false])
  | some r => ∃ A3 c3, e = .returned (.tuple #[Mv A3 (n + 1) c3 A2 n2 c2 (m.beside x).1, Fl.box r, .bool true]) ∧ MineE encF 56 w' w.heap.size A3 (n + 1) c3 (m.fs ++ [r])

theorem beside_high {m : Mk} {x : Wt} (hm : m.az ≠ []) (h : (placed m.fs x).t ≠ m.top) : m.beside x = (m, none) := by
  unfold Mk.beside
  split
  · rfl
  · dsimp only; rw [if_pos (.inl h)]

theorem beside_full {m : Mk} {x : Wt} (hm : m.az ≠ []) (ht : (placed m.fs x).t = m.top) (v : Bool) (hv : ((decide ((placed m.fs x).l < (placed m.fs x).r) && decide ((placed m.fs x).t < (placed m.fs x).b)) && decide (({ m with fs := m.fs ++ [placed m.fs x] } : Mk).r - ({ m with fs := m.fs ++ [placed m.fs x] } : Mk).l < wideL m.az)) = v) :
    m.beside x = if v then (m, none) else ({ m with fs := m.fs ++ [placed m.fs x] }, some (placed m.fs x)) := by
  unfold Mk.beside
  split
  · rename_i q; exact absurd q hm
  · rename_i q
    dsimp only
    cases v with
    | true =>
      simp only [Bool.and_eq_true, decide_eq_true_eq] at hv
      rw [if_pos (.inr ⟨by simp [hv.1], hv.2⟩)]
      rfl
    | false =>
      rw [if_neg]
      · rfl
      · rintro (h | ⟨h1, h2⟩)
        · exact h ht
        · rw [Bool.and_eq_false_iff] at hv
          rcases hv with g | g
          · rw [h1] at g; cases g
          · exact absurd h2 (of_decide_eq_false g)

set_option maxRecDepth 100000 in
set_option maxHeartbeats 8000000 in
theorem reffloat_any (A : Option Addr) (n c : Nat) (A2 : Option Addr) (n2 c2 : Nat) (m : Mk) (x : Wt) (w : World) (h : MkIn w A n c A2 n2 c2 m) (hnil : A = none → c = 0) (hm : m.az ≠ []) (h49 : m.fs.all near49 = true) (hr : RightW x) (hn49 : (m.fs ++ [placed m.fs x]).all near49 = true) (hn : n ≤ 1000)
    (hf : -4503599627370496 ≤ m.f ∧ m.f ≤ 4503599627370496) (ht : -4503599627370496 ≤ m.t ∧ m.t ≤ 4503599627370496) :
    Calls Tryz.prog 23 #[Mv A n c A2 n2 c2 m, x.v] w fun e w' => FloatOut A n c A2 n2 c2 m x w w' e ∧ Below w.heap.size w w' := by
  have hpos : ¬ (n2 : Int) = 0 := by have := List.length_pos_iff.2 hm; have := h.hn2; omega
  have HFi := Lib.hid (fun w1 (k : Below w.heap.size w w1) => reffind_any A n c m.fs x w1 h.hn h.hlen (h.hx.thru k) h49 hr)
  obtain ⟨r, hrr⟩ : ∃ r, placed m.fs x = r := ⟨_, rfl⟩
  have hrs : r.s = x.s := by rw [← hrr]; rfl
  have hr49 : nearF r = true := by rw [← hrr]; exact placed_near h49 hr
  replace HFi : Hid (∀ w1, Below w.heap.size w w1 → Calls Tryz.prog 22 #[.slice A n c, x.v] w1 fun e w' => e = .returned (Fl.box r) ∧ Below w1.heap.size w1 w') := Lib.hid (fun w1 k => by
    have := HFi.out w1 k
    rw [← hrr]
    exact this)
  rw [hrr] at hn49
  obtain ⟨m', hm'⟩ : ∃ m', ({ m with fs := m.fs ++ [r] } : Mk) = m' := ⟨_, rfl⟩
  have HH := Lib.hid h
  have HB := Lib.hid (⟨hnil, hm, hn, hrr, hrs, h49⟩ : (A = none → c = 0) ∧ m.az ≠ [] ∧ n ≤ 1000 ∧ placed m.fs x = r ∧ r.s = x.s ∧ m.fs.all near49 = true)
  have HN := Lib.hid (⟨hn49, hf, ht⟩ : (m.fs ++ [r]).all near49 = true ∧ (-4503599627370496 ≤ m.f ∧ m.f ≤ 4503599627370496) ∧ (-4503599627370496 ≤ m.t ∧ m.t ≤ 4503599627370496))
  have HM' := Lib.hid hm'
  clear h hnil hm h49 hr hn hrr hrs hr49 hn49 hm' hf ht
  go_enter Tryz.func23, Tryz.ntmps23
  go_upto_region 1 with fail
  generalize hW1 : World.alloc w _ = W1
  obtain ⟨b0, hb0⟩ : ∃ b0, w.heap.size = b0 := ⟨_, rfl⟩
  have k1 : Below w.heap.size w W1 := by rw [← hW1]; exact ba1 _ _
  have s1 : W1.heap.size = b0 + 1 := by rw [← hW1, ← hb0]; simp
  have a1 : RowAt W1 b0 (mrow A n c A2 n2 c2 m) := by rw [← hW1, ← hb0]; exact RowAt.new w _ _
  clear hW1
  generalize hW2 : World.alloc W1 _ = W2
  have k2 : Below W1.heap.size W1 W2 := by rw [← hW2]; exact ba1 _ _
  have s2 : W2.heap.size = b0 + 1 + 1 := by rw [← hW2, ← s1]; simp
  have a2 : RowAt W2 (b0 + 1) (wrow x) := by rw [← hW2, ← s1]; exact RowAt.new W1 _ _
  clear hW2
  generalize hW3 : World.alloc W2 _ = W3
  have k3 : Below W2.heap.size W2 W3 := by rw [← hW3]; exact ba1 _ _
  have s3 : W3.heap.size = b0 + 1 + 1 + 1 := by rw [← hW3, ← s2]; simp
  have a3 : RowAt W3 (b0 + 1 + 1) (mrow none 0 0 none 0 0 zeroM) := by rw [← hW3, ← s2]; exact RowAt.new W2 _ _
  clear hW3
  generalize hW4 : World.alloc W3 _ = W4
  have k4 : Below W3.heap.size W3 W4 := by rw [← hW4]; exact ba1 _ _
  have s4 : W4.heap.size = b0 + 1 + 1 + 1 + 1 := by rw [← hW4, ← s3]; simp
  have a4 : RowAt W4 (b0 + 1 + 1 + 1) (frow zeroF) := by rw [← hW4, ← s3]; exact RowAt.new W3 _ _
  clear hW4
  rw [hb0]
  obtain ⟨b1, hb1⟩ : ∃ b1, b0 + 1 = b1 := ⟨_, rfl⟩
  obtain ⟨b2, hb2⟩ : ∃ b2, b1 + 1 = b2 := ⟨_, rfl⟩
  obtain ⟨b3, hb3⟩ : ∃ b3, b2 + 1 = b3 := ⟨_, rfl⟩
  rw [hb1] at s1 s2 s3 s4 a2 a3 a4 ⊢
  rw [hb2] at s2 s3 s4 a3 a4 ⊢
  rw [hb3] at s3 s4 a4 ⊢
  have HL := Lib.hid (⟨by omega, by omega, by omega, by omega, by omega⟩ : w.heap.size ≤ b2 ∧ w.heap.size ≤ b3 ∧ b2 ≠ b3 ∧ b0 ≠ b2 ∧ b0 ≠ b3)
  have S1 := Lib.hid (⟨thru (thru (thru k1 k2) k3) k4, a1.below (by simp) (thru (thru k2 k3) k4), a2.below (by simp) (thru k3 k4), a3.below (by simp) k4, a4⟩ : Below w.heap.size w W4 ∧ RowAt W4 b0 (mrow A n c A2 n2 c2 m) ∧ RowAt W4 b1 (wrow x) ∧ RowAt W4 b2 (mrow none 0 0 none 0 0 zeroM) ∧ RowAt W4 b3 (frow zeroF))
  clear k1 k2 k3 k4 s1 s2 s3 a1 a2 a3 a4 hb0 hb1 hb2 hb3
  go_upto_region 2 with fail
  generalize hW5 : World.alloc W4 _ = W5
  obtain ⟨b4, hb4⟩ : ∃ b4, b3 + 1 = b4 := ⟨_, rfl⟩
  rw [hb4] at s4
  have k5 : Below W4.heap.size W4 W5 := by rw [← hW5]; exact ba1 _ _
  have a5 : RowAt W5 b4 (frow zeroF) := by rw [← hW5, ← s4]; exact RowAt.new W4 _ _
  rw [hb4]
  have S2 := Lib.hid (⟨thru S1.out.1 k5, S1.out.2.1.below (by simp) k5, S1.out.2.2.1.below (by simp) k5, S1.out.2.2.2.1.below (by simp) k5, S1.out.2.2.2.2.below (by simp) k5, a5, by have := S1.out.2.2.2.1.lt (by simp); omega, by have := S1.out.2.2.2.2.lt (by simp); omega⟩ : Below w.heap.size w W5 ∧ RowAt W5 b0 (mrow A n c A2 n2 c2 m) ∧ RowAt W5 b1 (wrow x) ∧ RowAt W5 b2 (mrow none 0 0 none 0 0 zeroM) ∧ RowAt W5 b3 (frow zeroF) ∧ RowAt W5 b4 (frow zeroF) ∧ b4 ≠ b2 ∧ b4 ≠ b3)
  clear hW5 k5 a5 s4 hb4 S1
  have c0 : W5.cell? ⟨b0, 0, none⟩ = some (.slice A n c) := S2.out.2.1.at' 0
  have c5 : W5.cell? ⟨b0, 5, none⟩ = some (.slice A2 n2 c2) := S2.out.2.1.at' 5
  have x0 : W5.cell? ⟨b1, 0, none⟩ = some (.int .i64 x.s) := S2.out.2.2.1.at' 0
  have x1 : W5.cell? ⟨b1, 1, none⟩ = some (.int .i64 x.c) := S2.out.2.2.1.at' 1
  have x2 : W5.cell? ⟨b1, 2, none⟩ = some (.int .i64 x.f) := S2.out.2.2.1.at' 2
  have x3 : W5.cell? ⟨b1, 3, none⟩ = some (.int .i64 x.t) := S2.out.2.2.1.at' 3
  have x4 : W5.cell? ⟨b1, 4, none⟩ = some (.int .i64 x.wd) := S2.out.2.2.1.at' 4
  have x5 : W5.cell? ⟨b1, 5, none⟩ = some (.int .i64 x.ht) := S2.out.2.2.1.at' 5
  have x6 : W5.cell? ⟨b1, 6, none⟩ = some (.int .i64 x.y) := S2.out.2.2.1.at' 6
  go_upto_region 5 with (first
    | (go_at_call 22; refine (HFi.out W5 S2.out.1).mono ?_; rintro e w6 ⟨rfl, k6⟩; have K6 := Lib.hid k6; clear k6))
  clear c0 c5 x0 x1 x2 x3 x4 x5 x6
  generalize hW7 : World.alloc w6 _ = W7
  obtain ⟨b5, hb5⟩ : ∃ b5, w6.heap.size = b5 := ⟨_, rfl⟩
  have k7 : Below w6.heap.size w6 W7 := by rw [← hW7]; exact ba1 _ _
  have a7 : RowAt W7 b5 (frow r) := by rw [← hW7, ← hb5]; exact RowAt.new w6 _ _
  rw [hb5]
  have k57 := thru K6.out k7
  have S3 := Lib.hid (⟨thru S2.out.1 k57, S2.out.2.1.below (by simp) k57, S2.out.2.2.1.below (by simp) k57, S2.out.2.2.2.1.below (by simp) k57, S2.out.2.2.2.2.1.below (by simp) k57, S2.out.2.2.2.2.2.1.below (by simp) k57, a7, by have := S2.out.2.2.2.1.lt (by simp); have := K6.out.size; omega, by have := S2.out.2.2.2.2.1.lt (by simp); have := K6.out.size; omega⟩ : Below w.heap.size w W7 ∧ RowAt W7 b0 (mrow A n c A2 n2 c2 m) ∧ RowAt W7 b1 (wrow x) ∧ RowAt W7 b2 (mrow none 0 0 none 0 0 zeroM) ∧ RowAt W7 b3 (frow zeroF) ∧ RowAt W7 b4 (frow zeroF) ∧ RowAt W7 b5 (frow r) ∧ b5 ≠ b2 ∧ b5 ≠ b3)
  have HX := Lib.hid (⟨S2.out.2.2.2.2.2.2.1, S2.out.2.2.2.2.2.2.2⟩ : b4 ≠ b2 ∧ b4 ≠ b3)
  clear hW7 k7 a7 k57 hb5 S2 K6
  have c4 : W7.cell? ⟨b0, 4, none⟩ = some (.int .i64 m.top) := S3.out.2.1.at' 4
  have r1 : W7.cell? ⟨b5, 1, none⟩ = some (.int .i64 r.t) := S3.out.2.2.2.2.2.2.1.at' 1
  by_cases htt : r.t = m.top
  · have hb : (r.t != m.top) = false := by rw [htt]; simp
    have HT := Lib.hid htt
    clear htt
    go_upto_region 7 with fail
    have c0 : W7.cell? ⟨b0, 0, none⟩ = some (.slice A n c) := S3.out.2.1.at' 0
    have c1 : W7.cell? ⟨b0, 1, none⟩ = some (.int .i64 m.f) := S3.out.2.1.at' 1
    have c2' : W7.cell? ⟨b0, 2, none⟩ = some (.int .i64 m.t) := S3.out.2.1.at' 2
    have c3 : W7.cell? ⟨b0, 3, none⟩ = some (.int .i64 m.y) := S3.out.2.1.at' 3
    have c5 : W7.cell? ⟨b0, 5, none⟩ = some (.slice A2 n2 c2) := S3.out.2.1.at' 5
    go_upto_region 8 with fail
    clear c0 c1 c2' c3 c4 c5 r1
    generalize hW8 : World.alloc W7 _ = W8
    obtain ⟨b6, hb6⟩ : ∃ b6, W7.heap.size = b6 := ⟨_, rfl⟩
    have k8 : Below W7.heap.size W7 W8 := by rw [← hW8]; exact ba1 _ _
    have a8 : RowAt W8 b6 (mrow A n c A2 n2 c2 m) := by rw [← hW8, ← hb6]; exact RowAt.new W7 _ _
    rw [hb6]
    have HL6 := Lib.hid (⟨by have := S3.out.1.size; omega, by have := S3.out.2.1.lt (by simp); omega, by have := S3.out.2.2.2.1.lt (by simp); omega, by have := S3.out.2.2.2.2.1.lt (by simp); omega, by have := S3.out.2.2.2.2.2.2.1.lt (by simp); omega, a8.lt (by simp), by have := S3.out.2.2.2.2.2.1.lt (by simp); omega⟩ : w.heap.size ≤ b6 ∧ b0 ≠ b6 ∧ b2 ≠ b6 ∧ b3 ≠ b6 ∧ b5 ≠ b6 ∧ b6 < W8.heap.size ∧ b4 ≠ b6)
    have S4 := Lib.hid (⟨thru S3.out.1 k8, S3.out.2.1.below (by simp) k8, (by have := S3.out.2.2.1.below (by simp) k8; unfold wrow at this; rw [← HB.out.2.2.2.2.1] at this; exact this), S3.out.2.2.2.1.below (by simp) k8, S3.out.2.2.2.2.1.below (by simp) k8, S3.out.2.2.2.2.2.2.1.below (by simp) k8, a8, S3.out.2.2.2.2.2.1.below (by simp) k8⟩ : Below w.heap.size w W8 ∧ RowAt W8 b0 (mrow A n c A2 n2 c2 m) ∧ RowAt W8 b1 [.int .i64 r.s, .int .i64 x.c, .int .i64 x.f, .int .i64 x.t, .int .i64 x.wd, .int .i64 x.ht, .int .i64 x.y] ∧ RowAt W8 b2 (mrow none 0 0 none 0 0 zeroM) ∧ RowAt W8 b3 (frow zeroF) ∧ RowAt W8 b5 (frow r) ∧ RowAt W8 b6 (mrow A n c A2 n2 c2 m) ∧ RowAt W8 b4 (frow zeroF))
    have H5 := Lib.hid S3.out.2.2.2.2.2.2.2
    clear hW8 k8 a8 hb6 S3
    have HA := Lib.hid (fun w' (i : Below W8.heap.size W8 w') => show RowAt w' b0 (mrow A n c A2 n2 c2 m) ∧ RowAt w' b1 [.int .i64 r.s, .int .i64 x.c, .int .i64 x.f, .int .i64 x.t, .int .i64 x.wd, .int .i64 x.ht, .int .i64 x.y] ∧ RowAt w' b5 (frow r) from ⟨S4.out.2.1.below (by simp) i, S4.out.2.2.1.below (by simp) i, S4.out.2.2.2.2.2.1.below (by simp) i⟩)
    have HSr := Lib.hid (fun w' (i : Below W8.heap.size W8 w') => src_all (HH.out.hx.thru (thru S4.out.1 i)) HH.out.hn HB.out.1)
    refine Hold.wp_region_hold [.some (Emp W8.heap.size), .val (.pointer (some ⟨b0, 0, none⟩)), .val (.slice A n c), .some (Own m.fs n W8.heap.size), .val (.pointer (some ⟨b1, 0, none⟩)), .val (.int .i64 r.s), .val (.agg #[.int .i64 r.l, .int .i64 r.t, .int .i64 r.r, .int .i64 r.b]), .val (.agg #[.int .i64 r.s, .int .i64 r.l, .int .i64 r.t, .int .i64 r.r, .int .i64 r.b]), .some (Own [r] 1 W8.heap.size)] (by kernel_rfl) (by kernel_rfl) (by kernel_rfl) ?_ ?_
    · simp only [Hold.fill, Hold.Leave.value]
      refine ⟨?_, ?_, ?_, ?_, ?_, ?_, ?_, ?_, ?_, trivial⟩
      · refine ⟨emp_keeps _, fun gg w' hw hk => ?_⟩
        go_simp
        exact ⟨ba1 _ _, _, rfl, emptyE_mine encF 56 w' W8.heap.size hw.size, by have := hw.size; simp; omega⟩
      · intro gg w' hw hk
        go_simp
        exact ⟨rfl, rfl⟩
      · intro gg w' hw hk
        have q0 : w'.cell? ⟨b0, 0, none⟩ = some (.slice A n c) := ((HA.out w' hw).1).at' 0
        go_simp
        exact ⟨rfl, rfl⟩
      · refine ⟨own_keeps _ _ _, fun gg w' hw hk => ?_⟩
        have h1 := hk ⟨0, .data⟩ (by simp) rfl _ rfl
        have hg : ∃ b, gg 0 = .slice (some ⟨b, 0, none⟩) 0 0 ∧ MineE encF 56 w' W8.heap.size (some ⟨b, 0, none⟩) 0 0 [] := by
          obtain ⟨b, q1, q2, q3⟩ := h1
          exact ⟨b, q1, q2⟩
        clear h1 hk
        have hsrc : SrcE encF w' A n c m.fs := HSr.out w' hw
        have hnb : n ≤ 1000 := HB.out.2.2.1
        have key : ∀ b, gg 0 = .slice (some ⟨b, 0, none⟩) 0 0 → MineE encF 56 w' W8.heap.size (some ⟨b, 0, none⟩) 0 0 [] → ∃ A' c' w'', (Builtin.append_ #[22, 22] 22 #[gg 0, .slice A n c]).run Tryz.prog w' = .ok (.slice A' n c') w'' ∧ MineE encF 56 w'' W8.heap.size A' n c' m.fs ∧ Below w'.heap.size w' w'' := fun b q1 q2 => by
          rw [q1]
          exact run_append_fresh (E := encF) infoF _ w' W8.heap.size b q2 A n c m.fs hsrc (by simp only [maxLen]; omega) (by omega) hw.size
        have hk2 := hg.elim fun b q => key b q.1 q.2
        clear key hg hsrc
        refine gives_append (.tmp 30) (.tmp 32) rfl (gg 0) (.slice A n c) ?_ ?_ ?_
        · go_simp
        · go_simp
        · have hsz := hw.size
          exact hk2.elim fun A' h => h.elim fun c' h => h.elim fun w'' h => ⟨_, w'', h.1, h.2.2, A', c', rfl, h.2.1, Nat.le_trans hsz h.2.2.size⟩
      · intro gg w' hw hk
        go_simp
        exact ⟨rfl, rfl⟩
      · intro gg w' hw hk
        have q0 : w'.cell? ⟨b1, 0, none⟩ = some (.int .i64 r.s) := ((HA.out w' hw).2.1).at' 0
        go_simp
        exact ⟨rfl, rfl⟩
      · intro gg w' hw hk
        have q0 : w'.cell? ⟨b5, 0, none⟩ = some (.int .i64 r.l) := ((HA.out w' hw).2.2).at' 0
        have q1 : w'.cell? ⟨b5, 1, none⟩ = some (.int .i64 r.t) := ((HA.out w' hw).2.2).at' 1
        have q2 : w'.cell? ⟨b5, 2, none⟩ = some (.int .i64 r.r) := ((HA.out w' hw).2.2).at' 2
        have q3 : w'.cell? ⟨b5, 3, none⟩ = some (.int .i64 r.b) := ((HA.out w' hw).2.2).at' 3
        go_simp
        exact ⟨rfl, rfl⟩
      · intro gg w' hw hk
        go_simp
        exact ⟨rfl, rfl⟩
      · refine ⟨own_keeps _ _ _, fun gg w' hw hk => ?_⟩
        have hsz := hw.size
        go_simp
        exact ⟨ba1 _ _, _, _, rfl, oneF w' W8.heap.size hsz r, by simp; omega⟩
    intro gg w9 k9 hgg
    simp only [Hold.fill, Hold.Leave.value, List.length_cons, List.length_nil, List.drop_succ_cons, List.drop_zero]
    have h2 := hgg 3 _ rfl
    have h4 := hgg 8 _ rfl
    obtain ⟨A1, c1, q1, m1, b1⟩ := h2
    obtain ⟨A2', c2', q2, m2, b2⟩ := h4
    obtain ⟨g2, rfl, -, -, -, -⟩ := m2.form (by omega)
    rw [q1, q2]
    have M1 := Lib.hid m1
    have M2 := Lib.hid m2
    have K9 := Lib.hid k9
    clear hgg q1 q2 m1 m2 b1 b2 k9
    refine wpList_append_wideE infoF _ rfl (.tmp 33) (.tmp 38) rfl W8.heap.size A1 n c1 m.fs (by go_simp) M1.out ⟨g2, 0, none⟩ 1 c2' [r] (by go_simp) (MineE.src M2.out) (by have := HB.out.2.2.1; simp only [maxLen]; omega) (by have := HB.out.2.2.1; omega) K9.out.size ?_
    intro A3 c3 w10 h3
    have M3 := Lib.hid (⟨h3.1, AppendedE.below h3 M1.out K9.out (Nat.le_refl _) K9.out.size⟩ : MineE encF 56 w10 W8.heap.size A3 (n + 1) c3 (m.fs ++ [r]) ∧ Below W8.heap.size W8 w10)
    clear h3 M1 M2 K9
    have g6 := S4.out.2.2.2.2.2.2.1.below (by simp) M3.out.2
    have f0 : w10.frozen? ⟨b6, 0, none⟩ = false := g6.frz 0
    have e0 : w10.cell? ⟨b6, 0, none⟩ = some (.slice A n c) := g6.at' 0
    have v6 : RowAt (w10.setCell ⟨b6, 0, none⟩ (.slice A3 (n + 1) c3)) b6 (mrow A3 (n + 1) c3 A2 n2 c2 m') := by
      have := g6.set 0 (.slice A3 (n + 1) c3) (by simp)
      rw [← HM'.out]
      exact this
    have HV6 := Lib.hid v6
    clear g6 v6 HSr HA
    go_simp
    go_upto_region 9 with fail
    clear f0 e0
    have kB := but_one w10 b6 0 (.slice A3 (n + 1) c3)
    have kV : But (fun k => k = b6) W8 (w10.setCell ⟨b6, 0, none⟩ (.slice A3 (n + 1) c3)) := (But.of_below (S := fun k => k = b6) M3.out.2).trans kB (fun _ _ e => e)
    have hV6 := HV6.out
    have hMV := mineE_but M3.out.1 kB (fun j e e2 => by have := (M3.out.1.lt j e).1; have := HL6.out; omega)
    clear HV6 kB
    generalize w10.setCell ⟨b6, 0, none⟩ (.slice A3 (n + 1) c3) = V at *
    have S5 := Lib.hid (⟨S4.out.1.trans (kV.below S4.out.1.size (fun k e => by have := HL6.out; omega)), S4.out.2.1.but (by simp) kV HL6.out.2.1, S4.out.2.2.2.1.but (by simp) kV HL6.out.2.2.1, S4.out.2.2.2.2.1.but (by simp) kV HL6.out.2.2.2.1, S4.out.2.2.2.2.2.1.but (by simp) kV HL6.out.2.2.2.2.1, hV6, hMV.mono S4.out.1.size, S4.out.2.2.2.2.2.2.2.but (by simp) kV HL6.out.2.2.2.2.2.2⟩ : Below w.heap.size w V ∧ RowAt V b0 (mrow A n c A2 n2 c2 m) ∧ RowAt V b2 (mrow none 0 0 none 0 0 zeroM) ∧ RowAt V b3 (frow zeroF) ∧ RowAt V b5 (frow r) ∧ RowAt V b6 (mrow A3 (n + 1) c3 A2 n2 c2 m') ∧ MineE encF 56 V w.heap.size A3 (n + 1) c3 (m.fs ++ [r]) ∧ RowAt V b4 (frow zeroF))
    have hA3 : blk A3 ≠ some b2 ∧ blk A3 ≠ some b3 := ⟨fun e => by have := (M3.out.1.lt b2 e).1; have := S4.out.2.2.2.1.lt (by simp); omega, fun e => by have := (M3.out.1.lt b3 e).1; have := S4.out.2.2.2.2.1.lt (by simp); omega⟩
    have HA3 := Lib.hid hA3
    have HMk : Hid (MkIn V A3 (n + 1) c3 A2 n2 c2 m') := Lib.hid (by
      rw [← HM'.out]
      exact ⟨by show n + 1 = (m.fs ++ [r]).length; rw [List.length_append, HH.out.hn]; rfl, by have := HB.out.2.2.1; omega, floats_mine S5.out.2.2.2.2.2.2.1, HH.out.hn2, HH.out.hlen2, HH.out.hx2.thru S5.out.1, HH.out.ha, HH.out.ht⟩)
    clear kV hV6 hMV hA3 M3 S4
    have d0 : V.cell? ⟨b6, 0, none⟩ = some (.slice A3 (n + 1) c3) := S5.out.2.2.2.2.2.1.at' 0
    have d1 : V.cell? ⟨b6, 1, none⟩ = some (.int .i64 m'.f) := S5.out.2.2.2.2.2.1.at' 1
    have d2 : V.cell? ⟨b6, 2, none⟩ = some (.int .i64 m'.t) := S5.out.2.2.2.2.2.1.at' 2
    have d3 : V.cell? ⟨b6, 3, none⟩ = some (.int .i64 m'.y) := S5.out.2.2.2.2.2.1.at' 3
    have d4 : V.cell? ⟨b6, 4, none⟩ = some (.int .i64 m'.top) := S5.out.2.2.2.2.2.1.at' 4
    have d5 : V.cell? ⟨b6, 5, none⟩ = some (.slice A2 n2 c2) := S5.out.2.2.2.2.2.1.at' 5
    go_upto_region 10 with (first
      | (go_at_call 37; refine (refbox_any A3 (n + 1) c3 A2 n2 c2 m' V HMk.out).mono ?_; rintro e w11 ⟨rfl, k11⟩; have K11 := Lib.hid k11; clear k11))
    clear d0 d1 d2 d3 d4 d5
    generalize hX : World.alloc w11 _ = X
    obtain ⟨b7, hb7⟩ : ∃ b7, w11.heap.size = b7 := ⟨_, rfl⟩
    have k12 : Below w11.heap.size w11 X := by rw [← hX]; exact ba1 _ _
    have a12 : RowAt X b7 [.int .i64 m'.l, .int .i64 m'.top, .int .i64 m'.r, .int .i64 m'.b] := by rw [← hX, ← hb7]; exact RowAt.new w11 _ _
    rw [hb7]
    have kX := thru K11.out k12
    have S6 := Lib.hid (⟨thru S5.out.1 kX, S5.out.2.1.below (by simp) kX, S5.out.2.2.1.below (by simp) kX, S5.out.2.2.2.1.below (by simp) kX, S5.out.2.2.2.2.1.below (by simp) kX, S5.out.2.2.2.2.2.1.below (by simp) kX, S5.out.2.2.2.2.2.2.1.below kX, a12, S5.out.2.2.2.2.2.2.2.below (by simp) kX⟩ : Below w.heap.size w X ∧ RowAt X b0 (mrow A n c A2 n2 c2 m) ∧ RowAt X b2 (mrow none 0 0 none 0 0 zeroM) ∧ RowAt X b3 (frow zeroF) ∧ RowAt X b5 (frow r) ∧ RowAt X b6 (mrow A3 (n + 1) c3 A2 n2 c2 m') ∧ MineE encF 56 X w.heap.size A3 (n + 1) c3 (m.fs ++ [r]) ∧ RowAt X b7 [.int .i64 m'.l, .int .i64 m'.top, .int .i64 m'.r, .int .i64 m'.b] ∧ RowAt X b4 (frow zeroF))
    clear hX k12 a12 hb7 kX K11 S5
    have HA := Lib.hid (fun w' (i : Below X.heap.size X w') => show RowAt w' b0 (mrow A n c A2 n2 c2 m) ∧ RowAt w' b5 (frow r) ∧ RowAt w' b7 [.int .i64 m'.l, .int .i64 m'.top, .int .i64 m'.r, .int .i64 m'.b] from ⟨S6.out.2.1.below (by simp) i, S6.out.2.2.2.2.1.below (by simp) i, S6.out.2.2.2.2.2.2.2.1.below (by simp) i⟩)
    have HWi := Lib.hid (fun w' (i : Below X.heap.size X w') => refwide_any A2 n2 c2 m.az w' HH.out.hn2 HH.out.hlen2 (HH.out.hx2.thru (thru S6.out.1 i)) HH.out.ha)
    obtain ⟨L1, L2⟩ := bandL_49 HN.out.1 m.top (m.top + highZ (highL m.az))
    obtain ⟨R1, R2⟩ := bandR_49 HN.out.1 m.top (m.top + highZ (highL m.az))
    have hlr : IntKind.i64.wrap (m'.r - m'.l) = m'.r - m'.l := by
      have h1 := HN.out.2.1
      have h2 := HN.out.2.2
      rw [← HM'.out]
      exact IntWalk.i64_in _ (by
        show _ ≤ min m.t (bandR (m.fs ++ [r]) m.top (m.top + highZ (highL m.az))) - max m.f (bandL (m.fs ++ [r]) m.top (m.top + highZ (highL m.az))) ∧ min m.t (bandR (m.fs ++ [r]) m.top (m.top + highZ (highL m.az))) - max m.f (bandL (m.fs ++ [r]) m.top (m.top + highZ (highL m.az))) ≤ _
        omega)
    have HLR := Lib.hid hlr
    clear hlr L1 L2 R1 R2
    have HBF := Lib.hid (fun v (hv : ((decide (r.l < r.r) && decide (r.t < r.b)) && decide (m'.r - m'.l < wideL m.az)) = v) => beside_full (m := m) (x := x) HB.out.2.1 (by rw [HB.out.2.2.2.1]; exact HT.out) v (by rw [HB.out.2.2.2.1, HM'.out]; exact hv))
    rw [HB.out.2.2.2.1, HM'.out] at HBF
    obtain ⟨fv, hfv⟩ : ∃ fv, (decide (r.l < r.r) && decide (r.t < r.b)) = fv := ⟨_, rfl⟩
    have HFu := Lib.hid (fun w1 => rfull_is r.l r.t r.r r.b fv hfv w1)
    rw [hfv] at HBF
    clear hfv
    have HL5 := Lib.hid (⟨H5.out.1, H5.out.2, HL6.out.2.2.1, HL6.out.2.2.2.1⟩ : b5 ≠ b2 ∧ b5 ≠ b3 ∧ b2 ≠ b6 ∧ b3 ≠ b6)
    obtain ⟨ml, hml⟩ : ∃ ml, m'.l = ml := ⟨_, rfl⟩
    obtain ⟨mr, hmr⟩ : ∃ mr, m'.r = mr := ⟨_, rfl⟩
    obtain ⟨mb, hmb⟩ : ∃ mb, m'.b = mb := ⟨_, rfl⟩
    obtain ⟨wl, hwl⟩ : ∃ wl, wideL m.az = wl := ⟨_, rfl⟩
    rw [hml, hmr, hmb] at HA
    rw [hwl] at HWi
    rw [hml, hmr] at HLR
    rw [hml, hmr, hwl] at HBF
    clear hml hmr hmb hwl
    cases fv with
    | false =>
      refine HoldAll.wp_region_hold_all [.val (.agg #[.int .i64 r.l, .int .i64 r.t, .int .i64 r.r, .int .i64 r.b]), .val (.bool false), .val (.bool false), .skip, .skip, .skip, .skip, .skip, .skip, .skip, .skip, .skip, .val (.bool false)] (by kernel_rfl) (by kernel_rfl) (by kernel_rfl) ?_ ?_
      · simp only [Hold.fill, Hold.Leave.value]
        refine ⟨?_, ?_, ?_, trivial, trivial, trivial, trivial, trivial, trivial, trivial, trivial, trivial, ?_, trivial⟩
        · intro gg w' hw hk
          have q0 : w'.cell? ⟨b5, 0, none⟩ = some (.int .i64 r.l) := ((HA.out w' hw).2.1).at' 0
          have q1 : w'.cell? ⟨b5, 1, none⟩ = some (.int .i64 r.t) := ((HA.out w' hw).2.1).at' 1
          have q2 : w'.cell? ⟨b5, 2, none⟩ = some (.int .i64 r.r) := ((HA.out w' hw).2.1).at' 2
          have q3 : w'.cell? ⟨b5, 3, none⟩ = some (.int .i64 r.b) := ((HA.out w' hw).2.1).at' 3
          go_simp
          exact ⟨rfl, rfl⟩
        · intro gg w' hw hk
          go_simp
          exact Hold.stays_call (HFu.out w')
        · intro gg w' hw hk
          go_simp
          exact ⟨rfl, rfl⟩
        · intro gg w' hw hk
          go_simp
          exact ⟨rfl, rfl⟩
      intro gg w8 k8 hgg
      clear hgg
      simp only [Hold.fill, Hold.Leave.value]
      have S7 := Lib.hid (⟨thru S6.out.1 k8, S6.out.2.2.1.below (by simp) k8, S6.out.2.2.2.1.below (by simp) k8⟩ : Below w.heap.size w w8 ∧ RowAt w8 b2 (mrow none 0 0 none 0 0 zeroM) ∧ RowAt w8 b3 (frow zeroF))
      have S8 := Lib.hid (⟨S6.out.2.2.2.2.2.1.below (by simp) k8, S6.out.2.2.2.2.1.below (by simp) k8⟩ : RowAt w8 b6 (mrow A3 (n + 1) c3 A2 n2 c2 m') ∧ RowAt w8 b5 (frow r))
      have M9 := Lib.hid (⟨S6.out.2.2.2.2.2.2.1.below k8, trivial⟩ : MineE encF 56 w8 w.heap.size A3 (n + 1) c3 (m.fs ++ [r]) ∧ True)
      clear k8 HA HWi HLR HFu
      go_simp
      go_upto_region 12 with fail
      have HA := Lib.hid (fun st w' G (h : twoK w8 b2 b3 (mrow none 0 0 none 0 0 zeroM) (mrow A3 (n + 1) c3 A2 n2 c2 m') (frow zeroF) (frow r) st w' G) => show RowAt w' b6 (mrow A3 (n + 1) c3 A2 n2 c2 m') ∧ RowAt w' b5 (frow r) from
        ⟨S8.out.1.but (by simp) h.2.1 (fun e => e.elim (fun q => HL5.out.2.2.1 q.symm) (fun q => HL5.out.2.2.2 q.symm)), S8.out.2.but (by simp) h.2.1 (fun e => e.elim HL5.out.1 HL5.out.2.1)⟩)
      have K0 := Lib.hid (twoK_start (W := w8) (b4 := b2) (b5 := b3) (x0 := (mrow none 0 0 none 0 0 zeroM)) (x1 := (mrow A3 (n + 1) c3 A2 n2 c2 m')) (y0 := frow zeroF) (y1 := (frow r)) S7.out.2.1 S7.out.2.2 (by simp))
      refine Draw.wp_region_drawn (twoK w8 b2 b3 (mrow none 0 0 none 0 0 zeroM) (mrow A3 (n + 1) c3 A2 n2 c2 m') (frow zeroF) (frow r)) 2 [.val (.agg #[.slice A3 (n + 1) c3, .int .i64 m'.f, .int .i64 m'.t, .int .i64 m'.y, .int .i64 m'.top, .slice A2 n2 c2]), .val (.agg #[.int .i64 r.l, .int .i64 r.t, .int .i64 r.r, .int .i64 r.b]), .turn 0 (undef), .turn 1 (undef), .val (.bool true)] (by kernel_rfl) (by kernel_rfl) (by kernel_rfl) (twoK_kept w8 b2 b3 (mrow none 0 0 none 0 0 zeroM) (mrow A3 (n + 1) c3 A2 n2 c2 m') (frow zeroF) (frow r) (by simp)) K0.out ?_ ?_
      · simp only [Draw.fill, Draw.Leave.value]
        refine ⟨?_, ?_, ?_, ?_, ?_, trivial⟩
        · intro st gg w' G hw hk
          have q0 : w'.cell? ⟨b6, 0, none⟩ = some (.slice A3 (n + 1) c3) := ((HA.out st w' G hw).1).at' 0
          have q1 : w'.cell? ⟨b6, 1, none⟩ = some (.int .i64 m'.f) := ((HA.out st w' G hw).1).at' 1
          have q2 : w'.cell? ⟨b6, 2, none⟩ = some (.int .i64 m'.t) := ((HA.out st w' G hw).1).at' 2
          have q3 : w'.cell? ⟨b6, 3, none⟩ = some (.int .i64 m'.y) := ((HA.out st w' G hw).1).at' 3
          have q4 : w'.cell? ⟨b6, 4, none⟩ = some (.int .i64 m'.top) := ((HA.out st w' G hw).1).at' 4
          have q5 : w'.cell? ⟨b6, 5, none⟩ = some (.slice A2 n2 c2) := ((HA.out st w' G hw).1).at' 5
          go_simp
          exact ⟨rfl, rfl⟩
        · intro st gg w' G hw hk
          have q0 : w'.cell? ⟨b5, 0, none⟩ = some (.int .i64 r.l) := ((HA.out st w' G hw).2).at' 0
          have q1 : w'.cell? ⟨b5, 1, none⟩ = some (.int .i64 r.t) := ((HA.out st w' G hw).2).at' 1
          have q2 : w'.cell? ⟨b5, 2, none⟩ = some (.int .i64 r.r) := ((HA.out st w' G hw).2).at' 2
          have q3 : w'.cell? ⟨b5, 3, none⟩ = some (.int .i64 r.b) := ((HA.out st w' G hw).2).at' 3
          go_simp
          exact ⟨rfl, rfl⟩
        · intro gg w' G hw hk
          have z : RowAt w' b2 (mrow none 0 0 none 0 0 zeroM) := hw.2.2.1
          have q0 : w'.cell? ⟨b2, 0, none⟩ = some (.slice none 0 0) := z.at' 0
          have q1 : w'.cell? ⟨b2, 1, none⟩ = some (.int .i64 0) := z.at' 1
          have q2 : w'.cell? ⟨b2, 2, none⟩ = some (.int .i64 0) := z.at' 2
          have q3 : w'.cell? ⟨b2, 3, none⟩ = some (.int .i64 0) := z.at' 3
          have q4 : w'.cell? ⟨b2, 4, none⟩ = some (.int .i64 0) := z.at' 4
          have q5 : w'.cell? ⟨b2, 5, none⟩ = some (.slice none 0 0) := z.at' 5
          have f0 : w'.frozen? ⟨b2, 0, none⟩ = false := z.frz 0
          have f1 : w'.frozen? ⟨b2, 1, none⟩ = false := z.frz 1
          have f2 : w'.frozen? ⟨b2, 2, none⟩ = false := z.frz 2
          have f3 : w'.frozen? ⟨b2, 3, none⟩ = false := z.frz 3
          have f4 : w'.frozen? ⟨b2, 4, none⟩ = false := z.frz 4
          have f5 : w'.frozen? ⟨b2, 5, none⟩ = false := z.frz 5
          have u := twoK_first hw HL.out.2.2.1 (row_six z (.slice A3 (n + 1) c3) (.int .i64 m'.f) (.int .i64 m'.t) (.int .i64 m'.y) (.int .i64 m'.top) (.slice A2 n2 c2)).2 (row_six z (.slice A3 (n + 1) c3) (.int .i64 m'.f) (.int .i64 m'.t) (.int .i64 m'.y) (.int .i64 m'.top) (.slice A2 n2 c2)).1
          clear z
          go_simp
          exact ⟨rfl, u⟩
        · intro gg w' G hw hk
          have z : RowAt w' b3 (frow zeroF) := hw.2.2.2.1
          have q0 : w'.cell? ⟨b3, 0, none⟩ = some (.int .i64 0) := z.at' 0
          have q1 : w'.cell? ⟨b3, 1, none⟩ = some (.int .i64 0) := z.at' 1
          have q2 : w'.cell? ⟨b3, 2, none⟩ = some (.int .i64 0) := z.at' 2
          have q3 : w'.cell? ⟨b3, 3, none⟩ = some (.int .i64 0) := z.at' 3
          have f0 : w'.frozen? ⟨b3, 0, none⟩ = false := z.frz 0
          have f1 : w'.frozen? ⟨b3, 1, none⟩ = false := z.frz 1
          have f2 : w'.frozen? ⟨b3, 2, none⟩ = false := z.frz 2
          have f3 : w'.frozen? ⟨b3, 3, none⟩ = false := z.frz 3
          have u := twoK_second hw HL.out.2.2.1 (row_four z (.int .i64 r.l) (.int .i64 r.t) (.int .i64 r.r) (.int .i64 r.b)).2 (row_four z (.int .i64 r.l) (.int .i64 r.t) (.int .i64 r.r) (.int .i64 r.b)).1
          clear z
          go_simp
          exact ⟨rfl, u⟩
        · intro st gg w' G hw hk
          go_simp
          exact ⟨rfl, rfl⟩
      intro gg w9 G9 hkw hbox hput hap
      have k9 : Below w.heap.size w w9 := S7.out.1.trans (hkw.2.1.below S7.out.1.size (fun k e => by have := HL.out; rcases e with e | e <;> omega))
      have z9 : RowAt w9 b2 (mrow A3 (n + 1) c3 A2 n2 c2 m') := hkw.2.2.1
      have y9 : RowAt w9 b3 (frow r) := hkw.2.2.2.1
      have z0 : w9.cell? ⟨b2, 0, none⟩ = some (.slice A3 (n + 1) c3) := z9.at' 0
      have z1 : w9.cell? ⟨b2, 1, none⟩ = some (.int .i64 m'.f) := z9.at' 1
      have z2 : w9.cell? ⟨b2, 2, none⟩ = some (.int .i64 m'.t) := z9.at' 2
      have z3 : w9.cell? ⟨b2, 3, none⟩ = some (.int .i64 m'.y) := z9.at' 3
      have z4 : w9.cell? ⟨b2, 4, none⟩ = some (.int .i64 m'.top) := z9.at' 4
      have z5 : w9.cell? ⟨b2, 5, none⟩ = some (.slice A2 n2 c2) := z9.at' 5
      have y0 : w9.cell? ⟨b3, 0, none⟩ = some (.int .i64 r.l) := y9.at' 0
      have y1 : w9.cell? ⟨b3, 1, none⟩ = some (.int .i64 r.t) := y9.at' 1
      have y2 : w9.cell? ⟨b3, 2, none⟩ = some (.int .i64 r.r) := y9.at' 2
      have y3 : w9.cell? ⟨b3, 3, none⟩ = some (.int .i64 r.b) := y9.at' 3
      have HK9 := Lib.hid (⟨k9, hkw.2.1⟩ : Below w.heap.size w w9 ∧ But (fun k => k = b2 ∨ k = b3) w8 w9)
      clear hkw hbox hput hap K0 HA k9 z9 y9
      simp only [Draw.fill, Draw.Leave.value]
      go_simp
      go_wp2_with fail
      exact bodyPost_ret (v := .tuple #[.agg #[.slice A3 (n + 1) c3, .int .i64 m'.f, .int .i64 m'.t, .int .i64 m'.y, .int .i64 m'.top, .slice A2 n2 c2], Fl.box r, .bool true]) (by simp [results, Tryz.results23, go_sem, z0, z1, z2, z3, z4, z5, y0, y1, y2, y3]) rfl ⟨show FloatOut A n c A2 n2 c2 m x w w9 _ by unfold FloatOut; rw [HBF.out false (by simp)]; exact ⟨A3, c3, rfl, mineE_but M9.out.1 HK9.out.2 (fun j e g => g.elim (fun q => HA3.out.1 (by rw [e, q])) (fun q => HA3.out.2 (by rw [e, q])))⟩, HK9.out.1⟩
    | true =>
      obtain ⟨v2, hv2⟩ : ∃ v2, decide (mr - ml < wl) = v2 := ⟨_, rfl⟩
      rw [hv2] at HBF
      cases v2 with
      | true =>
        have HC := Lib.hid (show mr - ml < wl from of_decide_eq_true hv2)
        clear hv2
        refine HoldAll.wp_region_hold_all [.val (.agg #[.int .i64 r.l, .int .i64 r.t, .int .i64 r.r, .int .i64 r.b]), .val (.bool true), .val (.bool true), .val (.pointer (some ⟨b0, 5, none⟩)), .val (.slice A2 n2 c2), .val (.int .i64 wl), .val (.pointer (some ⟨b7, 2, none⟩)), .val (.int .i64 mr), .val (.pointer (some ⟨b7, 0, none⟩)), .val (.int .i64 ml), .val (.int .i64 (mr - ml)), .val (.bool true), .val (.bool true)] (by kernel_rfl) (by kernel_rfl) (by kernel_rfl) ?_ ?_
        · simp only [Hold.fill, Hold.Leave.value]
          refine ⟨?_, ?_, ?_, ?_, ?_, ?_, ?_, ?_, ?_, ?_, ?_, ?_, ?_, trivial⟩
          · intro gg w' hw hk
            have q0 : w'.cell? ⟨b5, 0, none⟩ = some (.int .i64 r.l) := ((HA.out w' hw).2.1).at' 0
            have q1 : w'.cell? ⟨b5, 1, none⟩ = some (.int .i64 r.t) := ((HA.out w' hw).2.1).at' 1
            have q2 : w'.cell? ⟨b5, 2, none⟩ = some (.int .i64 r.r) := ((HA.out w' hw).2.1).at' 2
            have q3 : w'.cell? ⟨b5, 3, none⟩ = some (.int .i64 r.b) := ((HA.out w' hw).2.1).at' 3
            go_simp
            exact ⟨rfl, rfl⟩
          · intro gg w' hw hk
            go_simp
            exact Hold.stays_call (HFu.out w')
          · intro gg w' hw hk
            go_simp
            exact ⟨rfl, rfl⟩
          · intro gg w' hw hk
            go_simp
            exact ⟨rfl, rfl⟩
          · intro gg w' hw hk
            have q0 : w'.cell? ⟨b0, 5, none⟩ = some (.slice A2 n2 c2) := ((HA.out w' hw).1).at' 5
            go_simp
            exact ⟨rfl, rfl⟩
          · intro gg w' hw hk
            go_simp
            exact Hold.stays_call (HWi.out w' hw)
          · intro gg w' hw hk
            go_simp
            exact ⟨rfl, rfl⟩
          · intro gg w' hw hk
            have q0 : w'.cell? ⟨b7, 2, none⟩ = some (.int .i64 mr) := ((HA.out w' hw).2.2).at' 2
            go_simp
            exact ⟨rfl, rfl⟩
          · intro gg w' hw hk
            go_simp
            exact ⟨rfl, rfl⟩
          · intro gg w' hw hk
            have q0 : w'.cell? ⟨b7, 0, none⟩ = some (.int .i64 ml) := ((HA.out w' hw).2.2).at' 0
            go_simp
            exact ⟨rfl, rfl⟩
          · intro gg w' hw hk
            have q := HLR.out
            go_simp
            exact ⟨rfl, rfl⟩
          · intro gg w' hw hk
            have q := HC.out
            go_simp
            exact ⟨rfl, rfl⟩
          · intro gg w' hw hk
            go_simp
            exact ⟨rfl, rfl⟩
        intro gg w8 k8 hgg
        clear hgg
        simp only [Hold.fill, Hold.Leave.value]
        have S7 := Lib.hid (⟨thru S6.out.1 k8, S6.out.2.2.1.below (by simp) k8, S6.out.2.2.2.1.below (by simp) k8⟩ : Below w.heap.size w w8 ∧ RowAt w8 b2 (mrow none 0 0 none 0 0 zeroM) ∧ RowAt w8 b3 (frow zeroF))
        have S8 := Lib.hid (⟨S6.out.2.1.below (by simp) k8, S6.out.2.2.2.2.2.2.2.2.below (by simp) k8⟩ : RowAt w8 b0 (mrow A n c A2 n2 c2 m) ∧ RowAt w8 b4 (frow zeroF))
        clear k8 HA HWi HLR HFu
        go_simp
        go_upto_region 11 with fail
        have HA := Lib.hid (fun st w' G (h : twoK w8 b2 b3 (mrow none 0 0 none 0 0 zeroM) (mrow A n c A2 n2 c2 m) (frow zeroF) (frow zeroF) st w' G) => show RowAt w' b0 (mrow A n c A2 n2 c2 m) ∧ RowAt w' b4 (frow zeroF) from
          ⟨S8.out.1.but (by simp) h.2.1 (fun e => e.elim HL.out.2.2.2.1 HL.out.2.2.2.2), S8.out.2.but (by simp) h.2.1 (fun e => e.elim HX.out.1 HX.out.2)⟩)
        have K0 := Lib.hid (twoK_start (W := w8) (b4 := b2) (b5 := b3) (x0 := (mrow none 0 0 none 0 0 zeroM)) (x1 := (mrow A n c A2 n2 c2 m)) (y0 := frow zeroF) (y1 := (frow zeroF)) S7.out.2.1 S7.out.2.2 (by simp))
        refine Draw.wp_region_drawn (twoK w8 b2 b3 (mrow none 0 0 none 0 0 zeroM) (mrow A n c A2 n2 c2 m) (frow zeroF) (frow zeroF)) 2 [.val (.agg #[.slice A n c, .int .i64 m.f, .int .i64 m.t, .int .i64 m.y, .int .i64 m.top, .slice A2 n2 c2]), .val (.agg #[.int .i64 zeroF.l, .int .i64 zeroF.t, .int .i64 zeroF.r, .int .i64 zeroF.b]), .turn 0 (undef), .turn 1 (undef), .val (.bool false)] (by kernel_rfl) (by kernel_rfl) (by kernel_rfl) (twoK_kept w8 b2 b3 (mrow none 0 0 none 0 0 zeroM) (mrow A n c A2 n2 c2 m) (frow zeroF) (frow zeroF) (by simp)) K0.out ?_ ?_
        · simp only [Draw.fill, Draw.Leave.value]
          refine ⟨?_, ?_, ?_, ?_, ?_, trivial⟩
          · intro st gg w' G hw hk
            have q0 : w'.cell? ⟨b0, 0, none⟩ = some (.slice A n c) := ((HA.out st w' G hw).1).at' 0
            have q1 : w'.cell? ⟨b0, 1, none⟩ = some (.int .i64 m.f) := ((HA.out st w' G hw).1).at' 1
            have q2 : w'.cell? ⟨b0, 2, none⟩ = some (.int .i64 m.t) := ((HA.out st w' G hw).1).at' 2
            have q3 : w'.cell? ⟨b0, 3, none⟩ = some (.int .i64 m.y) := ((HA.out st w' G hw).1).at' 3
            have q4 : w'.cell? ⟨b0, 4, none⟩ = some (.int .i64 m.top) := ((HA.out st w' G hw).1).at' 4
            have q5 : w'.cell? ⟨b0, 5, none⟩ = some (.slice A2 n2 c2) := ((HA.out st w' G hw).1).at' 5
            go_simp
            exact ⟨rfl, rfl⟩
          · intro st gg w' G hw hk
            have q0 : w'.cell? ⟨b4, 0, none⟩ = some (.int .i64 zeroF.l) := ((HA.out st w' G hw).2).at' 0
            have q1 : w'.cell? ⟨b4, 1, none⟩ = some (.int .i64 zeroF.t) := ((HA.out st w' G hw).2).at' 1
            have q2 : w'.cell? ⟨b4, 2, none⟩ = some (.int .i64 zeroF.r) := ((HA.out st w' G hw).2).at' 2
            have q3 : w'.cell? ⟨b4, 3, none⟩ = some (.int .i64 zeroF.b) := ((HA.out st w' G hw).2).at' 3
            go_simp
            exact ⟨rfl, rfl⟩
          · intro gg w' G hw hk
            have z : RowAt w' b2 (mrow none 0 0 none 0 0 zeroM) := hw.2.2.1
            have q0 : w'.cell? ⟨b2, 0, none⟩ = some (.slice none 0 0) := z.at' 0
            have q1 : w'.cell? ⟨b2, 1, none⟩ = some (.int .i64 0) := z.at' 1
            have q2 : w'.cell? ⟨b2, 2, none⟩ = some (.int .i64 0) := z.at' 2
            have q3 : w'.cell? ⟨b2, 3, none⟩ = some (.int .i64 0) := z.at' 3
            have q4 : w'.cell? ⟨b2, 4, none⟩ = some (.int .i64 0) := z.at' 4
            have q5 : w'.cell? ⟨b2, 5, none⟩ = some (.slice none 0 0) := z.at' 5
            have f0 : w'.frozen? ⟨b2, 0, none⟩ = false := z.frz 0
            have f1 : w'.frozen? ⟨b2, 1, none⟩ = false := z.frz 1
            have f2 : w'.frozen? ⟨b2, 2, none⟩ = false := z.frz 2
            have f3 : w'.frozen? ⟨b2, 3, none⟩ = false := z.frz 3
            have f4 : w'.frozen? ⟨b2, 4, none⟩ = false := z.frz 4
            have f5 : w'.frozen? ⟨b2, 5, none⟩ = false := z.frz 5
            have u := twoK_first hw HL.out.2.2.1 (row_six z (.slice A n c) (.int .i64 m.f) (.int .i64 m.t) (.int .i64 m.y) (.int .i64 m.top) (.slice A2 n2 c2)).2 (row_six z (.slice A n c) (.int .i64 m.f) (.int .i64 m.t) (.int .i64 m.y) (.int .i64 m.top) (.slice A2 n2 c2)).1
            clear z
            go_simp
            exact ⟨rfl, u⟩
          · intro gg w' G hw hk
            have z : RowAt w' b3 (frow zeroF) := hw.2.2.2.1
            have q0 : w'.cell? ⟨b3, 0, none⟩ = some (.int .i64 0) := z.at' 0
            have q1 : w'.cell? ⟨b3, 1, none⟩ = some (.int .i64 0) := z.at' 1
            have q2 : w'.cell? ⟨b3, 2, none⟩ = some (.int .i64 0) := z.at' 2
            have q3 : w'.cell? ⟨b3, 3, none⟩ = some (.int .i64 0) := z.at' 3
            have f0 : w'.frozen? ⟨b3, 0, none⟩ = false := z.frz 0
            have f1 : w'.frozen? ⟨b3, 1, none⟩ = false := z.frz 1
            have f2 : w'.frozen? ⟨b3, 2, none⟩ = false := z.frz 2
            have f3 : w'.frozen? ⟨b3, 3, none⟩ = false := z.frz 3
            have u := twoK_second hw HL.out.2.2.1 (row_four z (.int .i64 zeroF.l) (.int .i64 zeroF.t) (.int .i64 zeroF.r) (.int .i64 zeroF.b)).2 (row_four z (.int .i64 zeroF.l) (.int .i64 zeroF.t) (.int .i64 zeroF.r) (.int .i64 zeroF.b)).1
            clear z
            go_simp
            exact ⟨rfl, u⟩
          · intro st gg w' G hw hk
            go_simp
            exact ⟨rfl, rfl⟩
        intro gg w9 G9 hkw hbox hput hap
        have k9 : Below w.heap.size w w9 := S7.out.1.trans (hkw.2.1.below S7.out.1.size (fun k e => by have := HL.out; rcases e with e | e <;> omega))
        have z9 : RowAt w9 b2 (mrow A n c A2 n2 c2 m) := hkw.2.2.1
        have y9 : RowAt w9 b3 (frow zeroF) := hkw.2.2.2.1
        have z0 : w9.cell? ⟨b2, 0, none⟩ = some (.slice A n c) := z9.at' 0
        have z1 : w9.cell? ⟨b2, 1, none⟩ = some (.int .i64 m.f) := z9.at' 1
        have z2 : w9.cell? ⟨b2, 2, none⟩ = some (.int .i64 m.t) := z9.at' 2
        have z3 : w9.cell? ⟨b2, 3, none⟩ = some (.int .i64 m.y) := z9.at' 3
        have z4 : w9.cell? ⟨b2, 4, none⟩ = some (.int .i64 m.top) := z9.at' 4
        have z5 : w9.cell? ⟨b2, 5, none⟩ = some (.slice A2 n2 c2) := z9.at' 5
        have y0 : w9.cell? ⟨b3, 0, none⟩ = some (.int .i64 zeroF.l) := y9.at' 0
        have y1 : w9.cell? ⟨b3, 1, none⟩ = some (.int .i64 zeroF.t) := y9.at' 1
        have y2 : w9.cell? ⟨b3, 2, none⟩ = some (.int .i64 zeroF.r) := y9.at' 2
        have y3 : w9.cell? ⟨b3, 3, none⟩ = some (.int .i64 zeroF.b) := y9.at' 3
        have HK9 := Lib.hid (⟨k9, hkw.2.1⟩ : Below w.heap.size w w9 ∧ But (fun k => k = b2 ∨ k = b3) w8 w9)
        clear hkw hbox hput hap K0 HA k9 z9 y9
        simp only [Draw.fill, Draw.Leave.value]
        go_simp
        go_wp2_with fail
        exact bodyPost_ret (v := .tuple #[.agg #[.slice A n c, .int .i64 m.f, .int .i64 m.t, .int .i64 m.y, .int .i64 m.top, .slice A2 n2 c2], Fl.box zeroF, .bool false]) (by simp [results, Tryz.results23, go_sem, z0, z1, z2, z3, z4, z5, y0, y1, y2, y3]) rfl ⟨show FloatOut A n c A2 n2 c2 m x w w9 _ by unfold FloatOut; rw [HBF.out true (by simp)]; rfl, HK9.out.1⟩
      | false =>
        have HC := Lib.hid (show ¬ mr - ml < wl from of_decide_eq_false hv2)
        clear hv2
        refine HoldAll.wp_region_hold_all [.val (.agg #[.int .i64 r.l, .int .i64 r.t, .int .i64 r.r, .int .i64 r.b]), .val (.bool true), .val (.bool true), .val (.pointer (some ⟨b0, 5, none⟩)), .val (.slice A2 n2 c2), .val (.int .i64 wl), .val (.pointer (some ⟨b7, 2, none⟩)), .val (.int .i64 mr), .val (.pointer (some ⟨b7, 0, none⟩)), .val (.int .i64 ml), .val (.int .i64 (mr - ml)), .val (.bool false), .val (.bool false)] (by kernel_rfl) (by kernel_rfl) (by kernel_rfl) ?_ ?_
        · simp only [Hold.fill, Hold.Leave.value]
          refine ⟨?_, ?_, ?_, ?_, ?_, ?_, ?_, ?_, ?_, ?_, ?_, ?_, ?_, trivial⟩
          · intro gg w' hw hk
            have q0 : w'.cell? ⟨b5, 0, none⟩ = some (.int .i64 r.l) := ((HA.out w' hw).2.1).at' 0
            have q1 : w'.cell? ⟨b5, 1, none⟩ = some (.int .i64 r.t) := ((HA.out w' hw).2.1).at' 1
            have q2 : w'.cell? ⟨b5, 2, none⟩ = some (.int .i64 r.r) := ((HA.out w' hw).2.1).at' 2
            have q3 : w'.cell? ⟨b5, 3, none⟩ = some (.int .i64 r.b) := ((HA.out w' hw).2.1).at' 3
            go_simp
            exact ⟨rfl, rfl⟩
          · intro gg w' hw hk
            go_simp
            exact Hold.stays_call (HFu.out w')
          · intro gg w' hw hk
            go_simp
            exact ⟨rfl, rfl⟩
          · intro gg w' hw hk
            go_simp
            exact ⟨rfl, rfl⟩
          · intro gg w' hw hk
            have q0 : w'.cell? ⟨b0, 5, none⟩ = some (.slice A2 n2 c2) := ((HA.out w' hw).1).at' 5
            go_simp
            exact ⟨rfl, rfl⟩
          · intro gg w' hw hk
            go_simp
            exact Hold.stays_call (HWi.out w' hw)
          · intro gg w' hw hk
            go_simp
            exact ⟨rfl, rfl⟩
          · intro gg w' hw hk
            have q0 : w'.cell? ⟨b7, 2, none⟩ = some (.int .i64 mr) := ((HA.out w' hw).2.2).at' 2
            go_simp
            exact ⟨rfl, rfl⟩
          · intro gg w' hw hk
            go_simp
            exact ⟨rfl, rfl⟩
          · intro gg w' hw hk
            have q0 : w'.cell? ⟨b7, 0, none⟩ = some (.int .i64 ml) := ((HA.out w' hw).2.2).at' 0
            go_simp
            exact ⟨rfl, rfl⟩
          · intro gg w' hw hk
            have q := HLR.out
            go_simp
            exact ⟨rfl, rfl⟩
          · intro gg w' hw hk
            have q := HC.out
            go_simp
            exact ⟨rfl, rfl⟩
          · intro gg w' hw hk
            go_simp
            exact ⟨rfl, rfl⟩
        intro gg w8 k8 hgg
        clear hgg
        simp only [Hold.fill, Hold.Leave.value]
        have S7 := Lib.hid (⟨thru S6.out.1 k8, S6.out.2.2.1.below (by simp) k8, S6.out.2.2.2.1.below (by simp) k8⟩ : Below w.heap.size w w8 ∧ RowAt w8 b2 (mrow none 0 0 none 0 0 zeroM) ∧ RowAt w8 b3 (frow zeroF))
        have S8 := Lib.hid (⟨S6.out.2.2.2.2.2.1.below (by simp) k8, S6.out.2.2.2.2.1.below (by simp) k8⟩ : RowAt w8 b6 (mrow A3 (n + 1) c3 A2 n2 c2 m') ∧ RowAt w8 b5 (frow r))
        have M9 := Lib.hid (⟨S6.out.2.2.2.2.2.2.1.below k8, trivial⟩ : MineE encF 56 w8 w.heap.size A3 (n + 1) c3 (m.fs ++ [r]) ∧ True)
        clear k8 HA HWi HLR HFu
        go_simp
        go_upto_region 12 with fail
        have HA := Lib.hid (fun st w' G (h : twoK w8 b2 b3 (mrow none 0 0 none 0 0 zeroM) (mrow A3 (n + 1) c3 A2 n2 c2 m') (frow zeroF) (frow r) st w' G) => show RowAt w' b6 (mrow A3 (n + 1) c3 A2 n2 c2 m') ∧ RowAt w' b5 (frow r) from
          ⟨S8.out.1.but (by simp) h.2.1 (fun e => e.elim (fun q => HL5.out.2.2.1 q.symm) (fun q => HL5.out.2.2.2 q.symm)), S8.out.2.but (by simp) h.2.1 (fun e => e.elim HL5.out.1 HL5.out.2.1)⟩)
        have K0 := Lib.hid (twoK_start (W := w8) (b4 := b2) (b5 := b3) (x0 := (mrow none 0 0 none 0 0 zeroM)) (x1 := (mrow A3 (n + 1) c3 A2 n2 c2 m')) (y0 := frow zeroF) (y1 := (frow r)) S7.out.2.1 S7.out.2.2 (by simp))
        refine Draw.wp_region_drawn (twoK w8 b2 b3 (mrow none 0 0 none 0 0 zeroM) (mrow A3 (n + 1) c3 A2 n2 c2 m') (frow zeroF) (frow r)) 2 [.val (.agg #[.slice A3 (n + 1) c3, .int .i64 m'.f, .int .i64 m'.t, .int .i64 m'.y, .int .i64 m'.top, .slice A2 n2 c2]), .val (.agg #[.int .i64 r.l, .int .i64 r.t, .int .i64 r.r, .int .i64 r.b]), .turn 0 (undef), .turn 1 (undef), .val (.bool true)] (by kernel_rfl) (by kernel_rfl) (by kernel_rfl) (twoK_kept w8 b2 b3 (mrow none 0 0 none 0 0 zeroM) (mrow A3 (n + 1) c3 A2 n2 c2 m') (frow zeroF) (frow r) (by simp)) K0.out ?_ ?_
        · simp only [Draw.fill, Draw.Leave.value]
          refine ⟨?_, ?_, ?_, ?_, ?_, trivial⟩
          · intro st gg w' G hw hk
            have q0 : w'.cell? ⟨b6, 0, none⟩ = some (.slice A3 (n + 1) c3) := ((HA.out st w' G hw).1).at' 0
            have q1 : w'.cell? ⟨b6, 1, none⟩ = some (.int .i64 m'.f) := ((HA.out st w' G hw).1).at' 1
            have q2 : w'.cell? ⟨b6, 2, none⟩ = some (.int .i64 m'.t) := ((HA.out st w' G hw).1).at' 2
            have q3 : w'.cell? ⟨b6, 3, none⟩ = some (.int .i64 m'.y) := ((HA.out st w' G hw).1).at' 3
            have q4 : w'.cell? ⟨b6, 4, none⟩ = some (.int .i64 m'.top) := ((HA.out st w' G hw).1).at' 4
            have q5 : w'.cell? ⟨b6, 5, none⟩ = some (.slice A2 n2 c2) := ((HA.out st w' G hw).1).at' 5
            go_simp
            exact ⟨rfl, rfl⟩
          · intro st gg w' G hw hk
            have q0 : w'.cell? ⟨b5, 0, none⟩ = some (.int .i64 r.l) := ((HA.out st w' G hw).2).at' 0
            have q1 : w'.cell? ⟨b5, 1, none⟩ = some (.int .i64 r.t) := ((HA.out st w' G hw).2).at' 1
            have q2 : w'.cell? ⟨b5, 2, none⟩ = some (.int .i64 r.r) := ((HA.out st w' G hw).2).at' 2
            have q3 : w'.cell? ⟨b5, 3, none⟩ = some (.int .i64 r.b) := ((HA.out st w' G hw).2).at' 3
            go_simp
            exact ⟨rfl, rfl⟩
          · intro gg w' G hw hk
            have z : RowAt w' b2 (mrow none 0 0 none 0 0 zeroM) := hw.2.2.1
            have q0 : w'.cell? ⟨b2, 0, none⟩ = some (.slice none 0 0) := z.at' 0
            have q1 : w'.cell? ⟨b2, 1, none⟩ = some (.int .i64 0) := z.at' 1
            have q2 : w'.cell? ⟨b2, 2, none⟩ = some (.int .i64 0) := z.at' 2
            have q3 : w'.cell? ⟨b2, 3, none⟩ = some (.int .i64 0) := z.at' 3
            have q4 : w'.cell? ⟨b2, 4, none⟩ = some (.int .i64 0) := z.at' 4
            have q5 : w'.cell? ⟨b2, 5, none⟩ = some (.slice none 0 0) := z.at' 5
            have f0 : w'.frozen? ⟨b2, 0, none⟩ = false := z.frz 0
            have f1 : w'.frozen? ⟨b2, 1, none⟩ = false := z.frz 1
            have f2 : w'.frozen? ⟨b2, 2, none⟩ = false := z.frz 2
            have f3 : w'.frozen? ⟨b2, 3, none⟩ = false := z.frz 3
            have f4 : w'.frozen? ⟨b2, 4, none⟩ = false := z.frz 4
            have f5 : w'.frozen? ⟨b2, 5, none⟩ = false := z.frz 5
            have u := twoK_first hw HL.out.2.2.1 (row_six z (.slice A3 (n + 1) c3) (.int .i64 m'.f) (.int .i64 m'.t) (.int .i64 m'.y) (.int .i64 m'.top) (.slice A2 n2 c2)).2 (row_six z (.slice A3 (n + 1) c3) (.int .i64 m'.f) (.int .i64 m'.t) (.int .i64 m'.y) (.int .i64 m'.top) (.slice A2 n2 c2)).1
            clear z
            go_simp
            exact ⟨rfl, u⟩
          · intro gg w' G hw hk
            have z : RowAt w' b3 (frow zeroF) := hw.2.2.2.1
            have q0 : w'.cell? ⟨b3, 0, none⟩ = some (.int .i64 0) := z.at' 0
            have q1 : w'.cell? ⟨b3, 1, none⟩ = some (.int .i64 0) := z.at' 1
            have q2 : w'.cell? ⟨b3, 2, none⟩ = some (.int .i64 0) := z.at' 2
            have q3 : w'.cell? ⟨b3, 3, none⟩ = some (.int .i64 0) := z.at' 3
            have f0 : w'.frozen? ⟨b3, 0, none⟩ = false := z.frz 0
            have f1 : w'.frozen? ⟨b3, 1, none⟩ = false := z.frz 1
            have f2 : w'.frozen? ⟨b3, 2, none⟩ = false := z.frz 2
            have f3 : w'.frozen? ⟨b3, 3, none⟩ = false := z.frz 3
            have u := twoK_second hw HL.out.2.2.1 (row_four z (.int .i64 r.l) (.int .i64 r.t) (.int .i64 r.r) (.int .i64 r.b)).2 (row_four z (.int .i64 r.l) (.int .i64 r.t) (.int .i64 r.r) (.int .i64 r.b)).1
            clear z
            go_simp
            exact ⟨rfl, u⟩
          · intro st gg w' G hw hk
            go_simp
            exact ⟨rfl, rfl⟩
        intro gg w9 G9 hkw hbox hput hap
        have k9 : Below w.heap.size w w9 := S7.out.1.trans (hkw.2.1.below S7.out.1.size (fun k e => by have := HL.out; rcases e with e | e <;> omega))
        have z9 : RowAt w9 b2 (mrow A3 (n + 1) c3 A2 n2 c2 m') := hkw.2.2.1
        have y9 : RowAt w9 b3 (frow r) := hkw.2.2.2.1
        have z0 : w9.cell? ⟨b2, 0, none⟩ = some (.slice A3 (n + 1) c3) := z9.at' 0
        have z1 : w9.cell? ⟨b2, 1, none⟩ = some (.int .i64 m'.f) := z9.at' 1
        have z2 : w9.cell? ⟨b2, 2, none⟩ = some (.int .i64 m'.t) := z9.at' 2
        have z3 : w9.cell? ⟨b2, 3, none⟩ = some (.int .i64 m'.y) := z9.at' 3
        have z4 : w9.cell? ⟨b2, 4, none⟩ = some (.int .i64 m'.top) := z9.at' 4
        have z5 : w9.cell? ⟨b2, 5, none⟩ = some (.slice A2 n2 c2) := z9.at' 5
        have y0 : w9.cell? ⟨b3, 0, none⟩ = some (.int .i64 r.l) := y9.at' 0
        have y1 : w9.cell? ⟨b3, 1, none⟩ = some (.int .i64 r.t) := y9.at' 1
        have y2 : w9.cell? ⟨b3, 2, none⟩ = some (.int .i64 r.r) := y9.at' 2
        have y3 : w9.cell? ⟨b3, 3, none⟩ = some (.int .i64 r.b) := y9.at' 3
        have HK9 := Lib.hid (⟨k9, hkw.2.1⟩ : Below w.heap.size w w9 ∧ But (fun k => k = b2 ∨ k = b3) w8 w9)
        clear hkw hbox hput hap K0 HA k9 z9 y9
        simp only [Draw.fill, Draw.Leave.value]
        go_simp
        go_wp2_with fail
        exact bodyPost_ret (v := .tuple #[.agg #[.slice A3 (n + 1) c3, .int .i64 m'.f, .int .i64 m'.t, .int .i64 m'.y, .int .i64 m'.top, .slice A2 n2 c2], Fl.box r, .bool true]) (by simp [results, Tryz.results23, go_sem, z0, z1, z2, z3, z4, z5, y0, y1, y2, y3]) rfl ⟨show FloatOut A n c A2 n2 c2 m x w w9 _ by unfold FloatOut; rw [HBF.out false (by simp)]; exact ⟨A3, c3, rfl, mineE_but M9.out.1 HK9.out.2 (fun j e g => g.elim (fun q => HA3.out.1 (by rw [e, q])) (fun q => HA3.out.2 (by rw [e, q])))⟩, HK9.out.1⟩
  · have hb : (r.t != m.top) = true := by simp [htt]
    have HT := Lib.hid htt
    have S7 := Lib.hid (⟨S3.out.1, S3.out.2.2.2.1, S3.out.2.2.2.2.1⟩ : Below w.heap.size w W7 ∧ RowAt W7 b2 (mrow none 0 0 none 0 0 zeroM) ∧ RowAt W7 b3 (frow zeroF))
    have S8 := Lib.hid (⟨S3.out.2.1, S3.out.2.2.2.2.2.1⟩ : RowAt W7 b0 (mrow A n c A2 n2 c2 m) ∧ RowAt W7 b4 (frow zeroF))
    clear htt S3
    go_upto_region 6 with fail
    clear c4 r1 hb
    have HA := Lib.hid (fun st w' G (h : twoK W7 b2 b3 (mrow none 0 0 none 0 0 zeroM) (mrow A n c A2 n2 c2 m) (frow zeroF) (frow zeroF) st w' G) => show RowAt w' b0 (mrow A n c A2 n2 c2 m) ∧ RowAt w' b4 (frow zeroF) from
      ⟨S8.out.1.but (by simp) h.2.1 (fun e => e.elim HL.out.2.2.2.1 HL.out.2.2.2.2), S8.out.2.but (by simp) h.2.1 (fun e => e.elim HX.out.1 HX.out.2)⟩)
    have K0 := Lib.hid (twoK_start (W := W7) (b4 := b2) (b5 := b3) (x0 := (mrow none 0 0 none 0 0 zeroM)) (x1 := (mrow A n c A2 n2 c2 m)) (y0 := frow zeroF) (y1 := (frow zeroF)) S7.out.2.1 S7.out.2.2 (by simp))
    refine Draw.wp_region_drawn (twoK W7 b2 b3 (mrow none 0 0 none 0 0 zeroM) (mrow A n c A2 n2 c2 m) (frow zeroF) (frow zeroF)) 2 [.val (.agg #[.slice A n c, .int .i64 m.f, .int .i64 m.t, .int .i64 m.y, .int .i64 m.top, .slice A2 n2 c2]), .val (.agg #[.int .i64 zeroF.l, .int .i64 zeroF.t, .int .i64 zeroF.r, .int .i64 zeroF.b]), .turn 0 (undef), .turn 1 (undef), .val (.bool false)] (by kernel_rfl) (by kernel_rfl) (by kernel_rfl) (twoK_kept W7 b2 b3 (mrow none 0 0 none 0 0 zeroM) (mrow A n c A2 n2 c2 m) (frow zeroF) (frow zeroF) (by simp)) K0.out ?_ ?_
    · simp only [Draw.fill, Draw.Leave.value]
      refine ⟨?_, ?_, ?_, ?_, ?_, trivial⟩
      · intro st gg w' G hw hk
        have q0 : w'.cell? ⟨b0, 0, none⟩ = some (.slice A n c) := ((HA.out st w' G hw).1).at' 0
        have q1 : w'.cell? ⟨b0, 1, none⟩ = some (.int .i64 m.f) := ((HA.out st w' G hw).1).at' 1
        have q2 : w'.cell? ⟨b0, 2, none⟩ = some (.int .i64 m.t) := ((HA.out st w' G hw).1).at' 2
        have q3 : w'.cell? ⟨b0, 3, none⟩ = some (.int .i64 m.y) := ((HA.out st w' G hw).1).at' 3
        have q4 : w'.cell? ⟨b0, 4, none⟩ = some (.int .i64 m.top) := ((HA.out st w' G hw).1).at' 4
        have q5 : w'.cell? ⟨b0, 5, none⟩ = some (.slice A2 n2 c2) := ((HA.out st w' G hw).1).at' 5
        go_simp
        exact ⟨rfl, rfl⟩
      · intro st gg w' G hw hk
        have q0 : w'.cell? ⟨b4, 0, none⟩ = some (.int .i64 zeroF.l) := ((HA.out st w' G hw).2).at' 0
        have q1 : w'.cell? ⟨b4, 1, none⟩ = some (.int .i64 zeroF.t) := ((HA.out st w' G hw).2).at' 1
        have q2 : w'.cell? ⟨b4, 2, none⟩ = some (.int .i64 zeroF.r) := ((HA.out st w' G hw).2).at' 2
        have q3 : w'.cell? ⟨b4, 3, none⟩ = some (.int .i64 zeroF.b) := ((HA.out st w' G hw).2).at' 3
        go_simp
        exact ⟨rfl, rfl⟩
      · intro gg w' G hw hk
        have z : RowAt w' b2 (mrow none 0 0 none 0 0 zeroM) := hw.2.2.1
        have q0 : w'.cell? ⟨b2, 0, none⟩ = some (.slice none 0 0) := z.at' 0
        have q1 : w'.cell? ⟨b2, 1, none⟩ = some (.int .i64 0) := z.at' 1
        have q2 : w'.cell? ⟨b2, 2, none⟩ = some (.int .i64 0) := z.at' 2
        have q3 : w'.cell? ⟨b2, 3, none⟩ = some (.int .i64 0) := z.at' 3
        have q4 : w'.cell? ⟨b2, 4, none⟩ = some (.int .i64 0) := z.at' 4
        have q5 : w'.cell? ⟨b2, 5, none⟩ = some (.slice none 0 0) := z.at' 5
        have f0 : w'.frozen? ⟨b2, 0, none⟩ = false := z.frz 0
        have f1 : w'.frozen? ⟨b2, 1, none⟩ = false := z.frz 1
        have f2 : w'.frozen? ⟨b2, 2, none⟩ = false := z.frz 2
        have f3 : w'.frozen? ⟨b2, 3, none⟩ = false := z.frz 3
        have f4 : w'.frozen? ⟨b2, 4, none⟩ = false := z.frz 4
        have f5 : w'.frozen? ⟨b2, 5, none⟩ = false := z.frz 5
        have u := twoK_first hw HL.out.2.2.1 (row_six z (.slice A n c) (.int .i64 m.f) (.int .i64 m.t) (.int .i64 m.y) (.int .i64 m.top) (.slice A2 n2 c2)).2 (row_six z (.slice A n c) (.int .i64 m.f) (.int .i64 m.t) (.int .i64 m.y) (.int .i64 m.top) (.slice A2 n2 c2)).1
        clear z
        go_simp
        exact ⟨rfl, u⟩
      · intro gg w' G hw hk
        have z : RowAt w' b3 (frow zeroF) := hw.2.2.2.1
        have q0 : w'.cell? ⟨b3, 0, none⟩ = some (.int .i64 0) := z.at' 0
        have q1 : w'.cell? ⟨b3, 1, none⟩ = some (.int .i64 0) := z.at' 1
        have q2 : w'.cell? ⟨b3, 2, none⟩ = some (.int .i64 0) := z.at' 2
        have q3 : w'.cell? ⟨b3, 3, none⟩ = some (.int .i64 0) := z.at' 3
        have f0 : w'.frozen? ⟨b3, 0, none⟩ = false := z.frz 0
        have f1 : w'.frozen? ⟨b3, 1, none⟩ = false := z.frz 1
        have f2 : w'.frozen? ⟨b3, 2, none⟩ = false := z.frz 2
        have f3 : w'.frozen? ⟨b3, 3, none⟩ = false := z.frz 3
        have u := twoK_second hw HL.out.2.2.1 (row_four z (.int .i64 zeroF.l) (.int .i64 zeroF.t) (.int .i64 zeroF.r) (.int .i64 zeroF.b)).2 (row_four z (.int .i64 zeroF.l) (.int .i64 zeroF.t) (.int .i64 zeroF.r) (.int .i64 zeroF.b)).1
        clear z
        go_simp
        exact ⟨rfl, u⟩
      · intro st gg w' G hw hk
        go_simp
        exact ⟨rfl, rfl⟩
    intro gg w9 G9 hkw hbox hput hap
    have k9 : Below w.heap.size w w9 := S7.out.1.trans (hkw.2.1.below S7.out.1.size (fun k e => by have := HL.out; rcases e with e | e <;> omega))
    have z9 : RowAt w9 b2 (mrow A n c A2 n2 c2 m) := hkw.2.2.1
    have y9 : RowAt w9 b3 (frow zeroF) := hkw.2.2.2.1
    have z0 : w9.cell? ⟨b2, 0, none⟩ = some (.slice A n c) := z9.at' 0
    have z1 : w9.cell? ⟨b2, 1, none⟩ = some (.int .i64 m.f) := z9.at' 1
    have z2 : w9.cell? ⟨b2, 2, none⟩ = some (.int .i64 m.t) := z9.at' 2
    have z3 : w9.cell? ⟨b2, 3, none⟩ = some (.int .i64 m.y) := z9.at' 3
    have z4 : w9.cell? ⟨b2, 4, none⟩ = some (.int .i64 m.top) := z9.at' 4
    have z5 : w9.cell? ⟨b2, 5, none⟩ = some (.slice A2 n2 c2) := z9.at' 5
    have y0 : w9.cell? ⟨b3, 0, none⟩ = some (.int .i64 zeroF.l) := y9.at' 0
    have y1 : w9.cell? ⟨b3, 1, none⟩ = some (.int .i64 zeroF.t) := y9.at' 1
    have y2 : w9.cell? ⟨b3, 2, none⟩ = some (.int .i64 zeroF.r) := y9.at' 2
    have y3 : w9.cell? ⟨b3, 3, none⟩ = some (.int .i64 zeroF.b) := y9.at' 3
    have HK9 := Lib.hid (⟨k9, hkw.2.1⟩ : Below w.heap.size w w9 ∧ But (fun k => k = b2 ∨ k = b3) W7 w9)
    clear hkw hbox hput hap K0 HA k9 z9 y9
    simp only [Draw.fill, Draw.Leave.value]
    go_simp
    go_wp2_with fail
    exact bodyPost_ret (v := .tuple #[.agg #[.slice A n c, .int .i64 m.f, .int .i64 m.t, .int .i64 m.y, .int .i64 m.top, .slice A2 n2 c2], Fl.box zeroF, .bool false]) (by simp [results, Tryz.results23, go_sem, z0, z1, z2, z3, z4, z5, y0, y1, y2, y3]) rfl ⟨show FloatOut A n c A2 n2 c2 m x w w9 _ by unfold FloatOut; rw [beside_high HB.out.2.1 (by rw [HB.out.2.2.2.1]; exact HT.out)], HK9.out.1⟩

end Go.Proofs.YtdibdfalahjmbaaGreat.Text
