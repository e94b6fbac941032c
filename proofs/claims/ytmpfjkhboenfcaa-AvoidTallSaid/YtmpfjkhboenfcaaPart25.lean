/- Texts of this proof that follow each other, in one file. -/
import Derived.Test.YtmpfjkhboenfcaaPart14
import Derived.Test.YtmpfjkhboenfcaaPart6
import Derived.Test.YtmpfjkhboenfcaaPart24
import Derived.Test.YtmpfjkhboenfcaaPart13
/-! What is asked of the program's placing, whatever it looks like; the law's example. -/
namespace Go.Proofs.Ytmpfjkhboenfcaa.Place
open Go.RowKit Go.Sort Go.Proofs.Ytmpfjkhboenfcaa.Rect Go.Proofs.Ytmpfjkhboenfcaa.More Go.Proofs.Ytmpfjkhboenfcaa.Shelf Go.Proofs.Ytmpfjkhboenfcaa.Space
set_option linter.unusedVariables false
set_option linter.unusedSimpArgs false

/-- A float as a rectangle. -/
abbrev Fl.box (f : Fl) : Value := .agg #[.int .i64 f.l, .int .i64 f.t, .int .i64 f.r, .int .i64 f.b]

/-- The contracts of the program's placing. -/
structure PlaceOk (S : World → (Nat → Prop) → Addr → List Fl → Prop) : Prop where

theorem eqR4_same (a b c d : Int) (w : World) : (Op.equalIn 10000 38 (.agg #[.int .i64 a, .int .i64 b, .int .i64 c, .int .i64 d]) (.agg #[.int .i64 a, .int .i64 b, .int .i64 c, .int .i64 d])).run Try.prog w = .ok true w := by
  have u3 := Try.underlying3
  have a3 := Try.isAgg3
  have z3 := Try.sizeOf3
  have hS : Try.prog.underlying 38 = some (.struct (Try.prog.fieldsOf 38)) := by kernel_rfl
  rw [show (10000 : Nat) = 9999 + 1 from rfl, run_equalIn_agg w 9999 38 _ _ hS (by kernel_rfl)]
  simp only [Program.fieldsOf, Try.underlying38]
  go_simp

/-- The example's want. -/
def exW : Wt := ⟨1, 0, 0, 10, 3, 2, 0⟩
theorem exW_right : RightW exW := rightW_iff.1 (by decide)
theorem exW_one : placed [] exW = ⟨1, 0, 0, 3, 2⟩ := by
  have h1 : findY [] exW = 0 := by decide
  have h2 : findX [] exW = 0 := by decide
  unfold placed
  rw [h1, h2]
  rfl
theorem exW_two : placed [⟨1, 0, 0, 3, 2⟩] exW = ⟨1, 3, 0, 6, 2⟩ := by
  have h1 : findY [⟨1, 0, 0, 3, 2⟩] exW = 0 := by decide
  have h2 : findX [⟨1, 0, 0, 3, 2⟩] exW = 3 := by decide
  unfold placed
  rw [h1, h2]
  rfl

section
variable {S : World → (Nat → Prop) → Addr → List Fl → Prop}

/-- A space that is put into by stages, beside blocks L that stay as they were, and blocks G that are one's own. -/
def spaceK (S : World → (Nat → Prop) → Addr → List Fl → Prop) (w0 W : World) (p : Addr) (L : Nat → Prop) (fss : Nat → List Fl) : Nat → World → (Nat → Prop) → Prop := fun s w G =>
  Below w0.heap.size w0 w ∧ W.heap.size ≤ w.heap.size ∧ (∀ k, L k → w.heap[k]? = W.heap[k]?) ∧ ∃ F, S w F p (fss s) ∧ (∀ k, F k → w0.heap.size ≤ k) ∧ (∀ k, L k → ¬ F k) ∧ ∀ k, G k → ¬ F k ∧ ¬ L k ∧ w0.heap.size ≤ k ∧ k < w.heap.size

theorem spaceK_kept (hO : SpaceOk S) {w0 W : World} {p : Addr} {L : Nat → Prop} {fss : Nat → List Fl} (hL : ∀ k, L k → k < W.heap.size) : Draw.Kept (spaceK S w0 W p L fss) where
  below := fun s w w' G G' ⟨h1, h2, h3, F, h4, h5, h6, h7⟩ k hG => ⟨thru h1 k, Nat.le_trans h2 k.size, fun j hj => (k.block j (Nat.lt_of_lt_of_le (hL j hj) h2)).trans (h3 j hj), F, thruS hO h4 k, h5, h6, fun j hj => by
    have hs := h1.size
    have hk := k.size
    rcases hG j hj with e | ⟨e1, e2⟩
    · obtain ⟨q1, q2, q3, q4⟩ := h7 j e
      exact ⟨q1, q2, q3, by omega⟩
    · exact ⟨fun q => by have := hO.lt _ _ _ _ h4 j q; omega, fun q => by have := hL j q; omega, by omega, e2⟩⟩
  only := fun s w w' b G ⟨h1, h2, h3, F, h4, h5, h6, h7⟩ hb ho => by
    obtain ⟨q1, q2, q3, q4⟩ := h7 b hb
    refine ⟨ho.below h1 q3, by rw [ho.size]; exact h2, fun j hj => (ho.block j (fun e => q2 (by rw [← e]; exact hj))).trans (h3 j hj), F, hO.keep _ _ _ (fun j => j = b) _ _ h4 ⟨ho.os, ho.tape, ho.output, by rw [ho.size]; exact Nat.le_refl _, fun j hj hn => ho.block j hn⟩ (fun j hj e => q1 (by rw [← e]; exact hj)), h5, h6, fun j hj => by rw [ho.size]; exact h7 j hj⟩
  less := fun s w G G' ⟨h1, h2, h3, F, h4, h5, h6, h7⟩ hG => ⟨h1, h2, h3, F, h4, h5, h6, fun j hj => h7 j (hG j hj)⟩

theorem spaceK_start (hO : SpaceOk S) {w0 W : World} {p : Addr} {L : Nat → Prop} {fss : Nat → List Fl} {F : Nat → Prop} (h : S W F p (fss 0)) (hB : Below w0.heap.size w0 W) (hF : ∀ k, F k → w0.heap.size ≤ k) (hLF : ∀ k, L k → ¬ F k) :
    spaceK S w0 W p L fss 0 { W with drawn := W.drawn + 1 } (fun _ => False) := by
  have hk : Below W.heap.size W { W with drawn := W.drawn + 1 } := ⟨rfl, rfl, rfl, Nat.le_refl _, fun _ _ => rfl⟩
  exact ⟨thru hB hk, Nat.le_refl _, fun _ _ => rfl, F, thruS hO h hk, hF, hLF, fun _ q => q.elim⟩

theorem atW_block {w w' : World} {b : Nat} {x : Wt} (h : AtW w b x) (k : w'.heap[b]? = w.heap[b]?) : AtW w' b x := by
  have e : ∀ o, w'.cell? ⟨b, o, none⟩ = w.cell? ⟨b, o, none⟩ := fun o => World.cell?_of_block (a := ⟨b, o, none⟩) k
  unfold AtW at *
  simp only [e]
  exact h

/-- A store of four numbers into a block of four. -/
theorem only_put4 {w : World} {g : Nat} (T : TypeId) (x0 x1 x2 x3 y0 y1 y2 y3 : Int) (h : w.heap[g]? = some (.cells #[.int .i64 x0, .int .i64 x1, .int .i64 x2, .int .i64 x3] T)) :
    ((((w.setCell ⟨g, 0, none⟩ (.int .i64 y0)).setCell ⟨g, 1, none⟩ (.int .i64 y1)).setCell ⟨g, 2, none⟩ (.int .i64 y2)).setCell ⟨g, 3, none⟩ (.int .i64 y3)).heap[g]? = some (.cells #[.int .i64 y0, .int .i64 y1, .int .i64 y2, .int .i64 y3] T) ∧
    Draw.Only g w ((((w.setCell ⟨g, 0, none⟩ (.int .i64 y0)).setCell ⟨g, 1, none⟩ (.int .i64 y1)).setCell ⟨g, 2, none⟩ (.int .i64 y2)).setCell ⟨g, 3, none⟩ (.int .i64 y3)) :=
  ⟨set4 h y0 y1 y2 y3, (((Draw.Only.set g _ 0 _).trans (Draw.Only.set g _ 1 _)).trans (Draw.Only.set g _ 2 _)).trans (Draw.Only.set g _ 3 _)⟩

def exS : Nat → List Fl
  | 0 => []
  | 1 => [⟨1, 0, 0, 3, 2⟩]
  | _ => [⟨1, 0, 0, 3, 2⟩, ⟨1, 3, 0, 6, 2⟩]

end

end Go.Proofs.Ytmpfjkhboenfcaa.Place

/-! What is asked of the program's search, whatever it looks like; wants that lie in blocks of their own; the law's example. -/
namespace Go.Proofs.Ytmpfjkhboenfcaa.Avoid
open Go.RowKit Go.Sort Go.Proofs.Ytmpfjkhboenfcaa.Rect Go.Proofs.Ytmpfjkhboenfcaa.More Go.Proofs.Ytmpfjkhboenfcaa.Shelf Go.Proofs.Ytmpfjkhboenfcaa.Space Go.Proofs.Ytmpfjkhboenfcaa.Place
set_option linter.unusedVariables false
set_option linter.unusedSimpArgs false

/-- Where a box stands, as a rectangle. -/
abbrev boxV (fs : List Fl) (x : Vt) : Value := .agg #[.int .i64 (findVX fs x), .int .i64 (findVY fs x), .int .i64 (findVX fs x + x.wd), .int .i64 (findVY fs x + x.ht)]

/-- The contracts of the program's search. -/
structure AvoidOk (S : World → (Nat → Prop) → Addr → List Fl → Prop) : Prop where
  at' : ∀ w F p fs x y, S w F p fs → fs.all near49 = true → RightV x → -1125899906842624 ≤ y ∧ y ≤ 1125899906842624 → Calls Try.prog 12 #[.pointer (some p), x.v, .int .i64 y] w fun r w' => r = .returned (.tuple #[.int .i64 (atV fs x y), .bool (okV fs x y)]) ∧ Below w.heap.size w w'
  find : ∀ w F p fs x, S w F p fs → fs.all near49 = true → RightV x → Calls Try.prog 15 #[.pointer (some p), x.v] w fun r w' => r = .returned (boxV fs x) ∧ Below w.heap.size w w'

abbrev vcells (x : Vt) : Array Value := #[.int .i64 x.f, .int .i64 x.t, .int .i64 x.wd, .int .i64 x.ht, .int .i64 x.y]
abbrev zeroV : Vt := ⟨0, 0, 0, 0, 0⟩

/-- A block that is a want. -/
def Wv (T : TypeId) (w : World) (b : Nat) (x : Vt) : Prop := w.heap[b]? = some (.cells (vcells x) T)

theorem Wv.at' {T : TypeId} {w : World} {b : Nat} {x : Vt} (h : Wv T w b x) : AtV w b x := by
  have h' : w.heap[b]? = some (.cells (vcells x) T) := h
  refine ⟨?_, ?_, ?_, ?_, ?_⟩ <;> simp [World.cell?, h']
theorem Wv.below {T : TypeId} {w w' : World} {b : Nat} {x : Vt} (h : Wv T w b x) (k : Below w.heap.size w w') : Wv T w' b x := (k.block b (lt_of_block h)).trans h
theorem Wv.lt {T : TypeId} {w : World} {b : Nat} {x : Vt} (h : Wv T w b x) : b < w.heap.size := lt_of_block h
theorem Wv.free {T : TypeId} {w : World} {b : Nat} {x : Vt} (h : Wv T w b x) : w.frozen? ⟨b, 0, none⟩ = false ∧ w.frozen? ⟨b, 1, none⟩ = false ∧ w.frozen? ⟨b, 2, none⟩ = false ∧ w.frozen? ⟨b, 3, none⟩ = false ∧ w.frozen? ⟨b, 4, none⟩ = false := by
  have h' : w.heap[b]? = some (.cells (vcells x) T) := h
  refine ⟨?_, ?_, ?_, ?_, ?_⟩ <;> simp [World.frozen?, h']
theorem Wv.other {T : TypeId} {w : World} {b b' o : Nat} {x : Vt} {v : Value} (h : Wv T w b x) (hne : b ≠ b') : Wv T (w.setCell ⟨b', o, none⟩ v) b x := (Below.heap_setCell _ _ _ _ hne).trans h

theorem Wv.set0 {T : TypeId} {w : World} {b : Nat} {x : Vt} (h : Wv T w b x) (v : Int) : Wv T (w.setCell ⟨b, 0, none⟩ (.int .i64 v)) b { x with f := v } := by
  have h' : w.heap[b]? = some (.cells (vcells x) T) := h
  unfold Wv
  simp [World.setCell, Array.getElem?_modify, h']
theorem Wv.set1 {T : TypeId} {w : World} {b : Nat} {x : Vt} (h : Wv T w b x) (v : Int) : Wv T (w.setCell ⟨b, 1, none⟩ (.int .i64 v)) b { x with t := v } := by
  have h' : w.heap[b]? = some (.cells (vcells x) T) := h
  unfold Wv
  simp [World.setCell, Array.getElem?_modify, h']
theorem Wv.set2 {T : TypeId} {w : World} {b : Nat} {x : Vt} (h : Wv T w b x) (v : Int) : Wv T (w.setCell ⟨b, 2, none⟩ (.int .i64 v)) b { x with wd := v } := by
  have h' : w.heap[b]? = some (.cells (vcells x) T) := h
  unfold Wv
  simp [World.setCell, Array.getElem?_modify, h']
theorem Wv.set3 {T : TypeId} {w : World} {b : Nat} {x : Vt} (h : Wv T w b x) (v : Int) : Wv T (w.setCell ⟨b, 3, none⟩ (.int .i64 v)) b { x with ht := v } := by
  have h' : w.heap[b]? = some (.cells (vcells x) T) := h
  unfold Wv
  simp [World.setCell, Array.getElem?_modify, h']
theorem Wv.set4 {T : TypeId} {w : World} {b : Nat} {x : Vt} (h : Wv T w b x) (v : Int) : Wv T (w.setCell ⟨b, 4, none⟩ (.int .i64 v)) b { x with y := v } := by
  have h' : w.heap[b]? = some (.cells (vcells x) T) := h
  unfold Wv
  simp [World.setCell, Array.getElem?_modify, h']

abbrev putV (w : World) (g : Nat) (x : Vt) : World :=
  (((((w.setCell ⟨g, 0, none⟩ (.int .i64 x.f)).setCell ⟨g, 1, none⟩ (.int .i64 x.t)).setCell ⟨g, 2, none⟩ (.int .i64 x.wd)).setCell ⟨g, 3, none⟩ (.int .i64 x.ht)).setCell ⟨g, 4, none⟩ (.int .i64 x.y))

theorem only_putV {T : TypeId} {w : World} {g : Nat} (z x : Vt) (h : w.heap[g]? = some (.cells (vcells z) T)) : (putV w g x).heap[g]? = some (.cells (vcells x) T) ∧ Draw.Only g w (putV w g x) := by
  refine ⟨?_, ((((Draw.Only.set g _ 0 _).trans (Draw.Only.set g _ 1 _)).trans (Draw.Only.set g _ 2 _)).trans (Draw.Only.set g _ 3 _)).trans (Draw.Only.set g _ 4 _)⟩
  have h0 : Wv T w g z := h
  exact ((((h0.set0 x.f).set1 x.t).set2 x.wd).set3 x.ht).set4 x.y

/-- The example's wants. -/
def exV : Vt := ⟨0, 10, 7, 1, 0⟩
def exV8 : Vt := ⟨0, 10, 8, 1, 0⟩
abbrev exFs : List Fl := [⟨1, 0, 0, 3, 2⟩]
theorem exV_right : RightV exV := rightV_iff.1 (by decide)
theorem exV8_right : RightV exV8 := rightV_iff.1 (by decide)
theorem exV_box : boxV exFs exV = .agg #[.int .i64 3, .int .i64 0, .int .i64 10, .int .i64 1] := by
  have h1 : findVY exFs exV = 0 := by decide
  have h2 : findVX exFs exV = 3 := by decide
  unfold boxV
  rw [h1, h2]
  rfl
theorem exV8_box : boxV exFs exV8 = .agg #[.int .i64 0, .int .i64 2, .int .i64 8, .int .i64 3] := by
  have h1 : findVY exFs exV8 = 2 := by decide
  have h2 : findVX exFs exV8 = 0 := by decide
  unfold boxV
  rw [h1, h2]
  rfl

section
variable {S : World → (Nat → Prop) → Addr → List Fl → Prop}

set_option maxRecDepth 100000 in
set_option maxHeartbeats 1000000 in
theorem vspeaks (hO : SpaceOk S) (hP : AvoidOk S) (w : World) : Calls Try.prog 10 #[] w fun e w' => e = .returned (.bool true) ∧ Below w.heap.size w w' := by
  have HNew := Lib.hid (hO.new w)
  have HPut := Lib.hid (fun w1 F p (h : S w1 F p []) => hO.put w1 F p [] ⟨1, 0, 0, 3, 2⟩ h (by decide) (by decide) (by decide) (.inl rfl))
  have HF7 := Lib.hid (fun w1 F p (h : S w1 F p exFs) => hP.find w1 F p exFs exV h (by decide) exV_right)
  have HF8 := Lib.hid (fun w1 F p (h : S w1 F p exFs) => hP.find w1 F p exFs exV8 h (by decide) exV8_right)
  rw [exV_box] at HF7
  rw [exV8_box] at HF8
  go_enter Try.func10, Try.ntmps10
  go_upto_region 5 with (first
    | (go_at_call 20; refine HNew.out.mono ?_; rintro e w1 ⟨⟨p, F, rfl, hL, hF⟩, k1⟩; have HL := Lib.hid (⟨hL, hF, k1⟩ : S w1 F p [] ∧ (∀ k, F k → w.heap.size ≤ k) ∧ Below w.heap.size w w1); clear hL hF k1)
    | (go_at_call 23; refine (HPut.out _ _ _ HL.out.1).mono ?_; rintro e w2 ⟨⟨v, rfl⟩, ⟨F', h1, h2⟩, h3⟩; have S2 := Lib.hid (⟨h1, HL.out.2.2.trans (h3.below HL.out.2.2.size HL.out.2.1)⟩ : S w2 F' p exFs ∧ Below w.heap.size w w2); clear h1 h2 h3))
  go_upto_region 6 with fail
  generalize hW : World.alloc w2 _ = W
  obtain ⟨b1, hb⟩ : ∃ b1, w2.heap.size = b1 := ⟨_, rfl⟩
  have k3 : Below w2.heap.size w2 W := by rw [← hW]; exact ba1 _ _
  have a3 : Wv 34 W b1 exV := by rw [← hW, ← hb]; exact heap_alloc_new w2 _
  have g3 : w.heap.size ≤ b1 := by have := S2.out.2.size; omega
  have f3 : ¬ F' b1 := fun h => by have := hO.lt _ _ _ _ S2.out.1 b1 h; omega
  have S3 := Lib.hid (⟨thruS hO S2.out.1 k3, thru S2.out.2 k3, a3, g3, f3⟩ : S W F' p exFs ∧ Below w.heap.size w W ∧ Wv 34 W b1 exV ∧ w.heap.size ≤ b1 ∧ ¬ F' b1)
  rw [hb]
  clear hW hb k3 a3 g3 f3
  obtain ⟨c0, c1, c2, c3, c4⟩ := S3.out.2.2.1.at'
  go_upto_region 7 with (first
    | (go_at_call 15; refine (HF7.out _ _ _ S3.out.1).mono ?_; rintro e w4 ⟨rfl, k4⟩; have S4 := Lib.hid (⟨thruS hO S3.out.1 k4, thru S3.out.2.1 k4, S3.out.2.2.1.below k4⟩ : S w4 F' p exFs ∧ Below w.heap.size w w4 ∧ Wv 34 w4 b1 exV); clear k4))
  clear c0 c1 c2 c3 c4
  generalize hW5 : World.alloc w4 _ = W5
  obtain ⟨b2, hb2⟩ : ∃ b2, w4.heap.size = b2 := ⟨_, rfl⟩
  have k5 : Below w4.heap.size w4 W5 := by rw [← hW5]; exact ba1 _ _
  have r5 : R4 W5 b2 3 0 10 1 := by rw [← hW5, ← hb2]; exact R4.of_block (heap_alloc_new w4 _)
  have n5 : b2 ≠ b1 := by have := S4.out.2.2.lt; omega
  have S5 := Lib.hid (⟨thruS hO S4.out.1 k5, thru S4.out.2.1 k5, S4.out.2.2.below k5, r5, n5⟩ : S W5 F' p exFs ∧ Below w.heap.size w W5 ∧ Wv 34 W5 b1 exV ∧ R4 W5 b2 3 0 10 1 ∧ b2 ≠ b1)
  rw [hb2]
  clear hW5 hb2 k5 r5 n5
  obtain ⟨c0, c1, c2, c3, c4⟩ := S5.out.2.2.1.at'
  obtain ⟨q0, q1, q2, q3, q4⟩ := S5.out.2.2.1.free
  go_upto_region 8 with fail
  clear c0 c1 c2 c3 c4 q0 q1 q2 q3 q4
  generalize hW6 : World.setCell W5 _ _ = W6
  have a6 : Wv 34 W6 b1 exV8 := by rw [← hW6]; exact S5.out.2.2.1.set2 8
  have s6 : S W6 F' p exFs := by rw [← hW6]; exact hO.keep _ _ _ (fun j => j = b1) _ _ S5.out.1 ⟨rfl, rfl, rfl, by simp, fun j hj hn => Below.heap_setCell _ _ _ _ hn⟩ (fun j hj e => S3.out.2.2.2.2 (by rw [← e]; exact hj))
  have k6 : Below w.heap.size w W6 := by rw [← hW6]; exact S5.out.2.1.setCell (p := ⟨b1, 2, none⟩) S3.out.2.2.2.1 _
  have r6 : R4 W6 b2 3 0 10 1 := by
    have e : ∀ o, W6.cell? ⟨b2, o, none⟩ = W5.cell? ⟨b2, o, none⟩ := fun o => by rw [← hW6]; exact World.cell?_of_block (a := ⟨b2, o, none⟩) (Below.heap_setCell _ _ _ _ S5.out.2.2.2.2)
    have := S5.out.2.2.2.1
    unfold R4 at *
    simp only [e]
    exact this
  have S6 := Lib.hid (⟨s6, k6, a6, r6⟩ : S W6 F' p exFs ∧ Below w.heap.size w W6 ∧ Wv 34 W6 b1 exV8 ∧ R4 W6 b2 3 0 10 1)
  clear hW6 a6 s6 k6 r6
  obtain ⟨c0, c1, c2, c3, c4⟩ := S6.out.2.2.1.at'
  go_upto_region 9 with (first
    | (go_at_call 15; refine (HF8.out _ _ _ S6.out.1).mono ?_; rintro e w7 ⟨rfl, k7⟩; have S7 := Lib.hid (⟨thru S6.out.2.1 k7, S6.out.2.2.2.below k7⟩ : Below w.heap.size w w7 ∧ R4 w7 b2 3 0 10 1); clear k7))
  clear c0 c1 c2 c3 c4
  generalize hW8 : World.alloc w7 _ = W8
  obtain ⟨b3, hb3⟩ : ∃ b3, w7.heap.size = b3 := ⟨_, rfl⟩
  have k8 : Below w7.heap.size w7 W8 := by rw [← hW8]; exact ba1 _ _
  have r8 : R4 W8 b3 0 2 8 3 := by rw [← hW8, ← hb3]; exact R4.of_block (heap_alloc_new w7 _)
  have S8 := Lib.hid (⟨thru S7.out.1 k8, S7.out.2.below k8, r8⟩ : Below w.heap.size w W8 ∧ R4 W8 b2 3 0 10 1 ∧ R4 W8 b3 0 2 8 3)
  rw [hb3]
  clear hW8 hb3 k8 r8
  obtain ⟨r0, r1, r2, r3⟩ := S8.out.2.1
  obtain ⟨s0, s1, s2, s3⟩ := S8.out.2.2
  have q1 := eqR4_same 3 0 10 1 W8
  have q2 := eqR4_same 0 2 8 3 W8
  go_wp2_with fail
  go_ret
  exact ⟨rfl, S8.out.1⟩

end

end Go.Proofs.Ytmpfjkhboenfcaa.Avoid

/-! What is barred, in numbers: fewer rows leave more free; the lowest row from which on there is room. No program is in it. -/
namespace Go.Proofs.Ytmpfjkhboenfcaa.Avoid
open Go.Proofs.Ytmpfjkhboenfcaa.Shelf Go.Proofs.Ytmpfjkhboenfcaa.Space Go.Proofs.Ytmpfjkhboenfcaa.Place
set_option linter.unusedVariables false

theorem band_less {fs : List Fl} {a a' z z' : Int} (h1 : a ≤ a') (h2 : z' ≤ z) : bandL fs a' z' ≤ bandL fs a z ∧ bandR fs a z ≤ bandR fs a' z' := by
  have hh : ∀ s f, hitF s a' z' f = true → hitF s a z f = true := fun s f q => by
    obtain ⟨q1, q2, q3, q4, q5⟩ := hitF_iff.1 q
    exact hitF_iff.2 ⟨q1, q2, by omega, by omega, by omega⟩
  exact ⟨bandL_le.2 ⟨(bandL_le.1 (Int.le_refl _)).1, fun f hf q => (bandL_le.1 (Int.le_refl _)).2 f hf (hh 1 f q)⟩, le_bandR.2 ⟨(le_bandR.1 (Int.le_refl _)).1, fun f hf q => (le_bandR.1 (Int.le_refl _)).2 f hf (hh 2 f q)⟩⟩

/-- What turns to true once and stays so does it at some place. -/
theorem thr_of (q : Nat → Bool) : ∀ h : Nat, (∀ i j, i ≤ j → j < h → q i = true → q j = true) → ∃ n, n ≤ h ∧ ∀ i, i < h → q i = decide (n ≤ i)
  | 0, _ => ⟨0, Nat.le_refl _, fun i hi => by omega⟩
  | h + 1, hm => by
    obtain ⟨n, hn, hq⟩ := thr_of q h fun i j a b c => hm i j a (by omega) c
    by_cases g : n < h
    · refine ⟨n, by omega, fun i hi => ?_⟩
      by_cases e : i < h
      · exact hq i e
      · have e2 : i = h := by omega
        have e3 := hq n g
        have := hm n h (by omega) (by omega) (by rw [e3]; simp)
        rw [e2, this, decide_eq_true (by omega)]
    · have e4 : n = h := by omega
      cases e : q h with
      | true =>
        refine ⟨h, by omega, fun i hi => ?_⟩
        by_cases e1 : i < h
        · rw [hq i e1, e4]
        · rw [show i = h by omega, e, decide_eq_true (by omega)]
      | false =>
        refine ⟨h + 1, by omega, fun i hi => ?_⟩
        by_cases e1 : i < h
        · rw [hq i e1, decide_eq_false (by omega), decide_eq_false (by omega)]
        · rw [show i = h by omega, e, decide_eq_false (by omega)]

/-- A want of its last rows alone. -/
def tailV (x : Vt) (i : Nat) : Vt := { x with ht := highZ x.ht - i }

theorem highZ_id {h : Int} (k : 1 ≤ h) : highZ h = h := by unfold highZ; split <;> omega

theorem tailV_ok {fs : List Fl} {x : Vt} {y : Int} {i : Nat} (hi : (i : Int) < highZ x.ht) : okV fs (tailV x i) (y + i) = okB x (bandL fs (y + i) (y + highZ x.ht)) (bandR fs (y + i) (y + highZ x.ht)) := by
  unfold okV
  rw [show highZ (tailV x i).ht = highZ x.ht - i from highZ_id (by show 1 ≤ highZ x.ht - i; omega), show y + (i : Int) + (highZ x.ht - i) = y + highZ x.ht by omega]
  rfl

/-- From a row of its own on there is room for the rest. -/
theorem tail_thr (fs : List Fl) (x : Vt) (y : Int) : ∃ n : Nat, n ≤ (highZ x.ht).toNat ∧ ∀ i : Nat, i < (highZ x.ht).toNat → okV fs (tailV x i) (y + i) = decide (n ≤ i) := by
  refine thr_of (fun i => okV fs (tailV x i) (y + i)) _ fun i j hij hj h => ?_
  have hz := highZ_pos x.ht
  show okV fs (tailV x j) (y + j) = true
  replace h : okV fs (tailV x i) (y + i) = true := h
  rw [tailV_ok (by omega)] at h ⊢
  obtain ⟨e1, e2⟩ := band_less (fs := fs) (show y + (i : Int) ≤ y + (j : Int) by omega) (Int.le_refl (y + highZ x.ht))
  exact okB_more e1 e2 h

/-- So all rows down to that one are barred. -/
theorem tail_bars {fs : List Fl} {x : Vt} {y : Int} {n : Nat} (hn : n ≤ (highZ x.ht).toNat) (hq : ∀ i : Nat, i < (highZ x.ht).toNat → okV fs (tailV x i) (y + i) = decide (n ≤ i)) : ∀ z, y ≤ z → z ≤ y - 1 + n → okV fs x z = false := by
  intro z h1 h2
  have hz := highZ_pos x.ht
  cases hok : okV fs x z with
  | false => rfl
  | true =>
    have hj := hq (n - 1) (by omega)
    rw [decide_eq_false (by omega), tailV_ok (by omega)] at hj
    unfold okV at hok
    obtain ⟨e1, e2⟩ := band_less (fs := fs) (show z ≤ y + ((n - 1 : Nat) : Int) by omega) (show y + highZ x.ht ≤ z + highZ x.ht by omega)
    rw [okB_more e1 e2 hok] at hj
    cases hj

theorem tail_right {x : Vt} (hr : RightV x) (i : Nat) (hi : (i : Int) < highZ x.ht) : RightV (tailV x i) := by
  obtain ⟨f1, f2, t1, t2, wd1, wd2, ht1, ht2, y1, y2⟩ := hr
  have h1 : highZ x.ht ≤ 281474976710656 := by unfold highZ; split <;> omega
  exact ⟨f1, f2, t1, t2, wd1, wd2, by show -281474976710656 ≤ highZ x.ht - i; omega, by show highZ x.ht - i ≤ 281474976710656; omega, y1, y2⟩

/-- What the program asks is what the document asks. -/
theorem okB_unt {x : Vt} {L R : Int} : (decide (x.wd ≤ min x.t R - max x.f L) || (decide (L ≤ x.f) && decide (x.f + x.wd ≤ R))) = okB x L R := by
  rw [Bool.eq_iff_iff, okB_iff]
  simp only [Bool.or_eq_true, Bool.and_eq_true, decide_eq_true_eq]
  omega

/-! What one who looks keeps: down to which height all is barred, and where it stood when it was asked last. -/

structure BarV (fs : List Fl) (x : Vt) (pre : List Int) (l r : Int) : Prop where
  bar : ∀ z, (∀ u ∈ pre, u ≤ z) → x.y ≤ z → z ≤ r → okV fs x z = false
  last : ∀ z, pre.getLast? = some z → okV fs x z = true → l = atV fs x z

theorem barV_start (fs : List Fl) (x : Vt) : BarV fs x [] 0 (x.y - 1) :=
  ⟨fun z _ h1 h2 => by omega, fun z h => by simp at h⟩

theorem barV_held {fs : List Fl} {x : Vt} {pre : List Int} {l r z : Int} (h : BarV fs x pre l r) (hz : (∀ u ∈ pre, u < z) ∧ x.y ≤ z) (hzr : z ≤ r) : okV fs x z = false ∧ BarV fs x (pre ++ [z]) l r := by
  have hno := h.bar z (fun u hu => Int.le_of_lt (hz.1 u hu)) hz.2 hzr
  refine ⟨hno, fun q hq h1 h2 => h.bar q (fun u hu => hq u (List.mem_append_left _ hu)) h1 h2, fun q hq hok => ?_⟩
  rw [List.getLast?_concat] at hq
  obtain rfl : z = q := Option.some.inj hq
  rw [hno] at hok
  cases hok

theorem barV_yes {fs : List Fl} {x : Vt} {pre : List Int} {l r z : Int} (hzr : r < z) : BarV fs x (pre ++ [z]) (atV fs x z) r := by
  refine ⟨fun q hq h1 h2 => ?_, fun q hq hok => ?_⟩
  · have := hq z (by simp)
    omega
  · rw [List.getLast?_concat] at hq
    obtain rfl : z = q := Option.some.inj hq
    rfl

theorem barV_no {fs : List Fl} {x : Vt} {pre : List Int} {r z : Int} (h : ∀ q, z ≤ q → q ≤ r → okV fs x q = false) : BarV fs x (pre ++ [z]) (atV fs x z) r := by
  refine ⟨fun q hq h1 h2 => h q (hq z (by simp)) h2, fun q hq hok => ?_⟩
  rw [List.getLast?_concat] at hq
  obtain rfl : z = q := Option.some.inj hq
  rfl

theorem barV_end {fs : List Fl} {x : Vt} {l r : Int} (h : BarV fs x (askL (okV fs x) (topsD fs x.y)) l r) (h49 : fs.all near49 = true) (hr : RightV x) : l = findVX fs x := by
  rw [← atV_found h49 hr]
  refine h.last _ ?_ (findV_is h49 hr).2.1
  have hat := atD_at (okV fs x) fs x.y
  unfold askL
  rw [List.getLast?_eq_getElem?, List.length_take]
  have hl := (List.getElem?_eq_some_iff.1 hat).1
  rw [show min (stopN (okV fs x) (topsD fs x.y) + 1) (topsD fs x.y).length - 1 = stopN (okV fs x) (topsD fs x.y) by omega, List.getElem?_take, if_pos (by omega), hat]
  rfl

end Go.Proofs.Ytmpfjkhboenfcaa.Avoid
