/- Texts of this proof that follow each other, in one file. -/
import Derived.Test.YtmgokpdeolnidaaPart14
import Derived.Test.YtmgokpdeolnidaaPart6
import Derived.Test.YtmgokpdeolnidaaPart25
import Derived.Test.YtmgokpdeolnidaaPart7
import Derived.Test.YtmgokpdeolnidaaPart24
import Derived.Test.YtmgokpdeolnidaaPart21
import Derived.Test.YtmgokpdeolnidaaPart13
import Derived.Test.YtmgokpdeolnidaaPart12
/-! What is asked of the program's placing, whatever it looks like; the law's example. -/
namespace Go.Proofs.Ytmgokpdeolnidaa.Place
open Go.RowKit Go.Sort Go.Proofs.Ytmgokpdeolnidaa.Rect Go.Proofs.Ytmgokpdeolnidaa.More Go.Proofs.Ytmgokpdeolnidaa.Shelf Go.Proofs.Ytmgokpdeolnidaa.Space
set_option linter.unusedVariables false
set_option linter.unusedSimpArgs false

/-- A float as a rectangle. -/
abbrev Fl.box (f : Fl) : Value := .agg #[.int .i64 f.l, .int .i64 f.t, .int .i64 f.r, .int .i64 f.b]

/-- The contracts of the program's placing. -/
structure PlaceOk (S : World → (Nat → Prop) → Addr → List Fl → Prop) : Prop where

theorem eqR4_same (a b c d : Int) (w : World) : (Op.equalIn 10000 41 (.agg #[.int .i64 a, .int .i64 b, .int .i64 c, .int .i64 d]) (.agg #[.int .i64 a, .int .i64 b, .int .i64 c, .int .i64 d])).run Try.prog w = .ok true w := by
  have u3 := Try.underlying3
  have a3 := Try.isAgg3
  have z3 := Try.sizeOf3
  have hS : Try.prog.underlying 41 = some (.struct (Try.prog.fieldsOf 41)) := by kernel_rfl
  rw [show (10000 : Nat) = 9999 + 1 from rfl, run_equalIn_agg w 9999 41 _ _ hS (by kernel_rfl)]
  simp only [Program.fieldsOf, Try.underlying41]
  go_simp

/-- The example's want. -/
def exW : Wt := ⟨1, 0, 0, 10, 3, 2, 0⟩
theorem exW_right : RightW exW := rightW_iff.1 (by decide)
theorem exW_one : placed [] exW = ⟨1, 0, 0, 3, 2⟩ := by
  have h1 : findY [] exW = 0 := by decide
  have h2 : findX [] exW = 0 := by decide
  unfold placed
  rw [h1, h2]
  rfl
theorem exW_two : placed [⟨1, 0, 0, 3, 2⟩] exW = ⟨1, 3, 0, 6, 2⟩ := by
  have h1 : findY [⟨1, 0, 0, 3, 2⟩] exW = 0 := by decide
  have h2 : findX [⟨1, 0, 0, 3, 2⟩] exW = 3 := by decide
  unfold placed
  rw [h1, h2]
  rfl

section
variable {S : World → (Nat → Prop) → Addr → List Fl → Prop}

/-- A space that is put into by stages, beside blocks L that stay as they were, and blocks G that are one's own. -/
def spaceK (S : World → (Nat → Prop) → Addr → List Fl → Prop) (w0 W : World) (p : Addr) (L : Nat → Prop) (fss : Nat → List Fl) : Nat → World → (Nat → Prop) → Prop := fun s w G =>
  Below w0.heap.size w0 w ∧ W.heap.size ≤ w.heap.size ∧ (∀ k, L k → w.heap[k]? = W.heap[k]?) ∧ ∃ F, S w F p (fss s) ∧ (∀ k, F k → w0.heap.size ≤ k) ∧ (∀ k, L k → ¬ F k) ∧ ∀ k, G k → ¬ F k ∧ ¬ L k ∧ w0.heap.size ≤ k ∧ k < w.heap.size

theorem spaceK_kept (hO : SpaceOk S) {w0 W : World} {p : Addr} {L : Nat → Prop} {fss : Nat → List Fl} (hL : ∀ k, L k → k < W.heap.size) : Draw.Kept (spaceK S w0 W p L fss) where
  below := fun s w w' G G' ⟨h1, h2, h3, F, h4, h5, h6, h7⟩ k hG => ⟨thru h1 k, Nat.le_trans h2 k.size, fun j hj => (k.block j (Nat.lt_of_lt_of_le (hL j hj) h2)).trans (h3 j hj), F, thruS hO h4 k, h5, h6, fun j hj => by
    have hs := h1.size
    have hk := k.size
    rcases hG j hj with e | ⟨e1, e2⟩
    · obtain ⟨q1, q2, q3, q4⟩ := h7 j e
      exact ⟨q1, q2, q3, by omega⟩
    · exact ⟨fun q => by have := hO.lt _ _ _ _ h4 j q; omega, fun q => by have := hL j q; omega, by omega, e2⟩⟩
  only := fun s w w' b G ⟨h1, h2, h3, F, h4, h5, h6, h7⟩ hb ho => by
    obtain ⟨q1, q2, q3, q4⟩ := h7 b hb
    refine ⟨ho.below h1 q3, by rw [ho.size]; exact h2, fun j hj => (ho.block j (fun e => q2 (by rw [← e]; exact hj))).trans (h3 j hj), F, hO.keep _ _ _ (fun j => j = b) _ _ h4 ⟨ho.os, ho.tape, ho.output, by rw [ho.size]; exact Nat.le_refl _, fun j hj hn => ho.block j hn⟩ (fun j hj e => q1 (by rw [← e]; exact hj)), h5, h6, fun j hj => by rw [ho.size]; exact h7 j hj⟩
  less := fun s w G G' ⟨h1, h2, h3, F, h4, h5, h6, h7⟩ hG => ⟨h1, h2, h3, F, h4, h5, h6, fun j hj => h7 j (hG j hj)⟩

theorem spaceK_start (hO : SpaceOk S) {w0 W : World} {p : Addr} {L : Nat → Prop} {fss : Nat → List Fl} {F : Nat → Prop} (h : S W F p (fss 0)) (hB : Below w0.heap.size w0 W) (hF : ∀ k, F k → w0.heap.size ≤ k) (hLF : ∀ k, L k → ¬ F k) :
    spaceK S w0 W p L fss 0 { W with drawn := W.drawn + 1 } (fun _ => False) := by
  have hk : Below W.heap.size W { W with drawn := W.drawn + 1 } := ⟨rfl, rfl, rfl, Nat.le_refl _, fun _ _ => rfl⟩
  exact ⟨thru hB hk, Nat.le_refl _, fun _ _ => rfl, F, thruS hO h hk, hF, hLF, fun _ q => q.elim⟩

theorem atW_block {w w' : World} {b : Nat} {x : Wt} (h : AtW w b x) (k : w'.heap[b]? = w.heap[b]?) : AtW w' b x := by
  have e : ∀ o, w'.cell? ⟨b, o, none⟩ = w.cell? ⟨b, o, none⟩ := fun o => World.cell?_of_block (a := ⟨b, o, none⟩) k
  unfold AtW at *
  simp only [e]
  exact h

/-- A store of four numbers into a block of four. -/
theorem only_put4 {w : World} {g : Nat} (T : TypeId) (x0 x1 x2 x3 y0 y1 y2 y3 : Int) (h : w.heap[g]? = some (.cells #[.int .i64 x0, .int .i64 x1, .int .i64 x2, .int .i64 x3] T)) :
    ((((w.setCell ⟨g, 0, none⟩ (.int .i64 y0)).setCell ⟨g, 1, none⟩ (.int .i64 y1)).setCell ⟨g, 2, none⟩ (.int .i64 y2)).setCell ⟨g, 3, none⟩ (.int .i64 y3)).heap[g]? = some (.cells #[.int .i64 y0, .int .i64 y1, .int .i64 y2, .int .i64 y3] T) ∧
    Draw.Only g w ((((w.setCell ⟨g, 0, none⟩ (.int .i64 y0)).setCell ⟨g, 1, none⟩ (.int .i64 y1)).setCell ⟨g, 2, none⟩ (.int .i64 y2)).setCell ⟨g, 3, none⟩ (.int .i64 y3)) :=
  ⟨set4 h y0 y1 y2 y3, (((Draw.Only.set g _ 0 _).trans (Draw.Only.set g _ 1 _)).trans (Draw.Only.set g _ 2 _)).trans (Draw.Only.set g _ 3 _)⟩

def exS : Nat → List Fl
  | 0 => []
  | 1 => [⟨1, 0, 0, 3, 2⟩]
  | _ => [⟨1, 0, 0, 3, 2⟩, ⟨1, 3, 0, 6, 2⟩]

end

end Go.Proofs.Ytmgokpdeolnidaa.Place

/-! The contracts of the document's boxes of lines, and of its look whether one may begin. -/
namespace Go.Proofs.Ytmgokpdeolnidaa.Line
open Go.RowKit Go.Sort Go.Proofs.Ytmgokpdeolnidaa.Rect Go.Proofs.Ytmgokpdeolnidaa.More Go.Proofs.Ytmgokpdeolnidaa.Shelf Go.Proofs.Ytmgokpdeolnidaa.Space Go.Proofs.Ytmgokpdeolnidaa.Place
set_option linter.unusedVariables false
set_option linter.unusedSimpArgs false

/-- A maker as a value; its six cells. -/
abbrev Mv (A : Option Addr) (n c : Nat) (A2 : Option Addr) (n2 c2 : Nat) (m : Mk) : Value := .agg #[.slice A n c, .int .i64 m.f, .int .i64 m.t, .int .i64 m.y, .int .i64 m.top, .slice A2 n2 c2]
def AtM (w : World) (b : Nat) (A : Option Addr) (n c : Nat) (A2 : Option Addr) (n2 c2 : Nat) (m : Mk) : Prop :=
  w.cell? ⟨b, 0, none⟩ = some (.slice A n c) ∧ w.cell? ⟨b, 1, none⟩ = some (.int .i64 m.f) ∧ w.cell? ⟨b, 2, none⟩ = some (.int .i64 m.t) ∧ w.cell? ⟨b, 3, none⟩ = some (.int .i64 m.y) ∧ w.cell? ⟨b, 4, none⟩ = some (.int .i64 m.top) ∧ w.cell? ⟨b, 5, none⟩ = some (.slice A2 n2 c2)

section
variable {A A2 : Option Addr} {n c n2 c2 : Nat} {m : Mk}

theorem AtM.below {w w' : World} {b : Nat} (h : AtM w b A n c A2 n2 c2 m) (k : Below w.heap.size w w') : AtM w' b A n c A2 n2 c2 m := by
  obtain ⟨h0, h1, h2, h3, h4, h5⟩ := h
  have hb := block_lt_of_cell h0
  exact ⟨(k.cell (p := ⟨b, 0, none⟩) hb).trans h0, (k.cell (p := ⟨b, 1, none⟩) hb).trans h1, (k.cell (p := ⟨b, 2, none⟩) hb).trans h2, (k.cell (p := ⟨b, 3, none⟩) hb).trans h3, (k.cell (p := ⟨b, 4, none⟩) hb).trans h4, (k.cell (p := ⟨b, 5, none⟩) hb).trans h5⟩
theorem AtM.block {w : World} {b : Nat} (h : AtM w b A n c A2 n2 c2 m) : b < w.heap.size := block_lt_of_cell h.1
theorem atM_boxed (w : World) (T : TypeId) : AtM (w.alloc (.cells #[.slice A n c, .int .i64 m.f, .int .i64 m.t, .int .i64 m.y, .int .i64 m.top, .slice A2 n2 c2] T)) w.heap.size A n c A2 n2 c2 m := by
  refine ⟨?_, ?_, ?_, ?_, ?_, ?_⟩ <;> simp [go_sem]

end

/-- What a maker in memory is. -/
structure MkIn (w : World) (A : Option Addr) (n c : Nat) (A2 : Option Addr) (n2 c2 : Nat) (m : Mk) : Prop where
  hn : n = m.fs.length
  hlen : n ≤ 1000000
  hx : Floats w w.heap.size A m.fs
  hn2 : n2 = m.az.length
  hlen2 : n2 ≤ 1000000
  hx2 : Sizes w w.heap.size A2 m.az
  ha : ∀ z ∈ m.az, RightS z
  ht : -1125899906842624 ≤ m.top ∧ m.top ≤ 1125899906842624

theorem MkIn.thru {w w' : World} {A A2 : Option Addr} {n c n2 c2 : Nat} {m : Mk} (h : MkIn w A n c A2 n2 c2 m) (k : Below w.heap.size w w') : MkIn w' A n c A2 n2 c2 m :=
  ⟨h.hn, h.hlen, h.hx.thru k, h.hn2, h.hlen2, h.hx2.thru k, h.ha, h.ht⟩

set_option maxRecDepth 100000 in
set_option maxHeartbeats 1000000 in
theorem refbox_any (A : Option Addr) (n c : Nat) (A2 : Option Addr) (n2 c2 : Nat) (m : Mk) (w : World) (h : MkIn w A n c A2 n2 c2 m) :
    Calls Try.prog 51 #[Mv A n c A2 n2 c2 m] w fun e w' => e = .returned (.agg #[.int .i64 m.l, .int .i64 m.top, .int .i64 m.r, .int .i64 m.b]) ∧ Below w.heap.size w w' := by
  obtain ⟨hn, hlen, hx, hn2, hlen2, hx2, ha, ht⟩ := h
  have hb := highL_b ha
  have HHi := Lib.hid (fun w1 (k : Below w.heap.size w w1) => refhigh_any A2 n2 c2 m.az w1 hn2 hlen2 (hx2.thru k))
  have HFr := Lib.hid (fun w1 (k : Below w.heap.size w w1) => reffree_any A n c m.fs m.f m.t m.top (highL m.az) w1 hn hlen (hx.thru k) ⟨by omega, by omega⟩ (by omega))
  have hw : IntKind.i64.wrap (m.top + highL m.az) = m.b := IntWalk.i64_in _ (by omega)
  rw [show max m.f (bandL m.fs m.top (m.top + highZ (highL m.az))) = m.l from rfl, show min m.t (bandR m.fs m.top (m.top + highZ (highL m.az))) = m.r from rfl] at HFr
  have HW := Lib.hid hw
  generalize highL m.az = hi at *
  generalize m.l = ml at *
  generalize m.r = mr at *
  generalize m.b = mb at *
  clear hn hlen hx hn2 hlen2 hx2 ha ht hb hw
  go_enter Try.func51, Try.ntmps51
  go_upto_region 1 with fail
  generalize hW1 : World.alloc w _ = W1
  obtain ⟨b0, hb0⟩ : ∃ b0, w.heap.size = b0 := ⟨_, rfl⟩
  have k1 : Below w.heap.size w W1 := by rw [← hW1]; exact ba1 _ _
  have s1 : W1.heap.size = b0 + 1 := by rw [← hW1, ← hb0]; simp
  have a1 : AtM W1 b0 A n c A2 n2 c2 m := by rw [← hW1, ← hb0]; exact atM_boxed _ _
  clear hW1
  generalize hW2 : World.alloc W1 _ = W2
  have k2 : Below W1.heap.size W1 W2 := by rw [← hW2]; exact ba1 _ _
  have z2 : W2.heap[b0 + 1]? = some (.cells #[.int .i64 0, .int .i64 0, .int .i64 0, .int .i64 0] 45) := by rw [← hW2, ← s1]; exact heap_alloc_new W1 _
  clear hW2
  rw [hb0]
  obtain ⟨b1, hb1⟩ : ∃ b1, b0 + 1 = b1 := ⟨_, rfl⟩
  rw [hb1] at s1 z2
  rw [hb1]
  have S2 := Lib.hid (⟨thru k1 k2, a1.below k2, z2, by omega⟩ : Below w.heap.size w W2 ∧ AtM W2 b0 A n c A2 n2 c2 m ∧ W2.heap[b1]? = some (.cells #[.int .i64 0, .int .i64 0, .int .i64 0, .int .i64 0] 45) ∧ w.heap.size ≤ b1)
  clear k1 a1 k2 z2 s1 hb0 hb1
  have HA := Lib.hid (fun w' (j : Below W2.heap.size W2 w') => S2.out.2.1.below j)
  have HB := Lib.hid (fun w' (j : Below W2.heap.size W2 w') => thru S2.out.1 j)
  refine HoldAll.wp_region_hold_all [.val (.pointer (some ⟨b0, 0, none⟩)), .val (.slice A n c), .val (.pointer (some ⟨b0, 1, none⟩)), .val (.int .i64 m.f), .val (.pointer (some ⟨b0, 2, none⟩)), .val (.int .i64 m.t), .val (.pointer (some ⟨b0, 4, none⟩)), .val (.int .i64 m.top), .val (.pointer (some ⟨b0, 5, none⟩)), .val (.slice A2 n2 c2), .val (.int .i64 hi), .val (.tuple #[.int .i64 ml, .int .i64 mr]), .val (.tuple #[.int .i64 ml, .int .i64 mr]), .val (.int .i64 ml), .val (.int .i64 mr), .val (.int .i64 ml), .val (.int .i64 mr)] (by kernel_rfl) (by kernel_rfl) (by kernel_rfl) ?_ ?_
  · simp only [Hold.fill, Hold.Leave.value]
    refine ⟨?_, ?_, ?_, ?_, ?_, ?_, ?_, ?_, ?_, ?_, ?_, ?_, ?_, ?_, ?_, ?_, ?_, trivial⟩
    · intro gg w' hw hk
      go_simp
      exact ⟨rfl, rfl⟩
    · intro gg w' hw hk
      have q := (HA.out w' hw).1
      go_simp
      exact ⟨rfl, rfl⟩
    · intro gg w' hw hk
      go_simp
      exact ⟨rfl, rfl⟩
    · intro gg w' hw hk
      have q := (HA.out w' hw).2.1
      go_simp
      exact ⟨rfl, rfl⟩
    · intro gg w' hw hk
      go_simp
      exact ⟨rfl, rfl⟩
    · intro gg w' hw hk
      have q := (HA.out w' hw).2.2.1
      go_simp
      exact ⟨rfl, rfl⟩
    · intro gg w' hw hk
      go_simp
      exact ⟨rfl, rfl⟩
    · intro gg w' hw hk
      have q := (HA.out w' hw).2.2.2.2.1
      go_simp
      exact ⟨rfl, rfl⟩
    · intro gg w' hw hk
      go_simp
      exact ⟨rfl, rfl⟩
    · intro gg w' hw hk
      have q := (HA.out w' hw).2.2.2.2.2
      go_simp
      exact ⟨rfl, rfl⟩
    · intro gg w' hw hk
      go_simp
      exact Hold.stays_call (HHi.out w' (HB.out w' hw))
    · intro gg w' hw hk
      go_simp
      exact Hold.stays_call (HFr.out w' (HB.out w' hw))
    · intro gg w' hw hk
      go_simp
      exact ⟨rfl, rfl⟩
    · intro gg w' hw hk
      go_simp
      exact ⟨rfl, rfl⟩
    · intro gg w' hw hk
      go_simp
      exact ⟨rfl, rfl⟩
    · intro gg w' hw hk
      go_simp
      exact ⟨rfl, rfl⟩
    · intro gg w' hw hk
      go_simp
      exact ⟨rfl, rfl⟩
  intro gg w3 k3 hgg
  clear hgg
  simp only [Hold.fill, Hold.Leave.value]
  have S3 := Lib.hid (⟨HB.out _ k3, HA.out _ k3, (k3.block b1 (lt_of_block S2.out.2.2.1)).trans S2.out.2.2.1⟩ : Below w.heap.size w w3 ∧ AtM w3 b0 A n c A2 n2 c2 m ∧ w3.heap[b1]? = some (.cells #[.int .i64 0, .int .i64 0, .int .i64 0, .int .i64 0] 45))
  clear k3 HA HB HFr
  go_simp
  go_upto_region 2 with fail
  have HA := Lib.hid (fun w' (j : Below w3.heap.size w3 w') => S3.out.2.1.below j)
  have HB := Lib.hid (fun w' (j : Below w3.heap.size w3 w') => thru S3.out.1 j)
  refine Hold.wp_region_hold [.val (.int .i64 ml), .val (.pointer (some ⟨b0, 4, none⟩)), .val (.int .i64 m.top), .val (.int .i64 mr), .val (.pointer (some ⟨b0, 4, none⟩)), .val (.int .i64 m.top), .val (.pointer (some ⟨b0, 5, none⟩)), .val (.slice A2 n2 c2), .val (.int .i64 hi), .val (.int .i64 mb), .val (.agg #[.int .i64 ml, .int .i64 m.top, .int .i64 mr, .int .i64 mb])] (by kernel_rfl) (by kernel_rfl) (by kernel_rfl) ?_ ?_
  · simp only [Hold.fill, Hold.Leave.value]
    refine ⟨?_, ?_, ?_, ?_, ?_, ?_, ?_, ?_, ?_, ?_, ?_, trivial⟩
    · intro gg w' hw hk
      go_simp
      exact ⟨rfl, rfl⟩
    · intro gg w' hw hk
      go_simp
      exact ⟨rfl, rfl⟩
    · intro gg w' hw hk
      have q := (HA.out w' hw).2.2.2.2.1
      go_simp
      exact ⟨rfl, rfl⟩
    · intro gg w' hw hk
      go_simp
      exact ⟨rfl, rfl⟩
    · intro gg w' hw hk
      go_simp
      exact ⟨rfl, rfl⟩
    · intro gg w' hw hk
      have q := (HA.out w' hw).2.2.2.2.1
      go_simp
      exact ⟨rfl, rfl⟩
    · intro gg w' hw hk
      go_simp
      exact ⟨rfl, rfl⟩
    · intro gg w' hw hk
      have q := (HA.out w' hw).2.2.2.2.2
      go_simp
      exact ⟨rfl, rfl⟩
    · intro gg w' hw hk
      go_simp
      exact Hold.stays_call (HHi.out w' (HB.out w' hw))
    · intro gg w' hw hk
      have q := HW.out
      go_simp
      exact ⟨rfl, rfl⟩
    · intro gg w' hw hk
      go_simp
      exact ⟨rfl, rfl⟩
  intro gg w4 k4 hgg
  clear hgg
  simp only [Hold.fill, Hold.Leave.value, List.length_cons, List.length_nil, List.drop_succ_cons, List.drop_zero]
  have S4 := Lib.hid (⟨HB.out _ k4, (k4.block b1 (lt_of_block S3.out.2.2)).trans S3.out.2.2⟩ : Below w.heap.size w w4 ∧ w4.heap[b1]? = some (.cells #[.int .i64 0, .int .i64 0, .int .i64 0, .int .i64 0] 45))
  clear k4 HA HB
  have hb2 : w.heap.size ≤ b1 := S2.out.2.2.2
  obtain ⟨r0, r1, r2, r3⟩ := R4.of_block S4.out.2
  obtain ⟨q0, q1, q2, q3⟩ := free4 S4.out.2
  go_simp
  go_wp2_with fail
  exact bodyPost_ret (v := .agg #[.int .i64 ml, .int .i64 m.top, .int .i64 mr, .int .i64 mb]) (by simp [results, Try.results51, go_sem, r0, r1, r2, r3]) rfl ⟨rfl, ((((S4.out.1.setCell (p := ⟨b1, 0, none⟩) hb2 _).setCell (p := ⟨b1, 1, none⟩) hb2 _).setCell (p := ⟨b1, 2, none⟩) hb2 _).setCell (p := ⟨b1, 3, none⟩) hb2 _)⟩

set_option maxRecDepth 100000 in
set_option maxHeartbeats 1000000 in
theorem refbegins_any (A : Option Addr) (n c : Nat) (A2 : Option Addr) (n2 c2 : Nat) (m : Mk) (z : Sz) (y : Int) (w : World) (hn : n = m.fs.length) (hlen : n ≤ 1000000) (hx : Floats w w.heap.size A m.fs) (h49 : m.fs.all near49 = true) (hz : RightS z) (hf : -4503599627370496 ≤ m.f ∧ m.f ≤ 4503599627370496) (ht : -4503599627370496 ≤ m.t ∧ m.t ≤ 4503599627370496) (hy : -1125899906842624 ≤ y ∧ y ≤ 1125899906842624) :
    Calls Try.prog 49 #[Mv A n c A2 n2 c2 m, .agg #[.int .i64 z.wd, .int .i64 z.ht], .int .i64 y] w fun e w' => e = .returned (.bool (okL m.fs m.f m.t z y)) ∧ Below w.heap.size w w' := by
  have hzh := hz.h2
  have HFr := Lib.hid (fun w1 (k : Below w.heap.size w w1) => reffree_any A n c m.fs m.f m.t y z.ht w1 hn hlen (hx.thru k) ⟨by omega, by omega⟩ (by omega))
  have HBo := Lib.hid (fun w1 (k : Below w.heap.size w w1) => refrows_any A n c m.fs y z.ht w1 hn hlen (hx.thru k) ⟨by omega, by omega⟩ (by omega))
  obtain ⟨L1, L2⟩ := bandL_49 h49 y (y + highZ z.ht)
  obtain ⟨R1, R2⟩ := bandR_49 h49 y (y + highZ z.ht)
  obtain ⟨v, hv⟩ : ∃ v, okL m.fs m.f m.t z y = v := ⟨_, rfl⟩
  rw [hv]
  unfold okL freeL freeR at hv
  generalize bandL m.fs y (y + highZ z.ht) = L at *
  generalize bandR m.fs y (y + highZ z.ht) = R at *
  obtain ⟨a, ha⟩ : ∃ a, max m.f L = a := ⟨_, rfl⟩
  obtain ⟨b, hb⟩ : ∃ b, min m.t R = b := ⟨_, rfl⟩
  rw [ha, hb] at HFr
  rw [ha, hb] at hv
  have hw1 : IntKind.i64.wrap (m.t - m.f) = m.t - m.f := IntWalk.i64_in _ (by omega)
  have hw2 : IntKind.i64.wrap (b - a) = b - a := IntWalk.i64_in _ (by omega)
  have HV := Lib.hid hv
  clear hn hlen hx h49 hz hzh hf ht hy L1 L2 R1 R2 hv ha hb
  go_enter Try.func49, Try.ntmps49
  go_upto_region 1 with fail
  generalize hW1 : World.alloc w _ = W1
  obtain ⟨b0, hb0⟩ : ∃ b0, w.heap.size = b0 := ⟨_, rfl⟩
  have k1 : Below w.heap.size w W1 := by rw [← hW1]; exact ba1 _ _
  have s1 : W1.heap.size = b0 + 1 := by rw [← hW1, ← hb0]; simp
  have a1 : AtM W1 b0 A n c A2 n2 c2 m := by rw [← hW1, ← hb0]; exact atM_boxed _ _
  clear hW1
  generalize hW2 : World.alloc W1 _ = W2
  have k2 : Below W1.heap.size W1 W2 := by rw [← hW2]; exact ba1 _ _
  have e0 : W2.cell? ⟨b0 + 1, 0, none⟩ = some (.int .i64 z.wd) := by rw [← hW2, ← s1]; simp [go_sem]
  have e1 : W2.cell? ⟨b0 + 1, 1, none⟩ = some (.int .i64 z.ht) := by rw [← hW2, ← s1]; simp [go_sem]
  clear hW2
  rw [hb0]
  obtain ⟨b1, hb1⟩ : ∃ b1, b0 + 1 = b1 := ⟨_, rfl⟩
  rw [hb1] at s1 e0 e1
  rw [hb1]
  have S2 := Lib.hid (⟨thru k1 k2, a1.below k2, e0, e1⟩ : Below w.heap.size w W2 ∧ AtM W2 b0 A n c A2 n2 c2 m ∧ W2.cell? ⟨b1, 0, none⟩ = some (.int .i64 z.wd) ∧ W2.cell? ⟨b1, 1, none⟩ = some (.int .i64 z.ht))
  have HQ := Lib.hid (fun w' (j : Below W2.heap.size W2 w') => (⟨(j.cell (p := ⟨b1, 0, none⟩) (block_lt_of_cell e0)).trans e0, (j.cell (p := ⟨b1, 1, none⟩) (block_lt_of_cell e1)).trans e1⟩ : w'.cell? ⟨b1, 0, none⟩ = some (.int .i64 z.wd) ∧ w'.cell? ⟨b1, 1, none⟩ = some (.int .i64 z.ht)))
  clear k1 a1 k2 s1 hb0 hb1 e0 e1
  obtain ⟨c0, c1, c2', c3, c4, c5⟩ := S2.out.2.1
  obtain ⟨-, -, q0, q1⟩ := S2.out
  go_upto_region 3 with (first
    | (go_at_call 61; refine (HFr.out _ S2.out.1).mono ?_; rintro e w3 ⟨rfl, k3⟩; have S3 := Lib.hid (⟨thru S2.out.1 k3, S2.out.2.1.below k3, (HQ.out _ k3).1, (HQ.out _ k3).2, k3⟩ : Below w.heap.size w w3 ∧ AtM w3 b0 A n c A2 n2 c2 m ∧ w3.cell? ⟨b1, 0, none⟩ = some (.int .i64 z.wd) ∧ w3.cell? ⟨b1, 1, none⟩ = some (.int .i64 z.ht) ∧ Below W2.heap.size W2 w3); clear c0 c1 c2' c3 c4 c5 q0 q1; obtain ⟨c0, c1, c2', c3, c4, c5⟩ := S3.out.2.1; obtain ⟨-, -, q0, q1, -⟩ := S3.out; clear k3)
    | (go_at_call 62; refine (HBo.out _ S3.out.1).mono ?_; rintro e w4 ⟨rfl, k4⟩; have S4 := Lib.hid (⟨thru S3.out.1 k4, S3.out.2.1.below k4, (HQ.out _ (thru S3.out.2.2.2.2 k4)).1⟩ : Below w.heap.size w w4 ∧ AtM w4 b0 A n c A2 n2 c2 m ∧ w4.cell? ⟨b1, 0, none⟩ = some (.int .i64 z.wd)); clear k4))
  clear c0 c1 c2' c3 c4 c5 q0 q1
  obtain ⟨c0, c1, c2', c3, c4, c5⟩ := S4.out.2.1
  have q0 := S4.out.2.2
  by_cases h1 : z.wd ≤ b - a
  · have hvt : v = true := by rw [← HV.out, decide_eq_true h1]; rfl
    subst hvt
    go_wp2_with fail
    go_ret
    exact ⟨rfl, S4.out.1⟩
  · have hv : (decide (m.t - m.f < z.wd) && decide (L ≤ m.f) && decide (m.t ≤ R)) = v := by rw [← HV.out, decide_eq_false h1]; rfl
    by_cases h2 : m.t - m.f < z.wd
    · rw [decide_eq_true h2] at hv
      by_cases h3 : L ≤ m.f
      · rw [decide_eq_true h3] at hv
        by_cases h4 : m.t ≤ R
        · rw [decide_eq_true h4] at hv
          obtain rfl : true = v := hv
          go_wp2_with fail
          go_ret
          exact ⟨rfl, S4.out.1⟩
        · rw [decide_eq_false h4] at hv
          obtain rfl : false = v := hv
          go_wp2_with fail
          go_ret
          exact ⟨rfl, S4.out.1⟩
      · rw [decide_eq_false h3] at hv
        obtain rfl : false = v := hv
        go_wp2_with fail
        go_ret
        exact ⟨rfl, S4.out.1⟩
    · rw [decide_eq_false h2] at hv
      obtain rfl : false = v := hv
      go_wp2_with fail
      go_ret
      exact ⟨rfl, S4.out.1⟩

end Go.Proofs.Ytmgokpdeolnidaa.Line

/-! The contract of the document's line that is being made. -/
namespace Go.Proofs.Ytmgokpdeolnidaa.Line
open Go.RowKit Go.Sort Go.Proofs.Ytmgokpdeolnidaa.Rect Go.Proofs.Ytmgokpdeolnidaa.More Go.Proofs.Ytmgokpdeolnidaa.Shelf Go.Proofs.Ytmgokpdeolnidaa.Space Go.Proofs.Ytmgokpdeolnidaa.Place
set_option linter.unusedVariables false
set_option linter.unusedSimpArgs false

/-- A line as a value: its box, how many atoms, how wide. -/
abbrev lineV (m : Mk) : Value := .agg #[.int .i64 m.l, .int .i64 m.top, .int .i64 m.r, .int .i64 m.b, .int .i64 (m.az.length : Int), .int .i64 (wideL m.az)]
abbrev noLine : Value := .agg #[.int .i64 0, .int .i64 0, .int .i64 0, .int .i64 0, .int .i64 0, .int .i64 0]

/-- A block of six zeros. -/
def Z6 (T : TypeId) (w : World) (g : Nat) : Prop := w.heap[g]? = some (.cells #[.int .i64 0, .int .i64 0, .int .i64 0, .int .i64 0, .int .i64 0, .int .i64 0] T)
theorem Z6.cells {T : TypeId} {w : World} {g : Nat} (h : Z6 T w g) : w.cell? ⟨g, 0, none⟩ = some (.int .i64 0) ∧ w.cell? ⟨g, 1, none⟩ = some (.int .i64 0) ∧ w.cell? ⟨g, 2, none⟩ = some (.int .i64 0) ∧ w.cell? ⟨g, 3, none⟩ = some (.int .i64 0) ∧ w.cell? ⟨g, 4, none⟩ = some (.int .i64 0) ∧ w.cell? ⟨g, 5, none⟩ = some (.int .i64 0) := by
  unfold Z6 at h
  refine ⟨?_, ?_, ?_, ?_, ?_, ?_⟩ <;> simp [World.cell?, h]
theorem Z6.free {T : TypeId} {w : World} {g : Nat} (h : Z6 T w g) : w.frozen? ⟨g, 0, none⟩ = false ∧ w.frozen? ⟨g, 1, none⟩ = false ∧ w.frozen? ⟨g, 2, none⟩ = false ∧ w.frozen? ⟨g, 3, none⟩ = false ∧ w.frozen? ⟨g, 4, none⟩ = false ∧ w.frozen? ⟨g, 5, none⟩ = false := by
  unfold Z6 at h
  refine ⟨?_, ?_, ?_, ?_, ?_, ?_⟩ <;> simp [World.frozen?, h]
theorem Z6.lt {T : TypeId} {w : World} {g : Nat} (h : Z6 T w g) : g < w.heap.size := lt_of_block h

set_option maxRecDepth 100000 in
set_option maxHeartbeats 1000000 in
theorem refnow_no (A : Option Addr) (n c : Nat) (A2 : Option Addr) (n2 c2 : Nat) (m : Mk) (w : World) (h : MkIn w A n c A2 n2 c2 m) (hm : m.az = []) :
    Calls Try.prog 33 #[Mv A n c A2 n2 c2 m] w fun e w' => e = .returned noLine ∧ Below w.heap.size w w' := by
  have h2 : n2 = 0 := by rw [h.hn2, hm]; rfl
  subst h2
  clear h hm
  go_enter Try.func33, Try.ntmps33
  go_upto_region 1 with fail
  generalize hW1 : World.alloc w _ = W1
  obtain ⟨b0, hb0⟩ : ∃ b0, w.heap.size = b0 := ⟨_, rfl⟩
  have k1 : Below w.heap.size w W1 := by rw [← hW1]; exact ba1 _ _
  have s1 : W1.heap.size = b0 + 1 := by rw [← hW1, ← hb0]; simp
  have a1 : AtM W1 b0 A n c A2 0 c2 m := by rw [← hW1, ← hb0]; exact atM_boxed _ _
  clear hW1
  generalize hW2 : World.alloc W1 _ = W2
  have k2 : Below W1.heap.size W1 W2 := by rw [← hW2]; exact ba1 _ _
  have z2 : Z6 47 W2 (b0 + 1) := by rw [← hW2, ← s1]; exact heap_alloc_new W1 _
  clear hW2
  rw [hb0]
  obtain ⟨b1, hb1⟩ : ∃ b1, b0 + 1 = b1 := ⟨_, rfl⟩
  rw [hb1] at s1 z2
  rw [hb1]
  have S2 := Lib.hid (⟨thru k1 k2, a1.below k2, z2, by omega⟩ : Below w.heap.size w W2 ∧ AtM W2 b0 A n c A2 0 c2 m ∧ Z6 47 W2 b1 ∧ w.heap.size ≤ b1)
  clear k1 a1 k2 z2 s1 hb0 hb1
  have c5 := S2.out.2.1.2.2.2.2.2
  obtain ⟨z0, z1, z2, z3, z4, z5⟩ := S2.out.2.2.1.cells
  obtain ⟨f0, f1, f2, f3, f4, f5⟩ := S2.out.2.2.1.free
  have hb2 := S2.out.2.2.2
  go_wp2_with fail
  exact bodyPost_ret (v := noLine) (by simp [results, Try.results33, go_sem, z0, z1, z2, z3, z4, z5]) rfl ⟨rfl, ((((((((((((S2.out.1).setCell (p := ⟨b1, 0, none⟩) hb2 _)).setCell (p := ⟨b1, 1, none⟩) hb2 _)).setCell (p := ⟨b1, 2, none⟩) hb2 _)).setCell (p := ⟨b1, 3, none⟩) hb2 _)).setCell (p := ⟨b1, 4, none⟩) hb2 _)).setCell (p := ⟨b1, 5, none⟩) hb2 _)⟩

set_option maxRecDepth 100000 in
set_option maxHeartbeats 1000000 in
theorem refnow_some (A : Option Addr) (n c : Nat) (A2 : Option Addr) (n2 c2 : Nat) (m : Mk) (w : World) (h : MkIn w A n c A2 n2 c2 m) (hm : m.az ≠ []) :
    Calls Try.prog 33 #[Mv A n c A2 n2 c2 m] w fun e w' => e = .returned (lineV m) ∧ Below w.heap.size w w' := by
  have HBx := Lib.hid (fun w1 (k : Below w.heap.size w w1) => refbox_any A n c A2 n2 c2 m w1 (h.thru k))
  have HWi := Lib.hid (fun w1 (k : Below w.heap.size w w1) => refwide_any A2 n2 c2 m.az w1 h.hn2 h.hlen2 (h.hx2.thru k) h.ha)
  have hp : ¬ (n2 : Int) = 0 := by have := List.length_pos_iff.2 hm; have := h.hn2; omega
  have hl : (m.az.length : Int) = (n2 : Int) := by rw [h.hn2]
  unfold lineV
  rw [hl]
  generalize wideL m.az = wi at *
  generalize m.l = ml at *
  generalize m.r = mr at *
  generalize m.b = mb at *
  clear h hm hl
  go_enter Try.func33, Try.ntmps33
  go_upto_region 1 with fail
  generalize hW1 : World.alloc w _ = W1
  obtain ⟨b0, hb0⟩ : ∃ b0, w.heap.size = b0 := ⟨_, rfl⟩
  have k1 : Below w.heap.size w W1 := by rw [← hW1]; exact ba1 _ _
  have s1 : W1.heap.size = b0 + 1 := by rw [← hW1, ← hb0]; simp
  have a1 : AtM W1 b0 A n c A2 n2 c2 m := by rw [← hW1, ← hb0]; exact atM_boxed _ _
  clear hW1
  generalize hW2 : World.alloc W1 _ = W2
  have k2 : Below W1.heap.size W1 W2 := by rw [← hW2]; exact ba1 _ _
  have z2 : Z6 47 W2 (b0 + 1) := by rw [← hW2, ← s1]; exact heap_alloc_new W1 _
  clear hW2
  rw [hb0]
  obtain ⟨b1, hb1⟩ : ∃ b1, b0 + 1 = b1 := ⟨_, rfl⟩
  rw [hb1] at s1 z2
  rw [hb1]
  have S2 := Lib.hid (⟨thru k1 k2, a1.below k2, z2, by omega⟩ : Below w.heap.size w W2 ∧ AtM W2 b0 A n c A2 n2 c2 m ∧ Z6 47 W2 b1 ∧ w.heap.size ≤ b1)
  clear k1 a1 k2 z2 s1 hb0 hb1
  have c5 := S2.out.2.1.2.2.2.2.2
  go_upto_region 3 with fail
  clear c5 hp
  have HA := Lib.hid (fun w' (j : Below W2.heap.size W2 w') => S2.out.2.1.below j)
  have HB := Lib.hid (fun w' (j : Below W2.heap.size W2 w') => thru S2.out.1 j)
  refine Hold.wp_region_hold [.val ((Mv A n c A2 n2 c2 m)), .val (.agg #[.int .i64 ml, .int .i64 m.top, .int .i64 mr, .int .i64 mb]), .val (.pointer (some ⟨b0, 5, none⟩)), .val (.slice A2 n2 c2), .val (.int .i64 (n2 : Int)), .val (.pointer (some ⟨b0, 5, none⟩)), .val (.slice A2 n2 c2), .val (.int .i64 wi), .val (.agg #[.int .i64 ml, .int .i64 m.top, .int .i64 mr, .int .i64 mb, .int .i64 (n2 : Int), .int .i64 wi])] (by kernel_rfl) (by kernel_rfl) (by kernel_rfl) ?_ ?_
  · simp only [Hold.fill, Hold.Leave.value]
    refine ⟨?_, ?_, ?_, ?_, ?_, ?_, ?_, ?_, ?_, trivial⟩
    · intro gg w' hw hk
      have q0 := (HA.out w' hw).1
      have q1 := (HA.out w' hw).2.1
      have q2 := (HA.out w' hw).2.2.1
      have q3 := (HA.out w' hw).2.2.2.1
      have q4 := (HA.out w' hw).2.2.2.2.1
      have q5 := (HA.out w' hw).2.2.2.2.2
      go_simp
      exact ⟨rfl, rfl⟩
    · intro gg w' hw hk
      go_simp
      exact Hold.stays_call (HBx.out w' (HB.out w' hw))
    · intro gg w' hw hk
      go_simp
      exact ⟨rfl, rfl⟩
    · intro gg w' hw hk
      have q := (HA.out w' hw).2.2.2.2.2
      go_simp
      exact ⟨rfl, rfl⟩
    · intro gg w' hw hk
      go_simp
      exact ⟨rfl, rfl⟩
    · intro gg w' hw hk
      go_simp
      exact ⟨rfl, rfl⟩
    · intro gg w' hw hk
      have q := (HA.out w' hw).2.2.2.2.2
      go_simp
      exact ⟨rfl, rfl⟩
    · intro gg w' hw hk
      go_simp
      exact Hold.stays_call (HWi.out w' (HB.out w' hw))
    · intro gg w' hw hk
      go_simp
      exact ⟨rfl, rfl⟩
  intro gg w3 k3 hgg
  clear hgg
  simp only [Hold.fill, Hold.Leave.value, List.length_cons, List.length_nil, List.drop_succ_cons, List.drop_zero]
  have S4 := Lib.hid (⟨HB.out _ k3, (k3.block b1 S2.out.2.2.1.lt).trans S2.out.2.2.1⟩ : Below w.heap.size w w3 ∧ Z6 47 w3 b1)
  clear k3 HA HB
  have hb2 := S2.out.2.2.2
  obtain ⟨z0, z1, z2, z3, z4, z5⟩ := S4.out.2.cells
  obtain ⟨f0, f1, f2, f3, f4, f5⟩ := S4.out.2.free
  go_simp
  go_wp2_with fail
  exact bodyPost_ret (v := .agg #[.int .i64 ml, .int .i64 m.top, .int .i64 mr, .int .i64 mb, .int .i64 (n2 : Int), .int .i64 wi]) (by simp [results, Try.results33, go_sem, z0, z1, z2, z3, z4, z5]) rfl ⟨rfl, ((((((((((((S4.out.1).setCell (p := ⟨b1, 0, none⟩) hb2 _)).setCell (p := ⟨b1, 1, none⟩) hb2 _)).setCell (p := ⟨b1, 2, none⟩) hb2 _)).setCell (p := ⟨b1, 3, none⟩) hb2 _)).setCell (p := ⟨b1, 4, none⟩) hb2 _)).setCell (p := ⟨b1, 5, none⟩) hb2 _)⟩

end Go.Proofs.Ytmgokpdeolnidaa.Line

/-! The contract of the document's end of a line. -/
namespace Go.Proofs.Ytmgokpdeolnidaa.Line
open Go.RowKit Go.Sort Go.Proofs.Ytmgokpdeolnidaa.Rect Go.Proofs.Ytmgokpdeolnidaa.More Go.Proofs.Ytmgokpdeolnidaa.Shelf Go.Proofs.Ytmgokpdeolnidaa.Space Go.Proofs.Ytmgokpdeolnidaa.Place
set_option linter.unusedVariables false
set_option linter.unusedSimpArgs false

/-- A block that is a maker. -/
def Mb (w : World) (b : Nat) (A : Option Addr) (n c : Nat) (A2 : Option Addr) (n2 c2 : Nat) (m : Mk) : Prop := w.heap[b]? = some (.cells #[.slice A n c, .int .i64 m.f, .int .i64 m.t, .int .i64 m.y, .int .i64 m.top, .slice A2 n2 c2] 37)
abbrev zeroM : Mk := ⟨[], 0, 0, 0, 0, []⟩

/-- The bottom of a box that a call answered. -/
theorem idx3 (a b c d : Int) (w : World) : (Instr.index 45 (.agg #[.int .i64 a, .int .i64 b, .int .i64 c, .int .i64 d]) (.int .i64 3)).run Try.prog w = .ok (.int .i64 d) w := by kernel_rfl

section
variable {A A2 : Option Addr} {n c n2 c2 : Nat} {m : Mk} {w w' : World} {b : Nat}
theorem Mb.at' (h : Mb w b A n c A2 n2 c2 m) : AtM w b A n c A2 n2 c2 m := by
  unfold Mb at h
  refine ⟨?_, ?_, ?_, ?_, ?_, ?_⟩ <;> simp [World.cell?, h]
theorem Mb.free (h : Mb w b A n c A2 n2 c2 m) : w.frozen? ⟨b, 0, none⟩ = false ∧ w.frozen? ⟨b, 1, none⟩ = false ∧ w.frozen? ⟨b, 2, none⟩ = false ∧ w.frozen? ⟨b, 3, none⟩ = false ∧ w.frozen? ⟨b, 4, none⟩ = false ∧ w.frozen? ⟨b, 5, none⟩ = false := by
  unfold Mb at h
  refine ⟨?_, ?_, ?_, ?_, ?_, ?_⟩ <;> simp [World.frozen?, h]
theorem Mb.lt (h : Mb w b A n c A2 n2 c2 m) : b < w.heap.size := lt_of_block h
theorem Mb.below (h : Mb w b A n c A2 n2 c2 m) (k : Below w.heap.size w w') : Mb w' b A n c A2 n2 c2 m := (k.block b (lt_of_block h)).trans h
theorem Mb.other {b' o : Nat} {v : Value} (h : Mb w b A n c A2 n2 c2 m) (hne : b ≠ b') : Mb (w.setCell ⟨b', o, none⟩ v) b A n c A2 n2 c2 m := (Below.heap_setCell _ _ _ _ hne).trans h
theorem Mb.set3 (h : Mb w b A n c A2 n2 c2 m) (v : Int) : Mb (w.setCell ⟨b, 3, none⟩ (.int .i64 v)) b A n c A2 n2 c2 { m with y := v } := by
  unfold Mb at *
  simp [World.setCell, Array.getElem?_modify, h]
theorem Mb.set4 (h : Mb w b A n c A2 n2 c2 m) (v : Int) : Mb (w.setCell ⟨b, 4, none⟩ (.int .i64 v)) b A n c A2 n2 c2 { m with top := v } := by
  unfold Mb at *
  simp [World.setCell, Array.getElem?_modify, h]
theorem Mb.set5 (h : Mb w b A n c A2 n2 c2 m) (A3 : Option Addr) (n3 c3 : Nat) (zs : List Sz) : Mb (w.setCell ⟨b, 5, none⟩ (.slice A3 n3 c3)) b A n c A3 n3 c3 { m with az := zs } := by
  unfold Mb at *
  simp [World.setCell, Array.getElem?_modify, h]
end

set_option maxRecDepth 100000 in
set_option maxHeartbeats 1000000 in
theorem refend_no (A : Option Addr) (n c : Nat) (A2 : Option Addr) (n2 c2 : Nat) (m : Mk) (w : World) (h : MkIn w A n c A2 n2 c2 m) (hm : m.az = []) :
    Calls Try.prog 34 #[Mv A n c A2 n2 c2 m] w fun e w' => e = .returned (Mv A n c A2 n2 c2 m) ∧ Below w.heap.size w w' := by
  have h2 : n2 = 0 := by rw [h.hn2, hm]; rfl
  subst h2
  clear h hm
  go_enter Try.func34, Try.ntmps34
  go_upto_region 1 with fail
  generalize hW1 : World.alloc w _ = W1
  obtain ⟨b0, hb0⟩ : ∃ b0, w.heap.size = b0 := ⟨_, rfl⟩
  have k1 : Below w.heap.size w W1 := by rw [← hW1]; exact ba1 _ _
  have s1 : W1.heap.size = b0 + 1 := by rw [← hW1, ← hb0]; simp
  have a1 : Mb W1 b0 A n c A2 0 c2 m := by rw [← hW1, ← hb0]; exact heap_alloc_new w _
  clear hW1
  generalize hW2 : World.alloc W1 _ = W2
  have k2 : Below W1.heap.size W1 W2 := by rw [← hW2]; exact ba1 _ _
  have z2 : Mb W2 (b0 + 1) none 0 0 none 0 0 zeroM := by rw [← hW2, ← s1]; exact heap_alloc_new W1 _
  clear hW2
  rw [hb0]
  obtain ⟨b1, hb1⟩ : ∃ b1, b0 + 1 = b1 := ⟨_, rfl⟩
  rw [hb1] at s1 z2
  rw [hb1]
  have S2 := Lib.hid (⟨thru k1 k2, a1.below k2, z2, by omega⟩ : Below w.heap.size w W2 ∧ Mb W2 b0 A n c A2 0 c2 m ∧ Mb W2 b1 none 0 0 none 0 0 zeroM ∧ w.heap.size ≤ b0 ∧ w.heap.size ≤ b1 ∧ b1 ≠ b0)
  clear k1 a1 k2 z2 s1 hb0 hb1
  obtain ⟨c0, c1, c2', c3, c4, c5⟩ := S2.out.2.1.at'
  obtain ⟨z0, z1, z2, z3, z4, z5⟩ := S2.out.2.2.1.at'
  obtain ⟨f0, f1, f2, f3, f4, f5⟩ := S2.out.2.2.1.free
  have hb2 := S2.out.2.2.2.2.1
  go_wp2_with fail
  exact bodyPost_ret (v := Mv A n c A2 0 c2 m) (by simp [results, Try.results34, go_sem, z0, z1, z2, z3, z4, z5]) rfl ⟨rfl, ((((((((((((S2.out.1).setCell (p := ⟨b1, 0, none⟩) hb2 _)).setCell (p := ⟨b1, 1, none⟩) hb2 _)).setCell (p := ⟨b1, 2, none⟩) hb2 _)).setCell (p := ⟨b1, 3, none⟩) hb2 _)).setCell (p := ⟨b1, 4, none⟩) hb2 _)).setCell (p := ⟨b1, 5, none⟩) hb2 _)⟩

set_option maxRecDepth 100000 in
set_option maxHeartbeats 1000000 in
theorem refend_some (A : Option Addr) (n c : Nat) (A2 : Option Addr) (n2 c2 : Nat) (m : Mk) (w : World) (h : MkIn w A n c A2 n2 c2 m) (hm : m.az ≠ []) :
    Calls Try.prog 34 #[Mv A n c A2 n2 c2 m] w fun e w' => e = .returned (Mv A n c none 0 0 m.fin) ∧ Below w.heap.size w w' := by
  have HBx := Lib.hid (fun w1 (k : Below w.heap.size w w1) => refbox_any A n c A2 n2 c2 m w1 (h.thru k))
  have hp : (0 : Int) < (n2 : Int) := by have := List.length_pos_iff.2 hm; have := h.hn2; omega
  rw [fin_some hm]
  generalize m.l = ml at *
  generalize m.r = mr at *
  generalize m.b = mb at *
  clear h hm
  go_enter Try.func34, Try.ntmps34
  go_upto_region 1 with fail
  generalize hW1 : World.alloc w _ = W1
  obtain ⟨b0, hb0⟩ : ∃ b0, w.heap.size = b0 := ⟨_, rfl⟩
  have k1 : Below w.heap.size w W1 := by rw [← hW1]; exact ba1 _ _
  have s1 : W1.heap.size = b0 + 1 := by rw [← hW1, ← hb0]; simp
  have a1 : Mb W1 b0 A n c A2 n2 c2 m := by rw [← hW1, ← hb0]; exact heap_alloc_new w _
  clear hW1
  generalize hW2 : World.alloc W1 _ = W2
  have k2 : Below W1.heap.size W1 W2 := by rw [← hW2]; exact ba1 _ _
  have z2 : Mb W2 (b0 + 1) none 0 0 none 0 0 zeroM := by rw [← hW2, ← s1]; exact heap_alloc_new W1 _
  clear hW2
  rw [hb0]
  obtain ⟨b1, hb1⟩ : ∃ b1, b0 + 1 = b1 := ⟨_, rfl⟩
  rw [hb1] at s1 z2
  rw [hb1]
  have S2 := Lib.hid (⟨thru k1 k2, a1.below k2, z2, by omega⟩ : Below w.heap.size w W2 ∧ Mb W2 b0 A n c A2 n2 c2 m ∧ Mb W2 b1 none 0 0 none 0 0 zeroM ∧ w.heap.size ≤ b0 ∧ w.heap.size ≤ b1 ∧ b1 ≠ b0)
  clear k1 a1 k2 z2 s1 hb0 hb1
  obtain ⟨c0, c1, c2', c3, c4, c5⟩ := S2.out.2.1.at'
  go_upto_region 2 with fail
  have hne := S2.out.2.2.2.2.2
  have hix := idx3 ml m.top mr mb
  have hb0 := S2.out.2.2.2.1
  have hb1 := S2.out.2.2.2.2.1
  go_upto_region 4 with (first
    | (go_at_call 51; refine (HBx.out _ S2.out.1).mono ?_; rintro e w3 ⟨rfl, k3⟩; have S3 := Lib.hid (⟨thru S2.out.1 k3, S2.out.2.1.below k3, S2.out.2.2.1.below k3⟩ : Below w.heap.size w w3 ∧ Mb w3 b0 A n c A2 n2 c2 m ∧ Mb w3 b1 none 0 0 none 0 0 zeroM); clear c0 c1 c2' c3 c4 c5; obtain ⟨c0, c1, c2', c3, c4, c5⟩ := S3.out.2.1.at'; obtain ⟨g0, g1, g2, g3, g4, g5⟩ := S3.out.2.1.free; clear k3))
  clear c0 c1 c2' c3 c4 c5 g0 g1 g2 g3 g4 g5
  have v3 := (S3.out.2.1.set3 mb).set5 none 0 0 []
  have v4 := (S3.out.2.2.other (o := 3) (v := .int .i64 mb) hne).other (o := 5) (v := .slice none 0 0) hne
  have kV := (S3.out.1.setCell (p := ⟨b0, 3, none⟩) hb0 (.int .i64 mb)).setCell (p := ⟨b0, 5, none⟩) hb0 (.slice none 0 0)
  generalize hV : (w3.setCell ⟨b0, 3, none⟩ (.int .i64 mb)).setCell ⟨b0, 5, none⟩ (.slice none 0 0) = V at *
  clear hV
  obtain ⟨c0, c1, c2', c3, c4, c5⟩ := v3.at'
  obtain ⟨z0, z1, z2, z3, z4, z5⟩ := v4.at'
  obtain ⟨f0, f1, f2, f3, f4, f5⟩ := v4.free
  have KV := Lib.hid kV
  clear v3 v4 kV
  have hb2 := hb1
  go_wp2_with fail
  exact bodyPost_ret (v := Mv A n c none 0 0 { m with y := mb, az := [] }) (by simp [results, Try.results34, go_sem, z0, z1, z2, z3, z4, z5]) rfl ⟨rfl, ((((((((((((KV.out).setCell (p := ⟨b1, 0, none⟩) hb2 _)).setCell (p := ⟨b1, 1, none⟩) hb2 _)).setCell (p := ⟨b1, 2, none⟩) hb2 _)).setCell (p := ⟨b1, 3, none⟩) hb2 _)).setCell (p := ⟨b1, 4, none⟩) hb2 _)).setCell (p := ⟨b1, 5, none⟩) hb2 _)⟩

end Go.Proofs.Ytmgokpdeolnidaa.Line

/-! The program's own builder of lines as it lies in memory; what is free of its columns, a line's box, a line with one atom more. -/
namespace Go.Proofs.Ytmgokpdeolnidaa.Line
open Go.RowKit Go.Sort Go.Proofs.Ytmgokpdeolnidaa.Rect Go.Proofs.Ytmgokpdeolnidaa.More Go.Proofs.Ytmgokpdeolnidaa.Shelf Go.Proofs.Ytmgokpdeolnidaa.Space Go.Proofs.Ytmgokpdeolnidaa.Place
set_option linter.unusedVariables false
set_option linter.unusedSimpArgs false

/-- A line as six numbers. -/
structure Ln where
  l : Int
  t : Int
  r : Int
  b : Int
  a : Int
  w : Int
abbrev zeroLn : Ln := ⟨0, 0, 0, 0, 0, 0⟩
abbrev Ln.v (x : Ln) : Value := .agg #[.int .i64 x.l, .int .i64 x.t, .int .i64 x.r, .int .i64 x.b, .int .i64 x.a, .int .i64 x.w]
abbrev lncells (x : Ln) : Array Value := #[.int .i64 x.l, .int .i64 x.t, .int .i64 x.r, .int .i64 x.b, .int .i64 x.a, .int .i64 x.w]
/-- What a builder's own block holds. -/
abbrev bldr (p : Addr) (f t y : Int) (x : Ln) : List Value := [.pointer (some p), .int .i64 f, .int .i64 t, .int .i64 y, .int .i64 x.l, .int .i64 x.t, .int .i64 x.r, .int .i64 x.b, .int .i64 x.a, .int .i64 x.w]
def BAt (w : World) (b : Nat) (p : Addr) (f t y : Int) (x : Ln) : Prop :=
  w.cell? ⟨b, 0, none⟩ = some (.pointer (some p)) ∧ w.cell? ⟨b, 1, none⟩ = some (.int .i64 f) ∧ w.cell? ⟨b, 2, none⟩ = some (.int .i64 t) ∧ w.cell? ⟨b, 3, none⟩ = some (.int .i64 y) ∧
  w.cell? ⟨b, 4, none⟩ = some (.int .i64 x.l) ∧ w.cell? ⟨b, 5, none⟩ = some (.int .i64 x.t) ∧ w.cell? ⟨b, 6, none⟩ = some (.int .i64 x.r) ∧ w.cell? ⟨b, 7, none⟩ = some (.int .i64 x.b) ∧ w.cell? ⟨b, 8, none⟩ = some (.int .i64 x.a) ∧ w.cell? ⟨b, 9, none⟩ = some (.int .i64 x.w)
theorem bat_of {w : World} {b : Nat} {p : Addr} {f t y : Int} {x : Ln} (h : RowAt w b (bldr p f t y x)) : BAt w b p f t y x :=
  ⟨h.at' 0, h.at' 1, h.at' 2, h.at' 3, h.at' 4, h.at' 5, h.at' 6, h.at' 7, h.at' 8, h.at' 9⟩
/-- A line in six cells. -/
def LAt (w : World) (b : Nat) (x : Ln) : Prop :=
  w.cell? ⟨b, 0, none⟩ = some (.int .i64 x.l) ∧ w.cell? ⟨b, 1, none⟩ = some (.int .i64 x.t) ∧ w.cell? ⟨b, 2, none⟩ = some (.int .i64 x.r) ∧ w.cell? ⟨b, 3, none⟩ = some (.int .i64 x.b) ∧ w.cell? ⟨b, 4, none⟩ = some (.int .i64 x.a) ∧ w.cell? ⟨b, 5, none⟩ = some (.int .i64 x.w)
abbrev lnrow (x : Ln) : List Value := [.int .i64 x.l, .int .i64 x.t, .int .i64 x.r, .int .i64 x.b, .int .i64 x.a, .int .i64 x.w]
theorem lat_of {w : World} {b : Nat} {x : Ln} (h : RowAt w b (lnrow x)) : LAt w b x := ⟨h.at' 0, h.at' 1, h.at' 2, h.at' 3, h.at' 4, h.at' 5⟩
/-- Two numbers in two cells. -/
theorem two_of {w : World} {b : Nat} {x y : Int} (h : RowAt w b [.int .i64 x, .int .i64 y]) : w.cell? ⟨b, 0, none⟩ = some (.int .i64 x) ∧ w.cell? ⟨b, 1, none⟩ = some (.int .i64 y) ∧ w.frozen? ⟨b, 0, none⟩ = false ∧ w.frozen? ⟨b, 1, none⟩ = false := ⟨h.at' 0, h.at' 1, h.frz 0, h.frz 1⟩
abbrev two (x y : Int) : List Value := [.int .i64 x, .int .i64 y]
theorem rowAt_of {w : World} {b : Nat} {xs : List Value} {T : TypeId} (h : w.heap[b]? = some (.cells xs.toArray T (0, 0))) : RowAt w b xs := by
  refine ⟨fun o => ?_, fun o => frozen_of_row w b o _ _ h⟩
  rw [cell_of_row w b o _ _ _ h]
  simp

theorem but_one (w : World) (b o : Nat) (v : Value) : But (fun k => k = b) w (w.setCell ⟨b, o, none⟩ v) := But.set (S := fun k => k = b) b o v rfl
theorem but_wide {w w' : World} {F G : Nat → Prop} (h : But F w w') (hg : ∀ k, F k → G k) : But G w w' := ⟨h.os, h.tape, h.output, h.size, fun k hk hs => h.block k hk (fun q => hs (hg k q))⟩
theorem but_onto {w w' : World} {b : Nat} (h : But (fun k => k = b) w w') (o : Nat) (v : Value) : But (fun k => k = b) w (w'.setCell ⟨b, o, none⟩ v) := h.trans (but_one w' b o v) (fun _ _ h => h)
theorem but_six {w w' : World} {b : Nat} (h : But (fun k => k = b) w w') (o1 o2 o3 o4 o5 o6 : Nat) (v1 v2 v3 v4 v5 v6 : Value) : But (fun k => k = b) w ((((((w'.setCell ⟨b, o1, none⟩ v1).setCell ⟨b, o2, none⟩ v2).setCell ⟨b, o3, none⟩ v3).setCell ⟨b, o4, none⟩ v4).setCell ⟨b, o5, none⟩ v5).setCell ⟨b, o6, none⟩ v6) :=
  but_onto (but_onto (but_onto (but_onto (but_onto (but_onto h _ _) _ _) _ _) _ _) _ _) _ _

set_option maxHeartbeats 400000 in
theorem llen_is (a b d : Int) (hd : IntKind.i64.wrap (b - a) = d) (w : World) :
    Calls Try.prog 21 #[.agg #[.int .i64 a, .int .i64 b]] w fun e w' => e = .returned (.int .i64 d) ∧ Below w.heap.size w w' := by
  go_enter Try.func21, Try.ntmps21
  go_wp2_with fail
  go_ret
  exact ⟨rfl, ba1 _ _⟩

section
variable {S : World → (Nat → Prop) → Addr → List Fl → Prop}

set_option maxRecDepth 100000 in
set_option maxHeartbeats 1000000 in
theorem lfree_any (hO : SpaceOk S) (w : World) (F : Nat → Prop) (p : Addr) (fs : List Fl) (b : Nat) (f t y : Int) (x : Ln) (yy h : Int) (hs : S w F p fs) (h49 : fs.all near49 = true) (hb : RowAt w b (bldr p f t y x)) (hy : -4503599627370496 ≤ yy ∧ yy ≤ 4503599627370496) (hh : h ≤ 4503599627370496) :
    Calls Try.prog 56 #[.pointer (some ⟨b, 0, none⟩), .int .i64 yy, .int .i64 h] w fun e w' => e = .returned (.agg #[.int .i64 (freeL fs f yy h), .int .i64 (freeR fs t yy h)]) ∧ Below w.heap.size w w' := by
  have HRo := Lib.hid (fun w1 => hO.rows yy h w1 ⟨by omega, by omega⟩ (by omega))
  have hhz : highZ h ≤ 4503599627370496 := by unfold highZ; split <;> omega
  have HFr := Lib.hid (fun w1 (k : S w1 F p fs) => hO.free w1 F p fs f t yy (yy + highZ h) k (near49_near h49) (by omega) (by omega))
  rw [show max f (bandL fs yy (yy + highZ h)) = freeL fs f yy h from rfl, show min t (bandR fs yy (yy + highZ h)) = freeR fs t yy h from rfl] at HFr
  generalize freeL fs f yy h = L at *
  generalize freeR fs t yy h = R at *
  generalize yy + highZ h = yh at *
  have HS := Lib.hid hs
  have HB := Lib.hid hb
  clear hs h49 hb hy hh hhz
  go_enter Try.func56, Try.ntmps56
  go_upto_region 1 with fail
  generalize hW1 : World.alloc w _ = W
  obtain ⟨b0, hb0⟩ : ∃ b0, w.heap.size = b0 := ⟨_, rfl⟩
  have k1 : Below w.heap.size w W := by rw [← hW1]; exact ba1 _ _
  have z1 : RowAt W b0 (two 0 0) := by rw [← hW1, ← hb0]; exact RowAt.new w _ _
  have S1 := Lib.hid (⟨k1, z1, HB.out.below (by simp) k1, thruS hO HS.out k1⟩ : Below w.heap.size w W ∧ RowAt W b0 (two 0 0) ∧ RowAt W b (bldr p f t y x) ∧ S W F p fs)
  have hb0' : w.heap.size ≤ b0 := by omega
  rw [hb0]
  clear hW1 hb0 k1 z1 HS HB
  have HA := Lib.hid (fun w' (j : Below W.heap.size W w') => bat_of (S1.out.2.2.1.below (by simp) j))
  refine Hold.wp_region_hold [.val (.pointer (some ⟨b, 0, none⟩)), .val (.pointer (some ⟨b, 0, none⟩)), .val (.pointer (some ⟨b, 0, none⟩)), .val (.pointer (some p)), .val (.pointer (some ⟨b, 0, none⟩)), .val (.pointer (some ⟨b, 0, none⟩)), .val (.pointer (some ⟨b, 1, none⟩)), .val (.agg #[.int .i64 f, .int .i64 t]), .val (.int .i64 yy), .val (.int .i64 h), .val (.agg #[.int .i64 yy, .int .i64 yh]), .val (.agg #[.int .i64 L, .int .i64 R])] (by kernel_rfl) (by kernel_rfl) (by kernel_rfl) ?_ ?_
  · simp only [Hold.fill, Hold.Leave.value]
    refine ⟨?_, ?_, ?_, ?_, ?_, ?_, ?_, ?_, ?_, ?_, ?_, ?_, trivial⟩
    · intro gg w' hw hk
      go_simp
      exact ⟨rfl, rfl⟩
    · intro gg w' hw hk
      go_simp
      exact ⟨rfl, rfl⟩
    · intro gg w' hw hk
      go_simp
      exact ⟨rfl, rfl⟩
    · intro gg w' hw hk
      have q := (HA.out w' hw).1
      go_simp
      exact ⟨rfl, rfl⟩
    · intro gg w' hw hk
      go_simp
      exact ⟨rfl, rfl⟩
    · intro gg w' hw hk
      go_simp
      exact ⟨rfl, rfl⟩
    · intro gg w' hw hk
      go_simp
      exact ⟨rfl, rfl⟩
    · intro gg w' hw hk
      have q1 := (HA.out w' hw).2.1
      have q2 := (HA.out w' hw).2.2.1
      go_simp
      exact ⟨rfl, rfl⟩
    · intro gg w' hw hk
      go_simp
      exact ⟨rfl, rfl⟩
    · intro gg w' hw hk
      go_simp
      exact ⟨rfl, rfl⟩
    · intro gg w' hw hk
      go_simp
      exact Hold.stays_call (HRo.out w')
    · intro gg w' hw hk
      go_simp
      exact Hold.stays_call (HFr.out w' (thruS hO S1.out.2.2.2 hw))
  intro gg w2 k2 hgg
  clear hgg
  simp only [Hold.fill, Hold.Leave.value, List.length_cons, List.length_nil, List.drop_succ_cons, List.drop_zero]
  have K2 := Lib.hid (thru S1.out.1 k2)
  obtain ⟨q0, q1, q2, q3⟩ := two_of (S1.out.2.1.below (by simp) k2)
  clear k2 HA HFr HRo S1
  go_simp
  go_wp2_with fail
  exact bodyPost_ret (v := .agg #[.int .i64 L, .int .i64 R]) (by simp [results, Try.results56, go_sem, q0, q1]) rfl ⟨rfl, ((K2.out.setCell (p := ⟨b0, 0, none⟩) hb0' _).setCell (p := ⟨b0, 1, none⟩) hb0' _)⟩

set_option maxRecDepth 100000 in
set_option maxHeartbeats 1000000 in
theorem lbox_any (hO : SpaceOk S) (w : World) (F : Nat → Prop) (p : Addr) (fs : List Fl) (b : Nat) (f t y : Int) (x : Ln) (a z h : Int) (hd : z - a = h) (hs : S w F p fs) (h49 : fs.all near49 = true) (hb : RowAt w b (bldr p f t y x)) (hy : -4503599627370496 ≤ a ∧ a ≤ 4503599627370496) (hh : 0 ≤ h ∧ h ≤ 4503599627370496) :
    Calls Try.prog 43 #[.pointer (some ⟨b, 0, none⟩), .agg #[.int .i64 a, .int .i64 z]] w fun e w' => e = .returned (.agg #[.int .i64 (freeL fs f a h), .int .i64 a, .int .i64 (freeR fs t a h), .int .i64 z]) ∧ Below w.heap.size w w' := by
  have HLe := Lib.hid (fun w1 => llen_is a z h (by rw [IntWalk.i64_in _ (by omega)]; exact hd) w1)
  have HFr := Lib.hid (fun w1 (k : S w1 F p fs) (kb : RowAt w1 b (bldr p f t y x)) => lfree_any hO w1 F p fs b f t y x a h k h49 kb hy hh.2)
  generalize freeL fs f a h = L at *
  generalize freeR fs t a h = R at *
  have HS := Lib.hid hs
  have HB := Lib.hid hb
  clear hs h49 hb hy hh hd
  go_enter Try.func43, Try.ntmps43
  go_upto_region 1 with fail
  generalize hW1 : World.alloc w _ = W1
  obtain ⟨b0, hb0⟩ : ∃ b0, w.heap.size = b0 := ⟨_, rfl⟩
  have k1 : Below w.heap.size w W1 := by rw [← hW1]; exact ba1 _ _
  have s1 : W1.heap.size = b0 + 1 := by rw [← hW1, ← hb0]; simp
  have z1 : RowAt W1 b0 (two a z) := by rw [← hW1, ← hb0]; exact RowAt.new w _ _
  clear hW1
  generalize hW2 : World.alloc W1 _ = W
  have k2 : Below W1.heap.size W1 W := by rw [← hW2]; exact ba1 _ _
  have z2 : W.heap[b0 + 1]? = some (.cells #[.int .i64 0, .int .i64 0, .int .i64 0, .int .i64 0] 41) := by rw [← hW2, ← s1]; exact heap_alloc_new W1 _
  clear hW2
  rw [hb0]
  obtain ⟨b1, hb1⟩ : ∃ b1, b0 + 1 = b1 := ⟨_, rfl⟩
  rw [hb1] at s1 z2
  rw [hb1]
  have S1 := Lib.hid (⟨thru k1 k2, z1.below (by simp) k2, z2, HB.out.below (by simp) (thru k1 k2), thruS hO HS.out (thru k1 k2)⟩ : Below w.heap.size w W ∧ RowAt W b0 (two a z) ∧ W.heap[b1]? = some (.cells #[.int .i64 0, .int .i64 0, .int .i64 0, .int .i64 0] 41) ∧ RowAt W b (bldr p f t y x) ∧ S W F p fs)
  have hb2 : w.heap.size ≤ b1 := by omega
  clear hb0 hb1 k1 z1 k2 z2 s1 HS HB
  have HT := Lib.hid (fun w' (j : Below W.heap.size W w') => two_of (S1.out.2.1.below (by simp) j))
  refine Hold.wp_region_hold [.val (.pointer (some ⟨b, 0, none⟩)), .val (.pointer (some ⟨b0, 0, none⟩)), .val (.int .i64 a), .val (.agg #[.int .i64 a, .int .i64 z]), .val (.int .i64 h), .val (.agg #[.int .i64 L, .int .i64 R]), .val (.agg #[.int .i64 a, .int .i64 z]), .val (.agg #[.int .i64 L, .int .i64 a, .int .i64 R, .int .i64 z])] (by kernel_rfl) (by kernel_rfl) (by kernel_rfl) ?_ ?_
  · simp only [Hold.fill, Hold.Leave.value]
    refine ⟨?_, ?_, ?_, ?_, ?_, ?_, ?_, ?_, trivial⟩
    · intro gg w' hw hk
      go_simp
      exact ⟨rfl, rfl⟩
    · intro gg w' hw hk
      go_simp
      exact ⟨rfl, rfl⟩
    · intro gg w' hw hk
      have q := (HT.out w' hw).1
      go_simp
      exact ⟨rfl, rfl⟩
    · intro gg w' hw hk
      have q0 := (HT.out w' hw).1
      have q1 := (HT.out w' hw).2.1
      go_simp
      exact ⟨rfl, rfl⟩
    · intro gg w' hw hk
      go_simp
      exact Hold.stays_call (HLe.out w')
    · intro gg w' hw hk
      go_simp
      exact Hold.stays_call (HFr.out w' (thruS hO S1.out.2.2.2.2 hw) (S1.out.2.2.2.1.below (by simp) hw))
    · intro gg w' hw hk
      have q0 := (HT.out w' hw).1
      have q1 := (HT.out w' hw).2.1
      go_simp
      exact ⟨rfl, rfl⟩
    · intro gg w' hw hk
      go_simp
      exact Hold.stays_call (rof_any _ _ _ _ w')
  intro gg w2 k2 hgg
  clear hgg
  simp only [Hold.fill, Hold.Leave.value, List.length_cons, List.length_nil, List.drop_succ_cons, List.drop_zero]
  have K2 := Lib.hid (thru S1.out.1 k2)
  have r := (k2.block b1 (lt_of_block S1.out.2.2.1)).trans S1.out.2.2.1
  obtain ⟨r0, r1, r2, r3⟩ := R4.of_block r
  obtain ⟨q0, q1, q2, q3⟩ := free4 r
  clear k2 r HT HFr HLe S1
  go_simp
  go_wp2_with fail
  exact bodyPost_ret (v := .agg #[.int .i64 L, .int .i64 a, .int .i64 R, .int .i64 z]) (by simp [results, Try.results43, go_sem, r0, r1, r2, r3]) rfl ⟨rfl, ((((K2.out.setCell (p := ⟨b1, 0, none⟩) hb2 _).setCell (p := ⟨b1, 1, none⟩) hb2 _).setCell (p := ⟨b1, 2, none⟩) hb2 _).setCell (p := ⟨b1, 3, none⟩) hb2 _)⟩

/-- A line with one atom more. -/
def longLn (fs : List Fl) (f t : Int) (x : Ln) (z : Sz) : Ln := ⟨freeL fs f x.t (max x.b (x.t + z.ht) - x.t), x.t, freeR fs t x.t (max x.b (x.t + z.ht) - x.t), max x.b (x.t + z.ht), x.a + 1, x.w + z.wd⟩

abbrev zcells (z : Sz) : List Value := [.int .i64 z.wd, .int .i64 z.ht]
theorem lnZero_block {w : World} {b : Nat} (h : w.heap[b]? = some (.cells #[.int .i64 0, .int .i64 0, .int .i64 0, .int .i64 0, .int .i64 0, .int .i64 0] 43)) : RowAt w b (lnrow zeroLn) := rowAt_of h

set_option maxRecDepth 100000 in
set_option maxHeartbeats 2000000 in
theorem llonger_any (hO : SpaceOk S) (w : World) (F : Nat → Prop) (p : Addr) (fs : List Fl) (b : Nat) (f t y : Int) (x0 : Ln) (x : Ln) (z : Sz) (hs : S w F p fs) (h49 : fs.all near49 = true) (hb : RowAt w b (bldr p f t y x0)) (hz : RightS z) (hx1 : -1125899906842624 ≤ x.t ∧ x.t ≤ 1125899906842624) (hx2 : x.t ≤ x.b ∧ x.b ≤ x.t + 2147483648) (hx3 : 0 ≤ x.a ∧ x.a ≤ 1000000) (hx4 : 0 ≤ x.w ∧ x.w ≤ 1125899906842624) :
    Calls Try.prog 41 #[.pointer (some ⟨b, 0, none⟩), x.v, .agg #[.int .i64 z.wd, .int .i64 z.ht]] w fun e w' => e = .returned (longLn fs f t x z).v ∧ Below w.heap.size w w' := by
  obtain ⟨hz1, hz2, hz3, hz4⟩ := hz
  obtain ⟨bb, hbb⟩ : ∃ bb, max x.b (x.t + z.ht) = bb := ⟨_, rfl⟩
  obtain ⟨hh, hhh⟩ : ∃ hh, bb - x.t = hh := ⟨_, rfl⟩
  have HBo := Lib.hid (fun w1 (k : S w1 F p fs) (kb : RowAt w1 b (bldr p f t y x0)) => lbox_any hO w1 F p fs b f t y x0 x.t bb hh hhh k h49 kb ⟨by omega, by omega⟩ ⟨by omega, by omega⟩)
  have e1 : IntKind.i64.wrap (x.t + z.ht) = x.t + z.ht := IntWalk.i64_in _ (by omega)
  have e2 : IntKind.i64.wrap (x.a + 1) = x.a + 1 := IntWalk.i64_in _ (by omega)
  have e3 : IntKind.i64.wrap (x.w + z.wd) = x.w + z.wd := IntWalk.i64_in _ (by omega)
  have HE := Lib.hid (⟨e1, e2, e3, hbb⟩ : IntKind.i64.wrap (x.t + z.ht) = x.t + z.ht ∧ IntKind.i64.wrap (x.a + 1) = x.a + 1 ∧ IntKind.i64.wrap (x.w + z.wd) = x.w + z.wd ∧ max x.b (x.t + z.ht) = bb)
  unfold longLn
  rw [hbb, hhh]
  generalize freeL fs f x.t hh = L at *
  generalize freeR fs t x.t hh = R at *
  have HS := Lib.hid hs
  have HB := Lib.hid hb
  clear hs h49 hb hz1 hz2 hz3 hz4 hx1 hx2 hx3 hx4 hbb hhh e1 e2 e3
  go_enter Try.func41, Try.ntmps41
  go_upto_region 1 with fail
  generalize hW1 : World.alloc w _ = W1
  obtain ⟨b0, hb0⟩ : ∃ b0, w.heap.size = b0 := ⟨_, rfl⟩
  have k1 : Below w.heap.size w W1 := by rw [← hW1]; exact ba1 _ _
  have s1 : W1.heap.size = b0 + 1 := by rw [← hW1, ← hb0]; simp
  have z1 : RowAt W1 b0 (lnrow x) := by rw [← hW1, ← hb0]; exact RowAt.new w _ _
  clear hW1
  generalize hW2 : World.alloc W1 _ = W2
  have k2 : Below W1.heap.size W1 W2 := by rw [← hW2]; exact ba1 _ _
  have s2 : W2.heap.size = b0 + 1 + 1 := by rw [← hW2, ← s1]; simp
  have z2 : RowAt W2 (b0 + 1) (zcells z) := by rw [← hW2, ← s1]; exact RowAt.new W1 _ _
  clear hW2
  generalize hW3 : World.alloc W2 _ = W
  have k3 : Below W2.heap.size W2 W := by rw [← hW3]; exact ba1 _ _
  have z3 : RowAt W (b0 + 1 + 1) (lnrow zeroLn) := by rw [← hW3, ← s2]; exact RowAt.new W2 _ _
  clear hW3
  rw [hb0]
  obtain ⟨b1, hb1⟩ : ∃ b1, b0 + 1 = b1 := ⟨_, rfl⟩
  obtain ⟨b2, hb2⟩ : ∃ b2, b1 + 1 = b2 := ⟨_, rfl⟩
  rw [hb1] at s1 z2 s2 z3
  rw [hb1]
  rw [hb2] at s2 z3
  rw [hb2]
  have S1 := Lib.hid (⟨thru (thru k1 k2) k3, z1.below (by simp) (thru k2 k3), z2.below (by simp) k3, z3, HB.out.below (by simp) (thru (thru k1 k2) k3), thruS hO HS.out (thru (thru k1 k2) k3)⟩ : Below w.heap.size w W ∧ RowAt W b0 (lnrow x) ∧ RowAt W b1 (zcells z) ∧ RowAt W b2 (lnrow zeroLn) ∧ RowAt W b (bldr p f t y x0) ∧ S W F p fs)
  have g2 : w.heap.size ≤ b2 := by omega
  clear hb0 hb1 hb2 k1 z1 k2 z2 s1 s2 k3 z3 HS HB
  obtain ⟨c0, c1, c2, c3, c4, c5⟩ := lat_of S1.out.2.1
  go_upto_region 2 with (first
    | (go_at_call 44; refine (rows_any _ _ _ _ _).mono ?_; rintro e w1 ⟨rfl, k1⟩; have K1 := Lib.hid k1; clear k1))
  clear c0 c1 c2 c3 c4 c5
  generalize hW4 : World.alloc w1 _ = W4
  obtain ⟨b3, hb3⟩ : ∃ b3, w1.heap.size = b3 := ⟨_, rfl⟩
  have k4 : Below w1.heap.size w1 W4 := by rw [← hW4]; exact ba1 _ _
  have z4 : RowAt W4 b3 (two x.t x.b) := by rw [← hW4, ← hb3]; exact RowAt.new w1 _ _
  have k5 : Below W.heap.size W W4 := thru K1.out k4
  have g3 : W.heap.size ≤ b3 := by have := K1.out.size; omega
  rw [hb3]
  clear hW4 hb3 k4 K1
  obtain ⟨q0, q1, q2, q3⟩ := two_of z4
  obtain ⟨d0, d1, -, -⟩ := two_of (S1.out.2.2.1.below (by simp) k5)
  have e1 := HE.out.1
  go_cut [18] (fun v wx => v = .int .i64 bb ∧ wx = W4.setCell ⟨b3, 1, none⟩ (.int .i64 bb))
  case first => as_aux_lemma =>
    have hbb := HE.out.2.2.2
    rcases Int.lt_or_le x.b (x.t + z.ht) with hq | hq
    · obtain rfl : x.t + z.ht = bb := by omega
      go_wp2_with fail
      all_goals (go_meet; exact ⟨rfl, rfl⟩)
    · obtain rfl : x.b = bb := by omega
      go_wp2_with fail
      all_goals (go_meet; exact ⟨rfl, rfl⟩)
  case rest =>
  obtain ⟨rfl, rfl⟩ := hcut
  have z5 : RowAt (W4.setCell ⟨b3, 1, none⟩ (.int .i64 bb)) b3 (two x.t bb) := z4.set 1 _ (by simp)
  have k6 : Below W.heap.size W (W4.setCell ⟨b3, 1, none⟩ (.int .i64 bb)) := k5.setCell (p := ⟨b3, 1, none⟩) g3 _
  clear q0 q1 q2 q3 d0 d1 e1 z4
  generalize W4.setCell ⟨b3, 1, none⟩ (.int .i64 bb) = V at *
  have S2 := Lib.hid (⟨thru S1.out.1 k6, S1.out.2.1.below (by simp) k6, S1.out.2.2.1.below (by simp) k6, S1.out.2.2.2.1.below (by simp) k6, S1.out.2.2.2.2.1.below (by simp) k6, thruS hO S1.out.2.2.2.2.2 k6, z5⟩ : Below w.heap.size w V ∧ RowAt V b0 (lnrow x) ∧ RowAt V b1 (zcells z) ∧ RowAt V b2 (lnrow zeroLn) ∧ RowAt V b (bldr p f t y x0) ∧ S V F p fs ∧ RowAt V b3 (two x.t bb))
  clear S1 k5 k6 g3 z5
  go_upto_region 3 with fail
  have HX := Lib.hid (fun w' (j : Below V.heap.size V w') => lat_of (S2.out.2.1.below (by simp) j))
  have HZ := Lib.hid (fun w' (j : Below V.heap.size V w') => two_of (S2.out.2.2.1.below (by simp) j))
  have HT := Lib.hid (fun w' (j : Below V.heap.size V w') => two_of (S2.out.2.2.2.2.2.2.below (by simp) j))
  refine Hold.wp_region_hold [.val (.pointer (some ⟨b, 0, none⟩)), .val (.agg #[.int .i64 x.t, .int .i64 bb]), .val (.agg #[.int .i64 L, .int .i64 x.t, .int .i64 R, .int .i64 bb]), .val (.pointer (some ⟨b0, 4, none⟩)), .val (.int .i64 x.a), .val (.int .i64 (x.a + 1)), .val (.pointer (some ⟨b0, 5, none⟩)), .val (.int .i64 x.w), .val (.pointer (some ⟨b1, 0, none⟩)), .val (.int .i64 z.wd), .val (.int .i64 (x.w + z.wd)), .val (.agg #[.int .i64 L, .int .i64 x.t, .int .i64 R, .int .i64 bb, .int .i64 (x.a + 1), .int .i64 (x.w + z.wd)])] (by kernel_rfl) (by kernel_rfl) (by kernel_rfl) ?_ ?_
  · simp only [Hold.fill, Hold.Leave.value]
    refine ⟨?_, ?_, ?_, ?_, ?_, ?_, ?_, ?_, ?_, ?_, ?_, ?_, trivial⟩
    · intro gg w' hw hk
      go_simp
      exact ⟨rfl, rfl⟩
    · intro gg w' hw hk
      have q0 := (HT.out w' hw).1
      have q1 := (HT.out w' hw).2.1
      go_simp
      exact ⟨rfl, rfl⟩
    · intro gg w' hw hk
      go_simp
      exact Hold.stays_call (HBo.out w' (thruS hO S2.out.2.2.2.2.2.1 hw) (S2.out.2.2.2.2.1.below (by simp) hw))
    · intro gg w' hw hk
      go_simp
      exact ⟨rfl, rfl⟩
    · intro gg w' hw hk
      have q := (HX.out w' hw).2.2.2.2.1
      go_simp
      exact ⟨rfl, rfl⟩
    · intro gg w' hw hk
      have q := HE.out.2.1
      go_simp
      exact ⟨rfl, rfl⟩
    · intro gg w' hw hk
      go_simp
      exact ⟨rfl, rfl⟩
    · intro gg w' hw hk
      have q := (HX.out w' hw).2.2.2.2.2
      go_simp
      exact ⟨rfl, rfl⟩
    · intro gg w' hw hk
      go_simp
      exact ⟨rfl, rfl⟩
    · intro gg w' hw hk
      have q := (HZ.out w' hw).1
      go_simp
      exact ⟨rfl, rfl⟩
    · intro gg w' hw hk
      have q := HE.out.2.2.1
      go_simp
      exact ⟨rfl, rfl⟩
    · intro gg w' hw hk
      go_simp
      exact ⟨rfl, rfl⟩
  intro gg w2 k2 hgg
  clear hgg
  simp only [Hold.fill, Hold.Leave.value, List.length_cons, List.length_nil, List.drop_succ_cons, List.drop_zero]
  have K2 := Lib.hid (thru S2.out.1 k2)
  have r := S2.out.2.2.2.1.below (by simp) k2
  obtain ⟨r0, r1, r2, r3, r4, r5⟩ := lat_of r
  have f0 := r.frz 0
  have f1 := r.frz 1
  have f2 := r.frz 2
  have f3 := r.frz 3
  have f4 := r.frz 4
  have f5 := r.frz 5
  clear k2 r HT HX HZ HBo S2
  go_simp
  go_wp2_with fail
  exact bodyPost_ret (v := .agg #[.int .i64 L, .int .i64 x.t, .int .i64 R, .int .i64 bb, .int .i64 (x.a + 1), .int .i64 (x.w + z.wd)]) (by simp [results, Try.results41, go_sem, r0, r1, r2, r3, r4, r5]) rfl ⟨rfl, ((((((K2.out.setCell (p := ⟨b2, 0, none⟩) g2 _).setCell (p := ⟨b2, 1, none⟩) g2 _).setCell (p := ⟨b2, 2, none⟩) g2 _).setCell (p := ⟨b2, 3, none⟩) g2 _).setCell (p := ⟨b2, 4, none⟩) g2 _).setCell (p := ⟨b2, 5, none⟩) g2 _)⟩

end

end Go.Proofs.Ytmgokpdeolnidaa.Line

/-! The law's example. -/
namespace Go.Proofs.Ytmgokpdeolnidaa.Space
open Go.RowKit Go.Sort Go.Proofs.Ytmgokpdeolnidaa.Rect Go.Proofs.Ytmgokpdeolnidaa.More Go.Proofs.Ytmgokpdeolnidaa.Shelf
set_option linter.unusedVariables false

/-- The example's float. -/
def exP : Fl := ⟨1, 0, 2, 3, 5⟩

section
variable {S : World → (Nat → Prop) → Addr → List Fl → Prop}

theorem SpaceOk.thru (hO : SpaceOk S) {w w' : World} {F : Nat → Prop} {p : Addr} {fs : List Fl} (h : S w F p fs) (k : Below w.heap.size w w') : S w' F p fs :=
  hO.keep _ _ _ (fun _ => False) _ _ h (But.of_below k) (fun _ _ h => h)

end

end Go.Proofs.Ytmgokpdeolnidaa.Space

/-! The law of what a space tells. -/
namespace Go.Proofs.Ytmgokpdeolnidaa.Space
open Go.RowKit Go.Sort Go.Proofs.Ytmgokpdeolnidaa.Rect Go.Proofs.Ytmgokpdeolnidaa.More Go.Proofs.Ytmgokpdeolnidaa.Shelf
set_option linter.unusedVariables false

theorem eqRect_same (a b c d : Int) (w : World) : (Op.equalIn 10000 41 (.agg #[.int .i64 a, .int .i64 b, .int .i64 c, .int .i64 d]) (.agg #[.int .i64 a, .int .i64 b, .int .i64 c, .int .i64 d])).run Try.prog w = .ok true w := by
  have u3 := Try.underlying3
  have a3 := Try.isAgg3
  have z3 := Try.sizeOf3
  have hS : Try.prog.underlying 41 = some (.struct (Try.prog.fieldsOf 41)) := by kernel_rfl
  rw [show (10000 : Nat) = 9999 + 1 from rfl, run_equalIn_agg w 9999 41 _ _ hS (by kernel_rfl)]
  simp only [Program.fieldsOf, Try.underlying41]
  go_simp

section
variable {S : World → (Nat → Prop) → Addr → List Fl → Prop}

end

end Go.Proofs.Ytmgokpdeolnidaa.Space

/-! The law of what a space leaves free. -/
namespace Go.Proofs.Ytmgokpdeolnidaa.Space
open Go.RowKit Go.Sort Go.Proofs.Ytmgokpdeolnidaa.Rect Go.Proofs.Ytmgokpdeolnidaa.More Go.Proofs.Ytmgokpdeolnidaa.Shelf
set_option linter.unusedVariables false

theorem eqSpan_same (a b : Int) (w : World) : (Op.equalIn 10000 31 (.agg #[.int .i64 a, .int .i64 b]) (.agg #[.int .i64 a, .int .i64 b])).run Try.prog w = .ok true w := by
  have u3 := Try.underlying3
  have a3 := Try.isAgg3
  have z3 := Try.sizeOf3
  have hS : Try.prog.underlying 31 = some (.struct (Try.prog.fieldsOf 31)) := by kernel_rfl
  rw [show (10000 : Nat) = 9999 + 1 from rfl, run_equalIn_agg w 9999 31 _ _ hS (by kernel_rfl)]
  simp only [Program.fieldsOf, Try.underlying31]
  go_simp

section
variable {S : World → (Nat → Prop) → Addr → List Fl → Prop}

end

end Go.Proofs.Ytmgokpdeolnidaa.Space
