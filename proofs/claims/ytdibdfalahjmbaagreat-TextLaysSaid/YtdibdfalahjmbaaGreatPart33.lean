/- Texts of this proof that follow each other, in one file. -/
import Derived.Test.YtdibdfalahjmbaaGreatPart32
import Derived.Test.YtdibdfalahjmbaaGreatPart9
import Derived.Test.YtdibdfalahjmbaaGreatPart5
import Derived.ArgAppend
namespace Go.Proofs.YtdibdfalahjmbaaGreat.Line

open Go.RowKit Go.Sort Go.Proofs.YtdibdfalahjmbaaGreat.Rect Go.Proofs.YtdibdfalahjmbaaGreat.More Go.Proofs.YtdibdfalahjmbaaGreat.Shelf Go.Proofs.YtdibdfalahjmbaaGreat.Space Go.Proofs.YtdibdfalahjmbaaGreat.Place

set_option linter.unusedVariables false

set_option linter.unusedSimpArgs false

abbrev lineV (m : Mk) : Value := .agg #[.int .i64 m.l, .int .i64 m.top, .int .i64 m.r, .int .i64 m.b, .int .i64 (m.az.length : Int), .int .i64 (wideL m.az)]

def Z6 (T : TypeId) (w : World) (g : Nat) : Prop := w.heap[g]? = some (.cells #[.int .i64 0, .int .i64 0, .int .i64 0, .int .i64 0, .int .i64 0, .int .i64 0] T)

theorem Z6.cells {T : TypeId} {w : World} {g : Nat} (h : Z6 T w g) : w.cell? ⟨g, 0, none⟩ = some (.int .i64 0) ∧ w.cell? ⟨g, 1, none⟩ = some (.int .i64 0) ∧ w.cell? ⟨g, 2, none⟩ = some (.int .i64 0) ∧ w.cell? ⟨g, 3, none⟩ = some (.int .i64 0) ∧ w.cell? ⟨g, 4, none⟩ = some (.int .i64 0) ∧ w.cell? ⟨g, 5, none⟩ = some (.int .i64 0) := by
  unfold Z6 at h
  refine ⟨?_, ?_, ?_, ?_, ?_, ?_⟩ <;> simp [World.cell?, h]

theorem Z6.free {T : TypeId} {w : World} {g : Nat} (h : Z6 T w g) : w.frozen? ⟨g, 0, none⟩ = false ∧ w.frozen? ⟨g, 1, none⟩ = false ∧ w.frozen? ⟨g, 2, none⟩ = false ∧ w.frozen? ⟨g, 3, none⟩ = false ∧ w.frozen? ⟨g, 4, none⟩ = false ∧ w.frozen? ⟨g, 5, none⟩ = false := by
  unfold Z6 at h
  refine ⟨?_, ?_, ?_, ?_, ?_, ?_⟩ <;> simp [World.frozen?, h]

theorem Z6.lt {T : TypeId} {w : World} {g : Nat} (h : Z6 T w g) : g < w.heap.size := lt_of_block h

set_option maxRecDepth 100000 in
set_option maxHeartbeats 1000000 in
theorem refnow_some (A : Option Addr) (n c : Nat) (A2 : Option Addr) (n2 c2 : Nat) (m : Mk) (w : World) (h : MkIn w A n c A2 n2 c2 m) (hm : m.az ≠ []) :
    Calls Tryz.prog 24 #[Mv A n c A2 n2 c2 m] w fun e w' => e = .returned (lineV m) ∧ Below w.heap.size w w' := by
  have HBx := Lib.hid (fun w1 (k : Below w.heap.size w w1) => refbox_any A n c A2 n2 c2 m w1 (h.thru k))
  have HWi := Lib.hid (fun w1 (k : Below w.heap.size w w1) => refwide_any A2 n2 c2 m.az w1 h.hn2 h.hlen2 (h.hx2.thru k) h.ha)
  have hp : ¬ (n2 : Int) = 0 := by have := List.length_pos_iff.2 hm; have := h.hn2; omega
  have hl : (m.az.length : Int) = (n2 : Int) := by rw [h.hn2]
  unfold lineV
  rw [hl]
  generalize wideL m.az = wi at *
  generalize m.l = ml at *
  generalize m.r = mr at *
  generalize m.b = mb at *
  clear h hm hl
  go_enter Tryz.func24, Tryz.ntmps24
  go_upto_region 1 with fail
  generalize hW1 : World.alloc w _ = W1
  obtain ⟨b0, hb0⟩ : ∃ b0, w.heap.size = b0 := ⟨_, rfl⟩
  have k1 : Below w.heap.size w W1 := by rw [← hW1]; exact ba1 _ _
  have s1 : W1.heap.size = b0 + 1 := by rw [← hW1, ← hb0]; simp
  have a1 : AtM W1 b0 A n c A2 n2 c2 m := by rw [← hW1, ← hb0]; exact atM_boxed _ _
  clear hW1
  generalize hW2 : World.alloc W1 _ = W2
  have k2 : Below W1.heap.size W1 W2 := by rw [← hW2]; exact ba1 _ _
  have z2 : Z6 49 W2 (b0 + 1) := by rw [← hW2, ← s1]; exact heap_alloc_new W1 _
  clear hW2
  rw [hb0]
  obtain ⟨b1, hb1⟩ : ∃ b1, b0 + 1 = b1 := ⟨_, rfl⟩
  rw [hb1] at s1 z2
  rw [hb1]
  have S2 := Lib.hid (⟨thru k1 k2, a1.below k2, z2, by omega⟩ : Below w.heap.size w W2 ∧ AtM W2 b0 A n c A2 n2 c2 m ∧ Z6 49 W2 b1 ∧ w.heap.size ≤ b1)
  clear k1 a1 k2 z2 s1 hb0 hb1
  have c5 := S2.out.2.1.2.2.2.2.2
  go_upto_region 3 with fail
  clear c5 hp
  have HA := Lib.hid (fun w' (j : Below W2.heap.size W2 w') => S2.out.2.1.below j)
  have HB := Lib.hid (fun w' (j : Below W2.heap.size W2 w') => thru S2.out.1 j)
  refine Hold.wp_region_hold [.val ((Mv A n c A2 n2 c2 m)), .val (.agg #[.int .i64 ml, .int .i64 m.top, .int .i64 mr, .int .i64 mb]), .val (.pointer (some ⟨b0, 5, none⟩)), .val (.slice A2 n2 c2), .val (.int .i64 (n2 : Int)), .val (.pointer (some ⟨b0, 5, none⟩)), .val (.slice A2 n2 c2), .val (.int .i64 wi), .val (.agg #[.int .i64 ml, .int .i64 m.top, .int .i64 mr, .int .i64 mb, .int .i64 (n2 : Int), .int .i64 wi])] (by kernel_rfl) (by kernel_rfl) (by kernel_rfl) ?_ ?_
  · simp only [Hold.fill, Hold.Leave.value]
    refine ⟨?_, ?_, ?_, ?_, ?_, ?_, ?_, ?_, ?_, trivial⟩
    · intro gg w' hw hk
      have q0 := (HA.out w' hw).1
      have q1 := (HA.out w' hw).2.1
      have q2 := (HA.out w' hw).2.2.1
      have q3 := (HA.out w' hw).2.2.2.1
      have q4 := (HA.out w' hw).2.2.2.2.1
      have q5 := (HA.out w' hw).2.2.2.2.2
      go_simp
      exact ⟨rfl, rfl⟩
    · intro gg w' hw hk
      go_simp
      exact Hold.stays_call (HBx.out w' (HB.out w' hw))
    · intro gg w' hw hk
      go_simp
      exact ⟨rfl, rfl⟩
    · intro gg w' hw hk
      have q := (HA.out w' hw).2.2.2.2.2
      go_simp
      exact ⟨rfl, rfl⟩
    · intro gg w' hw hk
      go_simp
      exact ⟨rfl, rfl⟩
    · intro gg w' hw hk
      go_simp
      exact ⟨rfl, rfl⟩
    · intro gg w' hw hk
      have q := (HA.out w' hw).2.2.2.2.2
      go_simp
      exact ⟨rfl, rfl⟩
    · intro gg w' hw hk
      go_simp
      exact Hold.stays_call (HWi.out w' (HB.out w' hw))
    · intro gg w' hw hk
      go_simp
      exact ⟨rfl, rfl⟩
  intro gg w3 k3 hgg
  clear hgg
  simp only [Hold.fill, Hold.Leave.value, List.length_cons, List.length_nil, List.drop_succ_cons, List.drop_zero]
  have S4 := Lib.hid (⟨HB.out _ k3, (k3.block b1 S2.out.2.2.1.lt).trans S2.out.2.2.1⟩ : Below w.heap.size w w3 ∧ Z6 49 w3 b1)
  clear k3 HA HB
  have hb2 := S2.out.2.2.2
  obtain ⟨z0, z1, z2, z3, z4, z5⟩ := S4.out.2.cells
  obtain ⟨f0, f1, f2, f3, f4, f5⟩ := S4.out.2.free
  go_simp
  go_wp2_with fail
  exact bodyPost_ret (v := .agg #[.int .i64 ml, .int .i64 m.top, .int .i64 mr, .int .i64 mb, .int .i64 (n2 : Int), .int .i64 wi]) (by simp [results, Tryz.results24, go_sem, z0, z1, z2, z3, z4, z5]) rfl ⟨rfl, ((((((((((((S4.out.1).setCell (p := ⟨b1, 0, none⟩) hb2 _)).setCell (p := ⟨b1, 1, none⟩) hb2 _)).setCell (p := ⟨b1, 2, none⟩) hb2 _)).setCell (p := ⟨b1, 3, none⟩) hb2 _)).setCell (p := ⟨b1, 4, none⟩) hb2 _)).setCell (p := ⟨b1, 5, none⟩) hb2 _)⟩

end Go.Proofs.YtdibdfalahjmbaaGreat.Line

namespace Go.Proofs.YtdibdfalahjmbaaGreat.Line

open Go.RowKit Go.Sort Go.Proofs.YtdibdfalahjmbaaGreat.Rect Go.Proofs.YtdibdfalahjmbaaGreat.More Go.Proofs.YtdibdfalahjmbaaGreat.Shelf Go.Proofs.YtdibdfalahjmbaaGreat.Space Go.Proofs.YtdibdfalahjmbaaGreat.Place

set_option linter.unusedVariables false

set_option linter.unusedSimpArgs false

def Mb (w : World) (b : Nat) (A : Option Addr) (n c : Nat) (A2 : Option Addr) (n2 c2 : Nat) (m : Mk) : Prop := w.heap[b]? = some (.cells #[.slice A n c, .int .i64 m.f, .int .i64 m.t, .int .i64 m.y, .int .i64 m.top, .slice A2 n2 c2] 79)

abbrev zeroM : Mk := ⟨[], 0, 0, 0, 0, []⟩

theorem idx3 (a b c d : Int) (w : World) : (Instr.index 44 (.agg #[.int .i64 a, .int .i64 b, .int .i64 c, .int .i64 d]) (.int .i64 3)).run Tryz.prog w = .ok (.int .i64 d) w := by kernel_rfl

section

variable {A A2 : Option Addr} {n c n2 c2 : Nat} {m : Mk} {w w' : World} {b : Nat}

theorem Mb.at' (h : Mb w b A n c A2 n2 c2 m) : AtM w b A n c A2 n2 c2 m := by
  unfold Mb at h
  refine ⟨?_, ?_, ?_, ?_, ?_, ?_⟩ <;> simp [World.cell?, h]

theorem Mb.free (h : Mb w b A n c A2 n2 c2 m) : w.frozen? ⟨b, 0, none⟩ = false ∧ w.frozen? ⟨b, 1, none⟩ = false ∧ w.frozen? ⟨b, 2, none⟩ = false ∧ w.frozen? ⟨b, 3, none⟩ = false ∧ w.frozen? ⟨b, 4, none⟩ = false ∧ w.frozen? ⟨b, 5, none⟩ = false := by
  unfold Mb at h
  refine ⟨?_, ?_, ?_, ?_, ?_, ?_⟩ <;> simp [World.frozen?, h]

theorem Mb.lt (h : Mb w b A n c A2 n2 c2 m) : b < w.heap.size := lt_of_block h

theorem Mb.below (h : Mb w b A n c A2 n2 c2 m) (k : Below w.heap.size w w') : Mb w' b A n c A2 n2 c2 m := (k.block b (lt_of_block h)).trans h

theorem Mb.other {b' o : Nat} {v : Value} (h : Mb w b A n c A2 n2 c2 m) (hne : b ≠ b') : Mb (w.setCell ⟨b', o, none⟩ v) b A n c A2 n2 c2 m := (Below.heap_setCell _ _ _ _ hne).trans h

theorem Mb.set3 (h : Mb w b A n c A2 n2 c2 m) (v : Int) : Mb (w.setCell ⟨b, 3, none⟩ (.int .i64 v)) b A n c A2 n2 c2 { m with y := v } := by
  unfold Mb at *
  simp [World.setCell, Array.getElem?_modify, h]

theorem Mb.set4 (h : Mb w b A n c A2 n2 c2 m) (v : Int) : Mb (w.setCell ⟨b, 4, none⟩ (.int .i64 v)) b A n c A2 n2 c2 { m with top := v } := by
  unfold Mb at *
  simp [World.setCell, Array.getElem?_modify, h]

theorem Mb.set5 (h : Mb w b A n c A2 n2 c2 m) (A3 : Option Addr) (n3 c3 : Nat) (zs : List Sz) : Mb (w.setCell ⟨b, 5, none⟩ (.slice A3 n3 c3)) b A n c A3 n3 c3 { m with az := zs } := by
  unfold Mb at *
  simp [World.setCell, Array.getElem?_modify, h]

end

set_option maxRecDepth 100000 in
set_option maxHeartbeats 1000000 in
theorem refend_some (A : Option Addr) (n c : Nat) (A2 : Option Addr) (n2 c2 : Nat) (m : Mk) (w : World) (h : MkIn w A n c A2 n2 c2 m) (hm : m.az ≠ []) :
    Calls Tryz.prog 25 #[Mv A n c A2 n2 c2 m] w fun e w' => e = .returned (Mv A n c none 0 0 m.fin) ∧ Below w.heap.size w w' := by
  have HBx := Lib.hid (fun w1 (k : Below w.heap.size w w1) => refbox_any A n c A2 n2 c2 m w1 (h.thru k))
  have hp : (0 : Int) < (n2 : Int) := by have := List.length_pos_iff.2 hm; have := h.hn2; omega
  rw [fin_some hm]
  generalize m.l = ml at *
  generalize m.r = mr at *
  generalize m.b = mb at *
  clear h hm
  go_enter Tryz.func25, Tryz.ntmps25
  go_upto_region 1 with fail
  generalize hW1 : World.alloc w _ = W1
  obtain ⟨b0, hb0⟩ : ∃ b0, w.heap.size = b0 := ⟨_, rfl⟩
  have k1 : Below w.heap.size w W1 := by rw [← hW1]; exact ba1 _ _
  have s1 : W1.heap.size = b0 + 1 := by rw [← hW1, ← hb0]; simp
  have a1 : Mb W1 b0 A n c A2 n2 c2 m := by rw [← hW1, ← hb0]; exact heap_alloc_new w _
  clear hW1
  generalize hW2 : World.alloc W1 _ = W2
  have k2 : Below W1.heap.size W1 W2 := by rw [← hW2]; exact ba1 _ _
  have z2 : Mb W2 (b0 + 1) none 0 0 none 0 0 zeroM := by rw [← hW2, ← s1]; exact heap_alloc_new W1 _
  clear hW2
  rw [hb0]
  obtain ⟨b1, hb1⟩ : ∃ b1, b0 + 1 = b1 := ⟨_, rfl⟩
  rw [hb1] at s1 z2
  rw [hb1]
  have S2 := Lib.hid (⟨thru k1 k2, a1.below k2, z2, by omega⟩ : Below w.heap.size w W2 ∧ Mb W2 b0 A n c A2 n2 c2 m ∧ Mb W2 b1 none 0 0 none 0 0 zeroM ∧ w.heap.size ≤ b0 ∧ w.heap.size ≤ b1 ∧ b1 ≠ b0)
  clear k1 a1 k2 z2 s1 hb0 hb1
  obtain ⟨c0, c1, c2', c3, c4, c5⟩ := S2.out.2.1.at'
  go_upto_region 2 with fail
  have hne := S2.out.2.2.2.2.2
  have hix := idx3 ml m.top mr mb
  have hb0 := S2.out.2.2.2.1
  have hb1 := S2.out.2.2.2.2.1
  go_upto_region 4 with (first
    | (go_at_call 37; refine (HBx.out _ S2.out.1).mono ?_; rintro e w3 ⟨rfl, k3⟩; have S3 := Lib.hid (⟨thru S2.out.1 k3, S2.out.2.1.below k3, S2.out.2.2.1.below k3⟩ : Below w.heap.size w w3 ∧ Mb w3 b0 A n c A2 n2 c2 m ∧ Mb w3 b1 none 0 0 none 0 0 zeroM); clear c0 c1 c2' c3 c4 c5; obtain ⟨c0, c1, c2', c3, c4, c5⟩ := S3.out.2.1.at'; obtain ⟨g0, g1, g2, g3, g4, g5⟩ := S3.out.2.1.free; clear k3))
  clear c0 c1 c2' c3 c4 c5 g0 g1 g2 g3 g4 g5
  have v3 := (S3.out.2.1.set3 mb).set5 none 0 0 []
  have v4 := (S3.out.2.2.other (o := 3) (v := .int .i64 mb) hne).other (o := 5) (v := .slice none 0 0) hne
  have kV := (S3.out.1.setCell (p := ⟨b0, 3, none⟩) hb0 (.int .i64 mb)).setCell (p := ⟨b0, 5, none⟩) hb0 (.slice none 0 0)
  generalize hV : (w3.setCell ⟨b0, 3, none⟩ (.int .i64 mb)).setCell ⟨b0, 5, none⟩ (.slice none 0 0) = V at *
  clear hV
  obtain ⟨c0, c1, c2', c3, c4, c5⟩ := v3.at'
  obtain ⟨z0, z1, z2, z3, z4, z5⟩ := v4.at'
  obtain ⟨f0, f1, f2, f3, f4, f5⟩ := v4.free
  have KV := Lib.hid kV
  clear v3 v4 kV
  have hb2 := hb1
  go_wp2_with fail
  exact bodyPost_ret (v := Mv A n c none 0 0 { m with y := mb, az := [] }) (by simp [results, Tryz.results25, go_sem, z0, z1, z2, z3, z4, z5]) rfl ⟨rfl, ((((((((((((KV.out).setCell (p := ⟨b1, 0, none⟩) hb2 _)).setCell (p := ⟨b1, 1, none⟩) hb2 _)).setCell (p := ⟨b1, 2, none⟩) hb2 _)).setCell (p := ⟨b1, 3, none⟩) hb2 _)).setCell (p := ⟨b1, 4, none⟩) hb2 _)).setCell (p := ⟨b1, 5, none⟩) hb2 _)⟩

end Go.Proofs.YtdibdfalahjmbaaGreat.Line

namespace Go.Proofs.YtdibdfalahjmbaaGreat.Space

open Go.RowKit Go.Sort Go.Proofs.YtdibdfalahjmbaaGreat.Rect Go.Proofs.YtdibdfalahjmbaaGreat.More Go.Proofs.YtdibdfalahjmbaaGreat.Shelf

set_option linter.unusedVariables false

section

variable {S : World → (Nat → Prop) → Addr → List Fl → Prop}

theorem SpaceOk.thru (hO : SpaceOk S) {w w' : World} {F : Nat → Prop} {p : Addr} {fs : List Fl} (h : S w F p fs) (k : Below w.heap.size w w') : S w' F p fs :=
  hO.keep _ _ _ (fun _ => False) _ _ h (But.of_below k) (fun _ _ h => h)

end

end Go.Proofs.YtdibdfalahjmbaaGreat.Space

namespace Go.Proofs.YtdibdfalahjmbaaGreat.Space

open Go.RowKit Go.Sort Go.Proofs.YtdibdfalahjmbaaGreat.Rect Go.Proofs.YtdibdfalahjmbaaGreat.More Go.Proofs.YtdibdfalahjmbaaGreat.Shelf

set_option linter.unusedVariables false

section

variable {S : World → (Nat → Prop) → Addr → List Fl → Prop}

end

end Go.Proofs.YtdibdfalahjmbaaGreat.Space

namespace Go.Proofs.YtdibdfalahjmbaaGreat.Space

open Go.RowKit Go.Sort Go.Proofs.YtdibdfalahjmbaaGreat.Rect Go.Proofs.YtdibdfalahjmbaaGreat.More Go.Proofs.YtdibdfalahjmbaaGreat.Shelf

set_option linter.unusedVariables false

section

variable {S : World → (Nat → Prop) → Addr → List Fl → Prop}

end

end Go.Proofs.YtdibdfalahjmbaaGreat.Space

namespace Go.Proofs.YtdibdfalahjmbaaGreat.Space

open Go.RowKit Go.Sort Go.Proofs.YtdibdfalahjmbaaGreat.Rect Go.Proofs.YtdibdfalahjmbaaGreat.More Go.Proofs.YtdibdfalahjmbaaGreat.Shelf

set_option linter.unusedVariables false

theorem run_append_fresh {α : Type} {E : Enc α} {T TS : TypeId} {bytes : Nat} (hT : InfoE E T TS bytes) (ty : TypeId) (w : World) (B b : Nat) (hown : MineE E T w B (some ⟨b, 0, none⟩) 0 0 []) (A2 : Option Addr) (m c2 : Nat) (ys : List α) (hs : SrcE E w A2 m c2 ys)
    (hlen : m ≤ maxLen) (hby : m * bytes ≤ 140737488355328) (hB : B ≤ w.heap.size) :
    ∃ A' c' w', (Builtin.append_ #[TS, TS] ty #[.slice (some ⟨b, 0, none⟩) 0 0, .slice A2 m c2]).run Tryz.prog w = .ok (.slice A' m c') w' ∧ MineE E T w' B A' m c' ys ∧ Below w.heap.size w w' := by
  rcases Nat.eq_zero_or_pos m with hm | hm
  · subst hm
    have hy : ys = [] := List.eq_nil_of_length_eq_zero hs.1
    subst hy
    obtain ⟨hu, z, hzc, hinfo⟩ := hT
    obtain ⟨i0, hi0, hz0, hz1, hz2⟩ := info_parts hinfo
    cases A2 with
    | none =>
      obtain rfl := hs.2.1 rfl
      exact ⟨_, 0, w, run_append_owned_none (P := Tryz.prog) w B TS ty T i0 E.size hu hi0 _ 0 _ hown, hown, Below.refl _ _⟩
    | some ad =>
      have hr := run_append_room_cells (P := Tryz.prog) w TS ty T i0 hu hi0 b 0 0 0 ad 0 c2 [] (by simp) (by simp) (by simp) (Nat.le_refl _) (by simp) (by simp)
      exact ⟨_, 0, w, by simpa [World.setCells] using hr, hown, Below.refl _ _⟩
  · obtain ⟨hu, z, hzc, hinfo⟩ := hT
    obtain ⟨i0, hi0, hz0, hz1, hz2⟩ := info_parts hinfo
    obtain ⟨h1, h2, h3⟩ := hs
    have hne : ∃ ad, A2 = some ad := by
      cases ys with
      | nil => simp at h1; omega
      | cons y ys =>
        have hp := E.pos
        have hl := E.len y
        obtain ⟨ad, e, _⟩ := h3 0 ((E.cells y)[0]'(by omega)) (by rw [List.flatMap_cons, List.getElem?_append_left (by omega)]; simp)
        exact ⟨ad, e⟩
    obtain ⟨ad, rfl⟩ := hne
    obtain ⟨v', w', hrun, g2, g3⟩ := run_append_arg_grows (P := Tryz.prog) w TS ty T i0 z E.size bytes hu hi0 hz0 hz1 hz2 hzc E.pos ⟨b, 0, none⟩ 0 0 [] (by simp) (by simp) ad m c2 (ys.flatMap E.cells) (by rw [E.flat_len, h1]) (fun j u hu => by
      obtain ⟨ad', e, hc⟩ := h3 j u hu
      obtain rfl := Option.some.inj e
      exact hc) (by omega) (by simpa using hlen) (by rw [Nat.zero_add]; exact hby)
    obtain ⟨A', c', rfl⟩ := shapeE g2
    rw [Nat.zero_add, List.nil_append] at g2
    rw [Nat.zero_add] at hrun
    exact ⟨A', c', w', hrun, MineE.mono (E := E) g2 hB, ⟨g3.os, g3.tape, g3.output, g3.size, fun k hk => g3.block k hk (by simp)⟩⟩

theorem run_append_wideE {α : Type} {E : Enc α} {T TS : TypeId} {bytes : Nat} (hT : InfoE E T TS bytes) (ty : TypeId) (w : World) (B : Nat) (A : Option Addr) (n c : Nat) (xs : List α) (hown : MineE E T w B A n c xs) (ad : Addr) (m c2 : Nat) (ys : List α) (hs : SrcE E w (some ad) m c2 ys)
    (hlen : n + m ≤ maxLen) (hbn : (n + m) * bytes ≤ 140737488355328) (hB : B ≤ w.heap.size) :
    ∃ A' c' w', (Builtin.append_ #[TS, TS] ty #[.slice A n c, .slice (some ad) m c2]).run Tryz.prog w = .ok (.slice A' (n + m) c') w' ∧ AppendedE E T w B A n xs ys m A' c' w' := by
  obtain ⟨hu, z, hzc, hinfo⟩ := hT
  obtain ⟨i0, hi0, hz0, hz1, hz2⟩ := info_parts hinfo
  obtain ⟨h1, h2, h3⟩ := hs
  have hcells : ∀ j u, (ys.flatMap E.cells)[j]? = some u → w.cell? (ad.add j) = some u := by
    intro j u hu
    obtain ⟨ad', e, hc⟩ := h3 j u hu
    obtain rfl := Option.some.inj e
    exact hc
  obtain ⟨v', w', hrun, g2, g3, _, g5⟩ := run_append_own_at (P := Tryz.prog) w B TS ty T i0 z E.size bytes hu hi0 hz0 hz1 hz2 hzc E.pos _ n _ hown ad m c2 _ (by rw [E.flat_len, h1]) hcells
    (E.flat_cells ys) hlen hbn hB
  obtain ⟨A', c', rfl⟩ := shapeE g2
  refine ⟨A', c', w', hrun, ?_, ?_, ?_⟩
  · unfold MineE; rw [List.flatMap_append]; exact g2
  · rw [ownBlock_blk] at g3; exact g3
  · rw [ownBlock_blk, ownBlock_blk] at g5; exact g5

theorem wpList_append_wideE {α : Type} {E : Enc α} {T TS : TypeId} {bytes : Nat} (hT : InfoE E T TS bytes) (w : World) {ops : Array Oper} {rest : List Oper} {o : Oper} {a : Act} {Q : Exit → Act → World → Prop} (hgd : o.guard = none) (s x : Operand)
    (ho : o.op = .call { callee := .builtin .append, args := #[s, x], argTypes := #[TS, TS] })
    (B : Nat) (A : Option Addr) (n c : Nat) (xs : List α) (hs : a.eval s = .slice A n c) (hown : MineE E T w B A n c xs) (ad : Addr) (m c2 : Nat) (ys : List α) (hx : a.eval x = .slice (some ad) m c2) (hsrc : SrcE E w (some ad) m c2 ys)
    (hlen : n + m ≤ maxLen) (hbn : (n + m) * bytes ≤ 140737488355328) (hB : B ≤ w.heap.size)
    (h : ∀ A' c' w', AppendedE E T w B A n xs ys m A' c' w' → wpList Tryz.prog ops Q rest (a.put o.dst (.slice A' (n + m) c')) w') : wpList Tryz.prog ops Q (o :: rest) a w := by
  refine wpList_plain hgd fun _ hK => ?_
  obtain ⟨A', c', w', hr, h2⟩ := run_append_wideE hT o.type w B A n c xs hown ad m c2 ys hsrc hlen hbn hB
  unfold Oper.wp execOp
  simp only [ho, resolve, invoke, builtin, Sem.run_bind, Sem.run_pure, Result.andThen_ok, List.map_toArray, List.map_cons, List.map_nil, hs, hx, hr]
  exact hK _ _ (h A' c' w' h2)

def Own (fs : List Fl) (n B : Nat) (w : World) (v : Value) : Prop := ∃ A c, v = .slice A n c ∧ MineE encF 56 w B A n c fs ∧ B ≤ w.heap.size

def Emp (B : Nat) (w : World) (v : Value) : Prop := ∃ b, v = .slice (some ⟨b, 0, none⟩) 0 0 ∧ MineE encF 56 w B (some ⟨b, 0, none⟩) 0 0 [] ∧ B ≤ w.heap.size

theorem own_keeps (fs : List Fl) (n B : Nat) : Hold.Keeps (Own fs n B) := fun w w' u k ⟨A, c, e, h, hb⟩ => ⟨A, c, e, MineE.below h k, Nat.le_trans hb k.size⟩

theorem emp_keeps (B : Nat) : Hold.Keeps (Emp B) := fun w w' u k ⟨b, e, h, hb⟩ => ⟨b, e, MineE.below h k, Nat.le_trans hb k.size⟩

end Go.Proofs.YtdibdfalahjmbaaGreat.Space

namespace Go.Proofs.YtdibdfalahjmbaaGreat.Space

open Go.RowKit Go.Sort Go.Proofs.YtdibdfalahjmbaaGreat.Rect Go.Proofs.YtdibdfalahjmbaaGreat.More Go.Proofs.YtdibdfalahjmbaaGreat.Shelf

set_option linter.unusedVariables false

set_option linter.unusedSimpArgs false

theorem gives_append {TS : TypeId} {a : Act} {o : Oper} {w : World} {R : World → Value → Prop} (s x : Operand) (ho : o.op = .call { callee := .builtin .append, args := #[s, x], argTypes := #[TS, TS] }) (v1 v2 : Value) (hs : a.eval s = v1) (hx : a.eval x = v2)
    (h : ∃ v w', (Builtin.append_ #[TS, TS] o.type #[v1, v2]).run Tryz.prog w = .ok v w' ∧ Below w.heap.size w w' ∧ R w' v) : Hold.gives Tryz.prog w R ((execOp a.eval o).run Tryz.prog w) := by
  obtain ⟨v, w', hr, h1, h2⟩ := h
  unfold execOp
  simp only [ho, resolve, invoke, builtin, Sem.run_bind, Sem.run_pure, Result.andThen_ok, List.map_toArray, List.map_cons, List.map_nil, hs, hx, hr]
  exact ⟨h1, h2⟩

theorem oneF (w : World) (B : Nat) (hB : B ≤ w.heap.size) (f : Fl) : MineE encF 56 (w.alloc (.cells #[.int .i64 f.s, .int .i64 f.l, .int .i64 f.t, .int .i64 f.r, .int .i64 f.b] 56)) B (some ⟨w.heap.size, 0, none⟩) 1 1 [f] := by
  have := World.ownsRow_lit (e := 56) (size := 5) (base := B) w #[.int .i64 f.s, .int .i64 f.l, .int .i64 f.t, .int .i64 f.r, .int .i64 f.b] 1 hB (by unfold maxLen; omega) rfl
  simpa [MineE, encF, cellsFl] using this

theorem src_all {w : World} {B : Nat} {A : Option Addr} {fs : List Fl} {n c : Nat} (h : Floats w B A fs) (hn : n = fs.length) (hnil : A = none → c = 0) : SrcE encF w A n c fs := by
  refine ⟨hn.symm, hnil, fun j u hu => ?_⟩
  cases A with
  | none =>
    have hlt := (List.getElem?_eq_some_iff.1 hu).1
    rw [encF.flat_len] at hlt
    have h5 : encF.size = 5 := rfl
    rw [h5] at hlt
    obtain ⟨ad, e, -⟩ := h (j / 5) fs[j / 5] (List.getElem?_eq_getElem (by omega))
    cases e
  | some ad => exact ⟨ad, rfl, floats_cell h j u hu⟩

section

variable {S : World → (Nat → Prop) → Addr → List Fl → Prop}

end

end Go.Proofs.YtdibdfalahjmbaaGreat.Space
