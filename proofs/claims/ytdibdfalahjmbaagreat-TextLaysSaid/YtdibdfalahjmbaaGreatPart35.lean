/- Texts of this proof that follow each other, in one file. -/
import Derived.Test.YtdibdfalahjmbaaGreatPart22
import Derived.Test.YtdibdfalahjmbaaGreatPart32
import Derived.Test.YtdibdfalahjmbaaGreatPart34
namespace Go.Proofs.YtdibdfalahjmbaaGreat.Line

open Go.RowKit Go.Sort Go.Proofs.YtdibdfalahjmbaaGreat.Rect Go.Proofs.YtdibdfalahjmbaaGreat.More Go.Proofs.YtdibdfalahjmbaaGreat.Shelf Go.Proofs.YtdibdfalahjmbaaGreat.Space Go.Proofs.YtdibdfalahjmbaaGreat.Place

set_option linter.unusedVariables false

set_option linter.unusedSimpArgs false

structure Mid (k : Nat) (m : Mk) : Prop where
  h49 : m.fs.all near49 = true
  f1 : -4503599627370496 ≤ m.f
  f2 : m.f ≤ 4503599627370496
  t1 : -4503599627370496 ≤ m.t
  t2 : m.t ≤ 4503599627370496
  y1 : -281474976710656 ≤ m.y
  y2 : m.y ≤ 562949953421312 + k * 2147483648
  ha : ∀ z ∈ m.az, RightS z
  hl : m.az.length ≤ k
  p1 : m.az ≠ [] → -281474976710656 ≤ m.top
  p2 : m.az ≠ [] → m.top ≤ 562949953421312 + k * 2147483648

theorem Mid.add {k : Nat} {m : Mk} {z : Sz} (h : Mid k m) (hz : RightS z) : Mid (k + 1) (m.add z).1 := by
  obtain ⟨h49, f1, f2, t1, t2, y1, y2, ha, hl, p1, p2⟩ := h
  by_cases hm : m.az = []
  · rw [add_nil hm]
    have ht := topL_b z h49 f1 t2 (y := m.y) (by omega)
    exact ⟨h49, f1, f2, t1, t2, y1, show m.y ≤ 562949953421312 + ((k + 1 : Nat) : Int) * 2147483648 by omega, fun x hx => by rw [List.mem_singleton.1 (show x ∈ [z] from hx)]; exact hz, by show 1 ≤ k + 1; omega, fun _ => show -281474976710656 ≤ topL m.fs m.f m.t z m.y by omega, fun _ => show topL m.fs m.f m.t z m.y ≤ 562949953421312 + ((k + 1 : Nat) : Int) * 2147483648 by omega⟩
  · have q1 := p1 hm
    have q2 := p2 hm
    cases hf : m.fits z with
    | true =>
      rw [add_fits hm hf]
      exact ⟨h49, f1, f2, t1, t2, y1, show m.y ≤ 562949953421312 + ((k + 1 : Nat) : Int) * 2147483648 by omega, fun x hx => by
        rcases List.mem_append.1 (show x ∈ m.az ++ [z] from hx) with e | e
        · exact ha x e
        · rw [List.mem_singleton.1 e]; exact hz, by show (m.az ++ [z]).length ≤ k + 1; simp; omega, fun _ => q1, fun _ => show m.top ≤ 562949953421312 + ((k + 1 : Nat) : Int) * 2147483648 by omega⟩
    | false =>
      rw [add_not hm hf]
      exact ⟨h49, f1, f2, t1, t2, y1, show m.y ≤ 562949953421312 + ((k + 1 : Nat) : Int) * 2147483648 by omega, ha, by show m.az.length ≤ k + 1; omega, fun _ => q1, fun _ => show m.top ≤ 562949953421312 + ((k + 1 : Nat) : Int) * 2147483648 by omega⟩

theorem Mid.fin {k : Nat} {m : Mk} (h : Mid k m) : Mid (k + 1) m.fin := by
  obtain ⟨h49, f1, f2, t1, t2, y1, y2, ha, hl, p1, p2⟩ := h
  by_cases hm : m.az = []
  · have hfin : m.fin = m := by unfold Mk.fin; rw [hm]
    rw [hfin]
    exact ⟨h49, f1, f2, t1, t2, y1, by omega, ha, by omega, fun e => p1 e, fun e => by have := p2 e; omega⟩
  · rw [fin_some hm]
    have q1 := p1 hm
    have q2 := p2 hm
    have hh := highL_b ha
    exact ⟨h49, f1, f2, t1, t2, show -281474976710656 ≤ m.top + highL m.az by omega, show m.top + highL m.az ≤ 562949953421312 + ((k + 1 : Nat) : Int) * 2147483648 by omega, fun x hx => (by cases hx), Nat.zero_le _, fun e => absurd rfl e, fun e => absurd rfl e⟩

theorem Mid.mono {k j : Nat} {m : Mk} (h : Mid k m) (hk : k ≤ j) : Mid j m := by
  obtain ⟨h49, f1, f2, t1, t2, y1, y2, ha, hl, p1, p2⟩ := h
  exact ⟨h49, f1, f2, t1, t2, y1, by omega, ha, by omega, p1, fun e => by have := p2 e; omega⟩

theorem add_same (m : Mk) (z : Sz) : (m.add z).1.fs = m.fs := by
  unfold Mk.add
  split
  · rfl
  · split <;> rfl

theorem fin_same (m : Mk) : m.fin.fs = m.fs := by unfold Mk.fin; split <;> rfl

section

variable {S : World → (Nat → Prop) → Addr → List Fl → Prop}

structure Making (S : World → (Nat → Prop) → Addr → List Fl → Prop) (w : World) (F : Nat → Prop) (p : Addr) (bb g1 g2 B : Nat) (fs : List Fl) (m : Mk) (xs : List Mk) (wr : World) : Prop where
  s : S wr F p fs
  g : wr.cell? ⟨g1, 0, none⟩ = some (.pointer (some ⟨bb, 0, none⟩))
  b : Bl wr p bb m
  d : Made wr g2 B xs
  k : Below w.heap.size w wr
  z : B ≤ wr.heap.size

theorem Making.more {w : World} {F : Nat → Prop} {p : Addr} {bb g1 g2 B : Nat} {fs : List Fl} {m m' : Mk} {xs ys : List Mk} {wr w' : World} (hO : SpaceOk S) (h : Making S w F p bb g1 g2 B fs m xs wr) (hF : ∀ j, F j → j < w.heap.size) (h1 : w.heap.size ≤ bb) (h2 : bb < g1) (h3 : g1 < g2) (h4 : g2 < B)
    (hb : Bl w' p bb m') (hd : Made w' g2 B ys) (k : But (fun j => j = bb ∨ j = g2 ∨ B ≤ j) wr w') : Making S w F p bb g1 g2 B fs m' ys w' :=
  ⟨hO.keep _ _ _ _ _ _ h.s k (fun j hj e => by have := hF j hj; rcases e with e | e | e <;> omega), (k.cell (b := g1) (by have := h.z; omega) (fun e => by rcases e with e | e | e <;> omega)).trans h.g, hb, hd, h.k.trans (k.below h.k.size (fun j e => by rcases e with e | e | e <;> omega)), by have := h.z; have := k.size; omega⟩

theorem Making.below {w : World} {F : Nat → Prop} {p : Addr} {bb g1 g2 B : Nat} {fs : List Fl} {m : Mk} {xs : List Mk} {wr w' : World} (hO : SpaceOk S) (h : Making S w F p bb g1 g2 B fs m xs wr) (k : Below wr.heap.size wr w') : Making S w F p bb g1 g2 B fs m xs w' :=
  ⟨thruS hO h.s k, (k.cell (p := ⟨g1, 0, none⟩) (block_lt_of_cell h.g)).trans h.g, h.b.below k, h.d.but (But.of_below (S := fun _ => False) k) (fun e => e) (fun _ e => e.elim), thru h.k k, Nat.le_trans h.z k.size⟩

end

end Go.Proofs.YtdibdfalahjmbaaGreat.Line

namespace Go.Proofs.YtdibdfalahjmbaaGreat.Line

open Go.RowKit Go.Sort Go.Proofs.YtdibdfalahjmbaaGreat.Rect Go.Proofs.YtdibdfalahjmbaaGreat.More Go.Proofs.YtdibdfalahjmbaaGreat.Shelf Go.Proofs.YtdibdfalahjmbaaGreat.Space Go.Proofs.YtdibdfalahjmbaaGreat.Place

set_option linter.unusedVariables false

set_option linter.unusedSimpArgs false

set_option maxHeartbeats 1000000 in
theorem rto_any (a b c d : Int) (w : World) : Calls Tryz.prog 9 #[.agg #[.int .i64 a, .int .i64 b, .int .i64 c, .int .i64 d]] w fun e w' => e = .returned (.agg #[.int .i64 a, .int .i64 b, .int .i64 c, .int .i64 d]) ∧ Below w.heap.size w w' := by
  go_enter Tryz.func9, Tryz.ntmps9
  go_wp2
  all_goals exact bodyPost_ret (v := .agg #[.int .i64 a, .int .i64 b, .int .i64 c, .int .i64 d]) (by simp [results, Tryz.results9, go_sem]) rfl ⟨rfl, by first | exact ba1 _ _ | exact ba2 _ _ _ | exact ba3 _ _ _ _⟩

set_option maxRecDepth 100000 in
set_option maxHeartbeats 1000000 in
theorem lto_any (x : Ln) (w : World) : Calls Tryz.prog 10 #[x.v] w fun e w' => e = .returned x.v ∧ Below w.heap.size w w' := by
  go_enter Tryz.func10, Tryz.ntmps10
  go_upto_region 1 with fail
  generalize hW1 : World.alloc w _ = W1
  obtain ⟨b0, hb0⟩ : ∃ b0, w.heap.size = b0 := ⟨_, rfl⟩
  have k1 : Below w.heap.size w W1 := by rw [← hW1]; exact ba1 _ _
  have s1 : W1.heap.size = b0 + 1 := by rw [← hW1, ← hb0]; simp
  have z1 : RowAt W1 b0 (lnrow x) := by rw [← hW1, ← hb0]; exact RowAt.new w _ _
  clear hW1
  generalize hW2 : World.alloc W1 _ = W
  have k2 : Below W1.heap.size W1 W := by rw [← hW2]; exact ba1 _ _
  have z2 : RowAt W (b0 + 1) (lnrow zeroLn) := by rw [← hW2, ← s1]; exact RowAt.new W1 _ _
  clear hW2
  rw [hb0]
  obtain ⟨b1, hb1⟩ : ∃ b1, b0 + 1 = b1 := ⟨_, rfl⟩
  rw [hb1] at s1 z2
  rw [hb1]
  have S1 := Lib.hid (⟨thru k1 k2, z1.below (by simp) k2, z2⟩ : Below w.heap.size w W ∧ RowAt W b0 (lnrow x) ∧ RowAt W b1 (lnrow zeroLn))
  have g1 : w.heap.size ≤ b1 := by omega
  clear hb0 hb1 k1 z1 k2 z2 s1
  have HX := Lib.hid (fun w' (j : Below W.heap.size W w') => lat_of (S1.out.2.1.below (by simp) j))
  refine Hold.wp_region_hold [.val (.pointer (some ⟨b0, 0, none⟩)), .val (.agg #[.int .i64 x.l, .int .i64 x.t, .int .i64 x.r, .int .i64 x.b]), .val (.agg #[.int .i64 x.l, .int .i64 x.t, .int .i64 x.r, .int .i64 x.b]), .val (.pointer (some ⟨b0, 4, none⟩)), .val (.int .i64 x.a), .val (.pointer (some ⟨b0, 5, none⟩)), .val (.int .i64 x.w), .val (x.v)] (by kernel_rfl) (by kernel_rfl) (by kernel_rfl) ?_ ?_
  · simp only [Hold.fill, Hold.Leave.value]
    refine ⟨?_, ?_, ?_, ?_, ?_, ?_, ?_, ?_, trivial⟩
    · intro gg w' hw hk
      go_simp
      exact ⟨rfl, rfl⟩
    · intro gg w' hw hk
      have q0 := (HX.out w' hw).1
      have q1 := (HX.out w' hw).2.1
      have q2 := (HX.out w' hw).2.2.1
      have q3 := (HX.out w' hw).2.2.2.1
      go_simp
      exact ⟨rfl, rfl⟩
    · intro gg w' hw hk
      go_simp
      exact Hold.stays_call (rto_any _ _ _ _ w')
    · intro gg w' hw hk
      go_simp
      exact ⟨rfl, rfl⟩
    · intro gg w' hw hk
      have q4 := (HX.out w' hw).2.2.2.2.1
      go_simp
      exact ⟨rfl, rfl⟩
    · intro gg w' hw hk
      go_simp
      exact ⟨rfl, rfl⟩
    · intro gg w' hw hk
      have q5 := (HX.out w' hw).2.2.2.2.2
      go_simp
      exact ⟨rfl, rfl⟩
    · intro gg w' hw hk
      go_simp
      exact ⟨rfl, rfl⟩
  intro gg w2 k2 hgg
  clear hgg
  simp only [Hold.fill, Hold.Leave.value, List.length_cons, List.length_nil, List.drop_succ_cons, List.drop_zero]
  have K2 := Lib.hid (thru S1.out.1 k2)
  have r := S1.out.2.2.below (by simp) k2
  obtain ⟨r0, r1, r2, r3, r4, r5⟩ := lat_of r
  have f0 := r.frz 0
  have f1 := r.frz 1
  have f2 := r.frz 2
  have f3 := r.frz 3
  have f4 := r.frz 4
  have f5 := r.frz 5
  clear k2 r HX S1
  go_simp
  go_wp2_with fail
  exact bodyPost_ret (v := x.v) (by simp [results, Tryz.results10, go_sem, r0, r1, r2, r3, r4, r5]) rfl ⟨rfl, ((((((K2.out.setCell (p := ⟨b1, 0, none⟩) g1 _).setCell (p := ⟨b1, 1, none⟩) g1 _).setCell (p := ⟨b1, 2, none⟩) g1 _).setCell (p := ⟨b1, 3, none⟩) g1 _).setCell (p := ⟨b1, 4, none⟩) g1 _).setCell (p := ⟨b1, 5, none⟩) g1 _)⟩

section

variable {S : World → (Nat → Prop) → Addr → List Fl → Prop}

end

end Go.Proofs.YtdibdfalahjmbaaGreat.Line
