/- Texts of this proof that follow each other, in one file. -/
import Derived.Test.YtkabpflbedpbaaaPart27
import Derived.Test.YtkabpflbedpbaaaPart6
import Derived.Test.YtkabpflbedpbaaaPart28
/-! What is asked of the program's placing, whatever it looks like; the law's example. -/
namespace Go.Proofs.Ytkabpflbedpbaaa.Place
open Go.RowKit Go.Sort Go.Proofs.Ytkabpflbedpbaaa.Rect Go.Proofs.Ytkabpflbedpbaaa.More Go.Proofs.Ytkabpflbedpbaaa.Shelf Go.Proofs.Ytkabpflbedpbaaa.Space
set_option linter.unusedVariables false
set_option linter.unusedSimpArgs false

/-- A float as a rectangle. -/
abbrev Fl.box (f : Fl) : Value := .agg #[.int .i64 f.l, .int .i64 f.t, .int .i64 f.r, .int .i64 f.b]

/-- The contracts of the program's placing. -/
structure PlaceOk (S : World → (Nat → Prop) → Addr → List Fl → Prop) : Prop where
  start : ∀ w F p fs x, S w F p fs → fs.all near49 = true → RightW x → Calls Try.prog 16 #[.pointer (some p), x.v] w fun r w' => r = .returned (.int .i64 (startQ fs x)) ∧ Below w.heap.size w w'
  at' : ∀ w F p fs x y, S w F p fs → fs.all near49 = true → RightW x → -2251799813685248 ≤ y ∧ y ≤ 2251799813685248 → Calls Try.prog 13 #[.pointer (some p), x.v, .int .i64 y] w fun r w' => r = .returned (.tuple #[.int .i64 (atQ fs x y), .bool (okQ fs x y)]) ∧ Below w.heap.size w w'
  find : ∀ w F p fs x, S w F p fs → fs.all near49 = true → RightW x → Calls Try.prog 18 #[.pointer (some p), x.v] w fun r w' => r = .returned (Fl.box (placed fs x)) ∧ Below w.heap.size w w'
  put : ∀ w F p fs x, S w F p fs → fs.length < 1000 → fs.all near49 = true → RightW x → Calls Try.prog 24 #[.pointer (some p), x.v] w fun r w' => r = .returned (Fl.box (placed fs x)) ∧ (∃ F', S w' F' p (fs ++ [placed fs x]) ∧ ∀ k, F' k → F k ∨ w.heap.size ≤ k) ∧ But F w w'

theorem eqR4_same (a b c d : Int) (w : World) : (Op.equalIn 10000 40 (.agg #[.int .i64 a, .int .i64 b, .int .i64 c, .int .i64 d]) (.agg #[.int .i64 a, .int .i64 b, .int .i64 c, .int .i64 d])).run Try.prog w = .ok true w := by
  have u3 := Try.underlying3
  have a3 := Try.isAgg3
  have z3 := Try.sizeOf3
  have hS : Try.prog.underlying 40 = some (.struct (Try.prog.fieldsOf 40)) := by kernel_rfl
  rw [show (10000 : Nat) = 9999 + 1 from rfl, run_equalIn_agg w 9999 40 _ _ hS (by kernel_rfl)]
  simp only [Program.fieldsOf, Try.underlying40]
  go_simp

/-- The example's want. -/
def exW : Wt := ⟨1, 0, 0, 10, 3, 2, 0⟩
theorem exW_right : RightW exW := rightW_iff.1 (by decide)
theorem exW_one : placed [] exW = ⟨1, 0, 0, 3, 2⟩ := by
  have h1 : findY [] exW = 0 := by decide
  have h2 : findX [] exW = 0 := by decide
  unfold placed
  rw [h1, h2]
  rfl
theorem exW_two : placed [⟨1, 0, 0, 3, 2⟩] exW = ⟨1, 3, 0, 6, 2⟩ := by
  have h1 : findY [⟨1, 0, 0, 3, 2⟩] exW = 0 := by decide
  have h2 : findX [⟨1, 0, 0, 3, 2⟩] exW = 3 := by decide
  unfold placed
  rw [h1, h2]
  rfl

section
variable {S : World → (Nat → Prop) → Addr → List Fl → Prop}

/-- A space that is put into by stages, beside blocks L that stay as they were, and blocks G that are one's own. -/
def spaceK (S : World → (Nat → Prop) → Addr → List Fl → Prop) (w0 W : World) (p : Addr) (L : Nat → Prop) (fss : Nat → List Fl) : Nat → World → (Nat → Prop) → Prop := fun s w G =>
  Below w0.heap.size w0 w ∧ W.heap.size ≤ w.heap.size ∧ (∀ k, L k → w.heap[k]? = W.heap[k]?) ∧ ∃ F, S w F p (fss s) ∧ (∀ k, F k → w0.heap.size ≤ k) ∧ (∀ k, L k → ¬ F k) ∧ ∀ k, G k → ¬ F k ∧ ¬ L k ∧ w0.heap.size ≤ k ∧ k < w.heap.size

theorem spaceK_kept (hO : SpaceOk S) {w0 W : World} {p : Addr} {L : Nat → Prop} {fss : Nat → List Fl} (hL : ∀ k, L k → k < W.heap.size) : Draw.Kept (spaceK S w0 W p L fss) where
  below := fun s w w' G G' ⟨h1, h2, h3, F, h4, h5, h6, h7⟩ k hG => ⟨thru h1 k, Nat.le_trans h2 k.size, fun j hj => (k.block j (Nat.lt_of_lt_of_le (hL j hj) h2)).trans (h3 j hj), F, thruS hO h4 k, h5, h6, fun j hj => by
    have hs := h1.size
    have hk := k.size
    rcases hG j hj with e | ⟨e1, e2⟩
    · obtain ⟨q1, q2, q3, q4⟩ := h7 j e
      exact ⟨q1, q2, q3, by omega⟩
    · exact ⟨fun q => by have := hO.lt _ _ _ _ h4 j q; omega, fun q => by have := hL j q; omega, by omega, e2⟩⟩
  only := fun s w w' b G ⟨h1, h2, h3, F, h4, h5, h6, h7⟩ hb ho => by
    obtain ⟨q1, q2, q3, q4⟩ := h7 b hb
    refine ⟨ho.below h1 q3, by rw [ho.size]; exact h2, fun j hj => (ho.block j (fun e => q2 (by rw [← e]; exact hj))).trans (h3 j hj), F, hO.keep _ _ _ (fun j => j = b) _ _ h4 ⟨ho.os, ho.tape, ho.output, by rw [ho.size]; exact Nat.le_refl _, fun j hj hn => ho.block j hn⟩ (fun j hj e => q1 (by rw [← e]; exact hj)), h5, h6, fun j hj => by rw [ho.size]; exact h7 j hj⟩
  less := fun s w G G' ⟨h1, h2, h3, F, h4, h5, h6, h7⟩ hG => ⟨h1, h2, h3, F, h4, h5, h6, fun j hj => h7 j (hG j hj)⟩

theorem spaceK_start (hO : SpaceOk S) {w0 W : World} {p : Addr} {L : Nat → Prop} {fss : Nat → List Fl} {F : Nat → Prop} (h : S W F p (fss 0)) (hB : Below w0.heap.size w0 W) (hF : ∀ k, F k → w0.heap.size ≤ k) (hLF : ∀ k, L k → ¬ F k) :
    spaceK S w0 W p L fss 0 { W with drawn := W.drawn + 1 } (fun _ => False) := by
  have hk : Below W.heap.size W { W with drawn := W.drawn + 1 } := ⟨rfl, rfl, rfl, Nat.le_refl _, fun _ _ => rfl⟩
  exact ⟨thru hB hk, Nat.le_refl _, fun _ _ => rfl, F, thruS hO h hk, hF, hLF, fun _ q => q.elim⟩

theorem spaceK_put (hO : SpaceOk S) (hP : PlaceOk S) {w0 W w : World} {p : Addr} {L G : Nat → Prop} {fss : Nat → List Fl} {s : Nat} (x : Wt) (hL : ∀ k, L k → k < W.heap.size) (h : spaceK S w0 W p L fss s w G)
    (hlen : (fss s).length < 1000) (h49 : (fss s).all near49 = true) (hr : RightW x) (hn : fss (s + 1) = fss s ++ [placed (fss s) x]) :
    Calls Try.prog 24 #[.pointer (some p), x.v] w fun e w'' => e = .returned (Fl.box (placed (fss s) x)) ∧ spaceK S w0 W p L fss (s + 1) w'' G ∧ w.heap.size ≤ w''.heap.size ∧ ∀ k, G k → w''.heap[k]? = w.heap[k]? := by
  obtain ⟨h1, h2, h3, F, h4, h5, h6, h7⟩ := h
  refine (hP.put w F p (fss s) x h4 hlen h49 hr).mono ?_
  rintro e w' ⟨rfl, ⟨F', g1, g2⟩, g3⟩
  have hs := h1.size
  have hg := g3.size
  refine ⟨rfl, ⟨h1.trans (g3.below hs h5), by omega, fun k hk => (g3.block k (Nat.lt_of_lt_of_le (hL k hk) h2) (h6 k hk)).trans (h3 k hk), F', by rw [hn]; exact g1, fun k hk => (g2 k hk).elim (h5 k) (fun q => by omega), fun k hk q => (g2 k q).elim (h6 k hk) (fun e => by have := hL k hk; omega), fun k hk => ?_⟩, hg, fun k hk => g3.block k (h7 k hk).2.2.2 (h7 k hk).1⟩
  obtain ⟨q1, q2, q3, q4⟩ := h7 k hk
  exact ⟨fun q => (g2 k q).elim q1 (fun e => by omega), q2, q3, by omega⟩

theorem atW_block {w w' : World} {b : Nat} {x : Wt} (h : AtW w b x) (k : w'.heap[b]? = w.heap[b]?) : AtW w' b x := by
  have e : ∀ o, w'.cell? ⟨b, o, none⟩ = w.cell? ⟨b, o, none⟩ := fun o => World.cell?_of_block (a := ⟨b, o, none⟩) k
  unfold AtW at *
  simp only [e]
  exact h

/-- A store of four numbers into a block of four. -/
theorem only_put4 {w : World} {g : Nat} (T : TypeId) (x0 x1 x2 x3 y0 y1 y2 y3 : Int) (h : w.heap[g]? = some (.cells #[.int .i64 x0, .int .i64 x1, .int .i64 x2, .int .i64 x3] T)) :
    ((((w.setCell ⟨g, 0, none⟩ (.int .i64 y0)).setCell ⟨g, 1, none⟩ (.int .i64 y1)).setCell ⟨g, 2, none⟩ (.int .i64 y2)).setCell ⟨g, 3, none⟩ (.int .i64 y3)).heap[g]? = some (.cells #[.int .i64 y0, .int .i64 y1, .int .i64 y2, .int .i64 y3] T) ∧
    Draw.Only g w ((((w.setCell ⟨g, 0, none⟩ (.int .i64 y0)).setCell ⟨g, 1, none⟩ (.int .i64 y1)).setCell ⟨g, 2, none⟩ (.int .i64 y2)).setCell ⟨g, 3, none⟩ (.int .i64 y3)) :=
  ⟨set4 h y0 y1 y2 y3, (((Draw.Only.set g _ 0 _).trans (Draw.Only.set g _ 1 _)).trans (Draw.Only.set g _ 2 _)).trans (Draw.Only.set g _ 3 _)⟩

def exS : Nat → List Fl
  | 0 => []
  | 1 => [⟨1, 0, 0, 3, 2⟩]
  | _ => [⟨1, 0, 0, 3, 2⟩, ⟨1, 3, 0, 6, 2⟩]

set_option maxRecDepth 100000 in
set_option maxHeartbeats 1000000 in
theorem qspeaks (hO : SpaceOk S) (hP : PlaceOk S) (w : World) : Calls Try.prog 11 #[] w fun e w' => e = .returned (.bool true) ∧ Below w.heap.size w w' := by
  have HNew := Lib.hid (hO.new w)
  go_enter Try.func11, Try.ntmps11
  go_upto_region 4 with (first
    | (go_at_call 22; refine HNew.out.mono ?_; rintro e w1 ⟨⟨p, F, rfl, hL, hF⟩, k1⟩; have HL := Lib.hid (⟨hL, hF, k1⟩ : S w1 F p [] ∧ (∀ k, F k → w.heap.size ≤ k) ∧ Below w.heap.size w w1); clear hL hF k1))
  go_upto_region 5 with fail
  generalize hW : World.alloc w1 _ = W
  obtain ⟨b1, hb⟩ : ∃ b1, w1.heap.size = b1 := ⟨_, rfl⟩
  have hkW : Below w1.heap.size w1 W := by rw [← hW]; exact ba1 _ _
  have a1 : AtW W b1 exW := by rw [← hW, ← hb]; exact atW_boxed w1 exW _
  rw [hb]
  have hbF : ¬ F b1 := fun h => by have := hO.lt _ _ _ _ HL.out.1 b1 h; omega
  have hlt : ∀ k, k = b1 → k < W.heap.size := fun k e => by rw [e]; exact a1.block
  have K0 := spaceK_start (w0 := w) (W := W) (p := p) (L := fun k => k = b1) (fss := exS) hO (F := F) (thruS hO HL.out.1 hkW) (thru HL.out.2.2 hkW) HL.out.2.1 (fun k e => by rw [e]; exact hbF)
  have HA := Lib.hid (fun s w' G (h : spaceK S w W p (fun k => k = b1) exS s w' G) => atW_block a1 (h.2.2.1 b1 rfl))
  have HT1 := Lib.hid (fun w' G (h : spaceK S w W p (fun k => k = b1) exS 0 w' G) => spaceK_put hO hP exW hlt h (by decide) (by decide) exW_right (by rw [show exS 0 = [] from rfl, exW_one]; rfl))
  have HT2 := Lib.hid (fun w' G (h : spaceK S w W p (fun k => k = b1) exS 1 w' G) => spaceK_put hO hP exW hlt h (by decide) (by decide) exW_right (by rw [show exS 1 = [⟨1, 0, 0, 3, 2⟩] from rfl, exW_two]; rfl))
  rw [show exS 0 = [] from rfl, exW_one] at HT1
  rw [show exS 1 = [⟨1, 0, 0, 3, 2⟩] from rfl, exW_two] at HT2
  clear hW hb hkW a1 hbF
  refine Draw.wp_region_drawn (spaceK S w W p (fun k => k = b1) exS) 2 [.val (.pointer (some p)), .val exW.v, .turn 0 (Fl.box ⟨1, 0, 0, 3, 2⟩), .val (.pointer (some p)), .val exW.v, .turn 1 (Fl.box ⟨1, 3, 0, 6, 2⟩),
    .box (.cells #[.int .i64 0, .int .i64 0, .int .i64 0, .int .i64 0] 40), .box (.cells #[.int .i64 0, .int .i64 0, .int .i64 0, .int .i64 0] 40),
    .put 6 (.cells #[.int .i64 0, .int .i64 0, .int .i64 3, .int .i64 2] 40), .put 7 (.cells #[.int .i64 3, .int .i64 0, .int .i64 6, .int .i64 2] 40)] (by kernel_rfl) (by kernel_rfl) (by kernel_rfl) (spaceK_kept hO hlt) K0 ?_ ?_
  · clear K0
    simp only [Draw.fill, Draw.Leave.value]
    refine ⟨?_, ?_, ?_, ?_, ?_, ?_, ?_, ?_, ?_, ?_, trivial⟩
    · intro s gg w' G hw hk
      go_simp
      exact ⟨rfl, rfl⟩
    · intro s gg w' G hw hk
      have q0 := (HA.out s w' G hw).1
      have q1 := (HA.out s w' G hw).2.1
      have q2 := (HA.out s w' G hw).2.2.1
      have q3 := (HA.out s w' G hw).2.2.2.1
      have q4 := (HA.out s w' G hw).2.2.2.2.1
      have q5 := (HA.out s w' G hw).2.2.2.2.2.1
      have q6 := (HA.out s w' G hw).2.2.2.2.2.2
      go_simp
      exact ⟨rfl, rfl⟩
    · intro gg w' G hw hk
      go_simp
      exact Draw.turns_call (HT1.out w' G hw)
    · intro s gg w' G hw hk
      go_simp
      exact ⟨rfl, rfl⟩
    · intro s gg w' G hw hk
      have q0 := (HA.out s w' G hw).1
      have q1 := (HA.out s w' G hw).2.1
      have q2 := (HA.out s w' G hw).2.2.1
      have q3 := (HA.out s w' G hw).2.2.2.1
      have q4 := (HA.out s w' G hw).2.2.2.2.1
      have q5 := (HA.out s w' G hw).2.2.2.2.2.1
      have q6 := (HA.out s w' G hw).2.2.2.2.2.2
      go_simp
      exact ⟨rfl, rfl⟩
    · intro gg w' G hw hk
      go_simp
      exact Draw.turns_call (HT2.out w' G hw)
    · intro s gg w' G hw hk
      go_simp
    · intro s gg w' G hw hk
      go_simp
    · intro s gg w' G hw y b hy hob hb
      obtain rfl : Draw.Leave.box _ = y := Option.some.inj hy
      obtain rfl : _ = b := Option.some.inj hob
      obtain ⟨r0, r1, r2, r3⟩ := R4.of_block hb
      obtain ⟨f0, f1, f2, f3⟩ := free4 hb
      refine ⟨_, ?_, only_put4 _ 0 0 0 0 0 0 3 2 hb⟩
      clear hb
      go_simp
      rfl
    · intro s gg w' G hw y b hy hob hb
      obtain rfl : Draw.Leave.box _ = y := Option.some.inj hy
      obtain rfl : _ = b := Option.some.inj hob
      obtain ⟨r0, r1, r2, r3⟩ := R4.of_block hb
      obtain ⟨f0, f1, f2, f3⟩ := free4 hb
      refine ⟨_, ?_, only_put4 _ 0 0 0 0 3 0 6 2 hb⟩
      clear hb
      go_simp
      rfl
  intro gg w6 G6 k6 hbox hput hap
  have p6 := hput 8 6 _ rfl
  have p7 := hput 9 7 _ rfl
  have K6 := Lib.hid k6.1
  obtain ⟨r0, r1, r2, r3⟩ := R4.of_block p6
  obtain ⟨s0, s1, s2, s3⟩ := R4.of_block p7
  have q1 := eqR4_same 0 0 3 2 w6
  have q2 := eqR4_same 3 0 6 2 w6
  clear K0 HA HT1 HT2 k6 hbox hput hap p6 p7 hlt
  simp only [Draw.fill, Draw.Leave.value]
  go_simp
  go_wp2_with fail
  go_ret
  exact ⟨rfl, K6.out⟩

end

end Go.Proofs.Ytkabpflbedpbaaa.Place

/-! All contracts of the program's placing at once. -/
namespace Go.Proofs.Ytkabpflbedpbaaa.Place
open Go.RowKit Go.Sort Go.Proofs.Ytkabpflbedpbaaa.Rect Go.Proofs.Ytkabpflbedpbaaa.More Go.Proofs.Ytkabpflbedpbaaa.Shelf Go.Proofs.Ytkabpflbedpbaaa.Space

/-- What the program's placing answers. -/
theorem placeOk {S : World → (Nat → Prop) → Addr → List Fl → Prop} (hO : SpaceOk S) : PlaceOk S where
  start := fun w F p fs x h h49 hr => pstart_any hO w F p fs x h h49 hr
  at' := fun w F p fs x y h h49 hr hy => pat_any hO w F p fs x y h h49 hr hy
  find := fun w F p fs x h h49 hr => pfind_any hO w F p fs x h h49 hr
  put := fun w F p fs x h hl h49 hr => pput_any hO w F p fs x h hl h49 hr

end Go.Proofs.Ytkabpflbedpbaaa.Place
