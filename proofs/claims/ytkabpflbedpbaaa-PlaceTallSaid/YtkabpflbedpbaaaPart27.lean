/- Texts of this proof that follow each other, in one file. -/
import Derived.Test.YtkabpflbedpbaaaPart26
import Derived.Test.YtkabpflbedpbaaaPart14
/-! The program's own: where a float stands; it is put there. -/
namespace Go.Proofs.Ytkabpflbedpbaaa.Place
open Go.RowKit Go.Sort Go.Proofs.Ytkabpflbedpbaaa.Rect Go.Proofs.Ytkabpflbedpbaaa.More Go.Proofs.Ytkabpflbedpbaaa.Shelf Go.Proofs.Ytkabpflbedpbaaa.Space
set_option linter.unusedVariables false
set_option linter.unusedSimpArgs false

/-- What the last place that was asked had at its left. -/
def lastAt (fs : List Fl) (x : Wt) (pre : List Int) : Int := match pre.getLast? with
  | some z => atQ fs (flat x) z
  | none => 0

theorem lastAt_snoc (fs : List Fl) (x : Wt) (pre : List Int) (z : Int) : lastAt fs x (pre ++ [z]) = atQ fs (flat x) z := by
  unfold lastAt
  rw [List.getLast?_append]
  rfl

theorem lastAt_found {fs : List Fl} {x : Wt} (h49 : fs.all near49 = true) (hr : RightW x) : lastAt fs x (askL (okQ fs (flat x)) (topsD fs (startQ fs x))) = findX fs x := by
  have hat := atD_at (okQ fs (flat x)) fs (startQ fs x)
  unfold askL
  rw [List.take_add_one, hat]
  show lastAt fs x (_ ++ [findY fs x]) = _
  rw [lastAt_snoc]
  have hf := find_is h49 hr
  unfold atQ
  rw [if_pos (by rw [← ok_flat hf.1]; exact hf.2.1)]
  rfl

abbrev Zero4' (w : World) (g : Nat) (T : TypeId) : Prop := w.heap[g]? = some (.cells #[.int .i64 0, .int .i64 0, .int .i64 0, .int .i64 0] T)

section
variable {S : World → (Nat → Prop) → Addr → List Fl → Prop}

set_option maxRecDepth 100000 in
set_option maxHeartbeats 600000 in
theorem pfc_any (hO : SpaceOk S) (b0 b3 b4 : Nat) (F : Nat → Prop) (p : Addr) (fs : List Fl) (x : Wt) (z l : Int) (w : World) (h : S w F p fs) (h49 : fs.all near49 = true) (hr : RightW x) (hz : inS z = true)
    (e0 : w.cell? ⟨b0, 0, none⟩ = some (.pointer (some p))) (e3 : AtW w b3 x) (e4 : w.cell? ⟨b4, 0, none⟩ = some (.int .i64 l)) (f4 : w.frozen? ⟨b4, 0, none⟩ = false) :
    Calls Try.prog 41 (#[.int .i64 z] ++ #[.pointer (some ⟨b0, 0, none⟩), .pointer (some ⟨b3, 0, none⟩), .pointer (some ⟨b4, 0, none⟩)]) w fun e w' => e = .returned (.bool (okQ fs x z)) ∧ ∃ w2, Below w.heap.size w w2 ∧ w' = w2.setCell ⟨b4, 0, none⟩ (.int .i64 (atQ fs x z)) := by
  have hz2 := inS_iff.1 hz
  have HAt := Lib.hid (pat_any hO w F p fs x z h h49 hr ⟨by omega, by omega⟩)
  generalize okQ fs x z = v at *
  generalize atQ fs x z = at' at *
  obtain ⟨c0, c1, c2, c3, c4, c5, c6⟩ := e3
  have H4 := Lib.hid (⟨e4, f4⟩ : w.cell? ⟨b4, 0, none⟩ = some (.int .i64 l) ∧ w.frozen? ⟨b4, 0, none⟩ = false)
  clear h h49 hr hz hz2 e4 f4
  go_enter Try.func41, Try.ntmps41
  go_upto_region 2 with (first
    | (go_at_call 13; refine HAt.out.mono ?_; rintro e w1 ⟨rfl, k1⟩; have K1 := Lib.hid k1; clear k1))
  clear e0 c0 c1 c2 c3 c4 c5 c6
  have g4 := (K1.out.cell (p := ⟨b4, 0, none⟩) (block_lt_of_cell H4.out.1)).trans H4.out.1
  have g5 := (K1.out.frozen (p := ⟨b4, 0, none⟩) (block_lt_of_cell H4.out.1)).trans H4.out.2
  go_wp2_with fail
  go_ret
  exact ⟨rfl, w1, K1.out, rfl⟩

/-- What stands while the search asks. -/
def Asks (w : World) (b0 b1 b2 b3 b4 : Nat) (p : Addr) (fs : List Fl) (x : Wt) (wr : World) (pre : List Int) : Prop :=
  Below w.heap.size w wr ∧ wr.cell? ⟨b0, 0, none⟩ = some (.pointer (some p)) ∧ AtW wr b1 x ∧ Zero4' wr b2 40 ∧ AtW wr b3 (flat x) ∧ wr.cell? ⟨b4, 0, none⟩ = some (.int .i64 (lastAt fs x pre)) ∧ wr.frozen? ⟨b4, 0, none⟩ = false

theorem asks_below {w : World} {b0 b1 b2 b3 b4 : Nat} {p : Addr} {fs : List Fl} {x : Wt} {wr w' : World} {pre : List Int} (h : Asks w b0 b1 b2 b3 b4 p fs x wr pre) (k : Below wr.heap.size wr w') : Asks w b0 b1 b2 b3 b4 p fs x w' pre := by
  obtain ⟨h1, h2, h3, h4, h5, h6, h7⟩ := h
  exact ⟨thru h1 k, (k.cell (p := ⟨b0, 0, none⟩) (block_lt_of_cell h2)).trans h2, h3.below k, (k.block b2 (lt_of_block h4)).trans h4, h5.below k, (k.cell (p := ⟨b4, 0, none⟩) (block_lt_of_cell h6)).trans h6, (k.frozen (p := ⟨b4, 0, none⟩) (block_lt_of_cell h6)).trans h7⟩

theorem atW_set {w : World} {b b4 : Nat} {x : Wt} {v : Value} (h : AtW w b x) (hne : b ≠ b4) : AtW (w.setCell ⟨b4, 0, none⟩ v) b x := by
  have e : ∀ o, (w.setCell ⟨b4, 0, none⟩ v).cell? ⟨b, o, none⟩ = w.cell? ⟨b, o, none⟩ := fun o => World.cell?_of_block (a := ⟨b, o, none⟩) (Below.heap_setCell _ _ _ _ hne)
  unfold AtW at *
  simp only [e]
  exact h

theorem asks_set {w : World} {b0 b1 b2 b3 b4 : Nat} {p : Addr} {fs : List Fl} {x : Wt} {wr : World} {pre : List Int} (h : Asks w b0 b1 b2 b3 b4 p fs x wr pre) (z : Int) (hw : w.heap.size ≤ b4) (n0 : b0 ≠ b4) (n1 : b1 ≠ b4) (n2 : b2 ≠ b4) (n3 : b3 ≠ b4) :
    Asks w b0 b1 b2 b3 b4 p fs x (wr.setCell ⟨b4, 0, none⟩ (.int .i64 (atQ fs (flat x) z))) (pre ++ [z]) := by
  obtain ⟨h1, h2, h3, h4, h5, h6, h7⟩ := h
  refine ⟨h1.setCell (p := ⟨b4, 0, none⟩) hw _, (World.cell?_of_block (a := ⟨b0, 0, none⟩) (Below.heap_setCell _ _ _ _ n0)).trans h2, atW_set h3 n1, (Below.heap_setCell _ _ _ _ n2).trans h4, atW_set h5 n3, ?_, by rw [World.frozen?_setCell]; exact h7⟩
  rw [lastAt_snoc]
  exact World.cell?_setCell_same _ _ _ h6

abbrev rowW (W : World) (x : Wt) : World := (W.alloc (.cells #[.int .i64 x.s, .int .i64 x.c, .int .i64 x.f, .int .i64 x.t, .int .i64 x.wd, .int .i64 1, .int .i64 x.y] 34)).alloc (.cells #[.int .i64 0] 3)

theorem row_made (W : World) (x : Wt) : Below W.heap.size W (rowW W x) ∧ AtW (rowW W x) W.heap.size (flat x) ∧ (rowW W x).cell? ⟨W.heap.size + 1, 0, none⟩ = some (.int .i64 0) ∧ (rowW W x).frozen? ⟨W.heap.size + 1, 0, none⟩ = false ∧ (rowW W x).heap.size = W.heap.size + 1 + 1 := by
  refine ⟨ba2 _ _ _, ⟨?_, ?_, ?_, ?_, ?_, ?_, ?_⟩, ?_, ?_, ?_⟩ <;> simp [go_sem, flat]

set_option maxRecDepth 100000 in
set_option maxHeartbeats 1000000 in
theorem pfind_any (hO : SpaceOk S) (w : World) (F : Nat → Prop) (p : Addr) (fs : List Fl) (x : Wt) (h : S w F p fs) (h49 : fs.all near49 = true) (hr : RightW x) :
    Calls Try.prog 18 #[.pointer (some p), x.v] w fun r w' => r = .returned (.agg #[.int .i64 (findX fs x), .int .i64 (findY fs x), .int .i64 (findX fs x + x.wd), .int .i64 (findY fs x + x.ht)]) ∧ Below w.heap.size w w' := by
  have HSt := Lib.hid (fun w1 (k : S w1 F p fs) => pstart_any hO w1 F p fs x k h49 hr)
  have hst := startQ_49 h49 hr
  have HFi := Lib.hid (fun w1 b0 b1 b2 b3 b4 (k : S w1 F p fs) (hk : Asks w b0 b1 b2 b3 b4 p fs x w1 []) (hw : w.heap.size ≤ b4) (n0 : b0 ≠ b4) (n1 : b1 ≠ b4) (n2 : b2 ≠ b4) (n3 : b3 ≠ b4) =>
    hO.first w1 F p fs (startQ fs x) 41 #[.pointer (some ⟨b0, 0, none⟩), .pointer (some ⟨b3, 0, none⟩), .pointer (some ⟨b4, 0, none⟩)] (okQ fs (flat x)) (Asks w b0 b1 b2 b3 b4 p fs x) k (near49_near h49) (inS_iff.2 ⟨by omega, by omega⟩)
      (enters_of Try.func41 (by kernel_rfl) rfl) hk (fun w1 w2 pre q1 q2 => asks_below q1 q2)
      (fun w1 pre z hs hk hz hl => (pfc_any hO b0 b3 b4 F p fs (flat x) z _ w1 hs h49 (right_flat hr) hz hk.2.1 hk.2.2.2.2.1 hk.2.2.2.2.2.1 hk.2.2.2.2.2.2).mono (by
        rintro e w' ⟨rfl, w2, k2, rfl⟩
        refine ⟨rfl, hO.keep _ _ _ (fun j => j = b4) _ _ (thruS hO hs k2) (But.set b4 0 _ rfl) (fun j hj e => ?_), asks_set (asks_below hk k2) z hw n0 n1 n2 n3⟩
        have := hO.lt _ _ _ _ h j hj
        omega)))
  have hla := lastAt_found h49 hr
  rw [show atD (okQ fs (flat x)) (topsD fs (startQ fs x)) = findY fs x from rfl] at HFi
  have hf := find_49 h49 hr
  have hfy := findY_49 h49 hr
  obtain ⟨f1, f2, t1, t2, wd1, wd2, ht1, ht2, y1, y2, sd, cl, ft⟩ := hr
  have hw1 : IntKind.i64.wrap (findX fs x + x.wd) = findX fs x + x.wd := IntWalk.i64_in _ (by omega)
  have hw2 : IntKind.i64.wrap (findY fs x + x.ht) = findY fs x + x.ht := IntWalk.i64_in _ (by omega)
  have HW := Lib.hid (⟨hw1, hw2⟩ : IntKind.i64.wrap (findX fs x + x.wd) = findX fs x + x.wd ∧ IntKind.i64.wrap (findY fs x + x.ht) = findY fs x + x.ht)
  have HLA := Lib.hid hla
  generalize hst0 : startQ fs x = st at *
  generalize askL (okQ fs (flat x)) (topsD fs st) = asked at *
  generalize findX fs x = fx at *
  generalize findY fs x = fy at *
  have HS := Lib.hid h
  clear h h49 hst hla hf hfy f1 f2 t1 t2 wd1 wd2 ht1 ht2 y1 y2 sd cl ft hw1 hw2 hst0
  go_enter Try.func18, Try.ntmps18
  go_upto_region 1 with fail
  generalize hW1 : World.alloc w _ = W1
  obtain ⟨b0, hb0⟩ : ∃ b0, w.heap.size = b0 := ⟨_, rfl⟩
  have k1 : Below w.heap.size w W1 := by rw [← hW1]; exact ba1 _ _
  have s1 : W1.heap.size = b0 + 1 := by rw [← hW1, ← hb0]; simp
  have e1 : W1.cell? ⟨b0, 0, none⟩ = some (.pointer (some p)) := by rw [← hW1, ← hb0]; simp [go_sem]
  clear hW1
  generalize hW2 : World.alloc W1 _ = W2
  have k2 : Below W1.heap.size W1 W2 := by rw [← hW2]; exact ba1 _ _
  have s2 : W2.heap.size = b0 + 1 + 1 := by rw [← hW2, ← s1]; simp
  have a2 : AtW W2 (b0 + 1) x := by rw [← hW2, ← s1]; exact atW_boxed _ _ _
  clear hW2
  generalize hW3 : World.alloc W2 _ = W3
  have k3 : Below W2.heap.size W2 W3 := by rw [← hW3]; exact ba1 _ _
  have s3 : W3.heap.size = b0 + 1 + 1 + 1 := by rw [← hW3, ← s2]; simp
  have z3 : Zero4' W3 (b0 + 1 + 1) 40 := by rw [← hW3, ← s2]; exact heap_alloc_new W2 _
  clear hW3
  rw [hb0]
  obtain ⟨b1, hb1⟩ : ∃ b1, b0 + 1 = b1 := ⟨_, rfl⟩
  rw [hb1] at s1 s2 s3 a2 z3
  rw [hb1]
  obtain ⟨b2, hb2⟩ : ∃ b2, b1 + 1 = b2 := ⟨_, rfl⟩
  rw [hb2] at s2 s3 z3
  rw [hb2]
  have S3 := Lib.hid (⟨thru (thru k1 k2) k3, (k3.cell (p := ⟨b0, 0, none⟩) (show b0 < W2.heap.size by omega)).trans ((k2.cell (p := ⟨b0, 0, none⟩) (show b0 < W1.heap.size by omega)).trans e1), a2.below k3, z3, s3⟩ : Below w.heap.size w W3 ∧ W3.cell? ⟨b0, 0, none⟩ = some (.pointer (some p)) ∧ AtW W3 b1 x ∧ Zero4' W3 b2 40 ∧ W3.heap.size = b2 + 1)
  have HB := Lib.hid (⟨hb0, hb1, hb2⟩ : w.heap.size = b0 ∧ b0 + 1 = b1 ∧ b1 + 1 = b2)
  clear k1 e1 k2 a2 k3 z3 s1 s2 s3 hb0 hb1 hb2
  obtain ⟨c0, c1, c2, c3, c4, c5, c6⟩ := S3.out.2.2.1
  go_upto_region 3 with fail
  obtain ⟨m1, m2, m3, m4, m5⟩ := row_made W3 x
  generalize hW6 : World.alloc (World.alloc W3 _) _ = W6
  have eW6 : rowW W3 x = W6 := hW6
  rw [eW6] at m1 m2 m3 m4 m5
  clear hW6 eW6
  obtain ⟨b3, hb3⟩ : ∃ b3, W3.heap.size = b3 := ⟨_, rfl⟩
  obtain ⟨b4, hb4⟩ : ∃ b4, b3 + 1 = b4 := ⟨_, rfl⟩
  rw [hb3] at m2 m3 m4 m5
  rw [hb4] at m3 m4 m5
  rw [hb3, hb4]
  have hAsk : Asks w b0 b1 b2 b3 b4 p fs x W6 [] := ⟨thru S3.out.1 m1, (m1.cell (p := ⟨b0, 0, none⟩) (block_lt_of_cell S3.out.2.1)).trans S3.out.2.1, S3.out.2.2.1.below m1, (m1.block b2 (lt_of_block S3.out.2.2.2.1)).trans S3.out.2.2.2.1, m2, m3, m4⟩
  have HC := Lib.hid (fun w' (j : Below W6.heap.size W6 w') => asks_below hAsk j)
  have HS6 := Lib.hid (thruS hO HS.out hAsk.1)
  have HN := Lib.hid (show w.heap.size ≤ b4 ∧ b0 ≠ b4 ∧ b1 ≠ b4 ∧ b2 ≠ b4 ∧ b3 ≠ b4 from by
    obtain ⟨g0, g1, g2⟩ := HB.out
    have g3 := S3.out.2.2.2.2
    omega)
  have HN2 := Lib.hid (show w.heap.size ≤ b2 from by
    obtain ⟨g0, g1, g2⟩ := HB.out
    omega)
  clear m1 m2 m3 m4 m5 hb3 hb4 hAsk c0 c1 c2 c3 c4 c5 c6 S3 HB
  refine Hold.wp_region_hold [.val (.pointer (some p)), .val (.pointer (some p)), .val (x.v), .val (.int .i64 st), .val (.func (.func 41) #[] #[.pointer (some ⟨b0, 0, none⟩), .pointer (some ⟨b3, 0, none⟩), .pointer (some ⟨b4, 0, none⟩)])] (by kernel_rfl) (by kernel_rfl) (by kernel_rfl) ?_ ?_
  · simp only [Hold.fill, Hold.Leave.value]
    refine ⟨?_, ?_, ?_, ?_, ?_, trivial⟩
    · intro gg w' hw hk
      have q0 := (HC.out w' hw).2.1
      go_simp
      exact ⟨rfl, rfl⟩
    · intro gg w' hw hk
      have q0 := (HC.out w' hw).2.1
      go_simp
      exact ⟨rfl, rfl⟩
    · intro gg w' hw hk
      have q0 := (HC.out w' hw).2.2.1.1
      have q1 := (HC.out w' hw).2.2.1.2.1
      have q2 := (HC.out w' hw).2.2.1.2.2.1
      have q3 := (HC.out w' hw).2.2.1.2.2.2.1
      have q4 := (HC.out w' hw).2.2.1.2.2.2.2.1
      have q5 := (HC.out w' hw).2.2.1.2.2.2.2.2.1
      have q6 := (HC.out w' hw).2.2.1.2.2.2.2.2.2
      go_simp
      exact ⟨rfl, rfl⟩
    · intro gg w' hw hk
      go_simp
      exact Hold.stays_call (HSt.out w' (thruS hO HS6.out hw))
    · intro gg w' hw hk
      go_simp
      exact ⟨rfl, rfl⟩
  intro gg w7 k7 hgg
  clear hgg
  simp only [Hold.fill, Hold.Leave.value, List.length_cons, List.length_nil, List.drop_succ_cons, List.drop_zero]
  have HF7 := Lib.hid (HFi.out w7 b0 b1 b2 b3 b4 (thruS hO HS6.out k7) (HC.out w7 k7) HN.out.1 HN.out.2.1 HN.out.2.2.1 HN.out.2.2.2.1 HN.out.2.2.2.2)
  clear k7 HC HFi HSt
  go_upto_region 4 with (first
    | (go_at_call 40; refine HF7.out.mono ?_; rintro e w8 ⟨rfl, hS8, h8⟩; have S8 := Lib.hid h8; clear hS8 h8))
  have h8 := S8.out
  unfold Asks at h8
  rw [HLA.out] at h8
  have T8 := Lib.hid h8
  clear h8 S8
  obtain ⟨-, -, c1, -, -, e4, -⟩ := T8.out
  obtain ⟨-, -, -, -, c4, c5, -⟩ := c1
  obtain ⟨hw1, hw2⟩ := HW.out
  have HO := Lib.hid (fun w' (j : Below w8.heap.size w8 w') => (⟨(j.block b2 (lt_of_block T8.out.2.2.2.1)).trans T8.out.2.2.2.1, thru T8.out.1 j⟩ : Zero4' w' b2 40 ∧ Below w.heap.size w w'))
  have hb2 : w.heap.size ≤ b2 := HN2.out
  go_wp2_with (first
    | (go_at_call 42; refine (rof_any _ _ _ _ _).mono ?_; rintro e w9 ⟨rfl, k9⟩; have T9 := Lib.hid (HO.out _ k9); obtain ⟨r0, r1, r2, r3⟩ := R4.of_block T9.out.1; obtain ⟨q0, q1, q2, q3⟩ := free4 T9.out.1; clear k9 c4 c5 e4))
  exact bodyPost_ret (v := .agg #[.int .i64 fx, .int .i64 fy, .int .i64 (fx + x.wd), .int .i64 (fy + x.ht)]) (by simp [results, Try.results18, go_sem, r0, r1, r2, r3]) rfl ⟨rfl, ((((T9.out.2.setCell (p := ⟨b2, 0, none⟩) hb2 _).setCell (p := ⟨b2, 1, none⟩) hb2 _).setCell (p := ⟨b2, 2, none⟩) hb2 _).setCell (p := ⟨b2, 3, none⟩) hb2 _)⟩

set_option maxRecDepth 100000 in
set_option maxHeartbeats 600000 in
theorem pput_any (hO : SpaceOk S) (w : World) (F : Nat → Prop) (p : Addr) (fs : List Fl) (x : Wt) (h : S w F p fs) (hlen : fs.length < 1000) (h49 : fs.all near49 = true) (hr : RightW x) :
    Calls Try.prog 24 #[.pointer (some p), x.v] w fun r w' => r = .returned (.agg #[.int .i64 (findX fs x), .int .i64 (findY fs x), .int .i64 (findX fs x + x.wd), .int .i64 (findY fs x + x.ht)]) ∧ (∃ F', S w' F' p (fs ++ [placed fs x]) ∧ ∀ k, F' k → F k ∨ w.heap.size ≤ k) ∧ But F w w' := by
  have HFi := Lib.hid (fun w1 (k : S w1 F p fs) => pfind_any hO w1 F p fs x k h49 hr)
  have HPu := Lib.hid (fun w1 (k : S w1 F p fs) => hO.put w1 F p fs (placed fs x) k hlen (near49_near h49) (placed_near h49 hr) hr.sd)
  unfold placed at HPu ⊢
  generalize findX fs x = fx at *
  generalize findY fs x = fy at *
  generalize fx + x.wd = fr at *
  generalize fy + x.ht = fb at *
  have HS := Lib.hid h
  have HF := Lib.hid (hO.lt _ _ _ _ h)
  clear h hlen h49 hr
  go_enter Try.func24, Try.ntmps24
  go_upto_region 1 with fail
  generalize hW1 : World.alloc w _ = W1
  obtain ⟨b0, hb0⟩ : ∃ b0, w.heap.size = b0 := ⟨_, rfl⟩
  have k1 : Below w.heap.size w W1 := by rw [← hW1]; exact ba1 _ _
  have s1 : W1.heap.size = b0 + 1 := by rw [← hW1, ← hb0]; simp
  have a1 : AtW W1 b0 x := by rw [← hW1, ← hb0]; exact atW_boxed _ _ _
  clear hW1
  generalize hW2 : World.alloc W1 _ = W2
  have k2 : Below W1.heap.size W1 W2 := by rw [← hW2]; exact ba1 _ _
  have z2 : Zero4' W2 (b0 + 1) 40 := by rw [← hW2, ← s1]; exact heap_alloc_new W1 _
  have s2 : W2.heap.size = b0 + 1 + 1 := by rw [← hW2, ← s1]; simp
  clear hW2
  rw [hb0]
  obtain ⟨b1, hb1⟩ : ∃ b1, b0 + 1 = b1 := ⟨_, rfl⟩
  rw [hb1] at s1 z2 s2
  rw [hb1]
  have S2 := Lib.hid (⟨thru k1 k2, a1.below k2, z2, thruS hO (thruS hO HS.out k1) k2⟩ : Below w.heap.size w W2 ∧ AtW W2 b0 x ∧ Zero4' W2 b1 40 ∧ S W2 F p fs)
  have HB := Lib.hid (show w.heap.size ≤ b0 ∧ w.heap.size ≤ b1 from by omega)
  clear k1 a1 k2 z2 s1 s2 hb0 hb1
  obtain ⟨c0, c1, c2, c3, c4, c5, c6⟩ := S2.out.2.1
  go_upto_region 2 with (first
    | (go_at_call 18; refine (HFi.out _ S2.out.2.2.2).mono ?_; rintro e w3 ⟨rfl, k3⟩; have S3 := Lib.hid (⟨thru S2.out.1 k3, S2.out.2.1.below k3, (k3.block b1 (lt_of_block S2.out.2.2.1)).trans S2.out.2.2.1, thruS hO S2.out.2.2.2 k3⟩ : Below w.heap.size w w3 ∧ AtW w3 b0 x ∧ Zero4' w3 b1 40 ∧ S w3 F p fs); clear k3))
  clear c0 c1 c2 c3 c4 c5 c6
  generalize hW4 : World.alloc w3 _ = W4
  obtain ⟨b2, hb2⟩ : ∃ b2, w3.heap.size = b2 := ⟨_, rfl⟩
  have k4 : Below w3.heap.size w3 W4 := by rw [← hW4]; exact ba1 _ _
  have r4 : R4 W4 b2 fx fy fr fb := by rw [← hW4, ← hb2]; exact R4.of_block (heap_alloc_new w3 _)
  have S4 := Lib.hid (⟨thru S3.out.1 k4, S3.out.2.1.below k4, (k4.block b1 (lt_of_block S3.out.2.2.1)).trans S3.out.2.2.1, thruS hO S3.out.2.2.2 k4, r4, by have := S3.out.1.size; omega⟩ : Below w.heap.size w W4 ∧ AtW W4 b0 x ∧ Zero4' W4 b1 40 ∧ S W4 F p fs ∧ R4 W4 b2 fx fy fr fb ∧ w.heap.size ≤ b2)
  rw [hb2]
  clear hW4 hb2 k4 r4
  obtain ⟨c0, c1, c2, c3, c4, c5, c6⟩ := S4.out.2.1
  obtain ⟨r0, r1, r2, r3⟩ := S4.out.2.2.2.2.1
  have HP4 := Lib.hid (HPu.out _ S4.out.2.2.2.1)
  go_upto_region 3 with (first
    | (go_at_call 46; refine HP4.out.mono ?_; rintro e w5 ⟨⟨v, rfl⟩, ⟨F5, hL5, hF5⟩, k5⟩; have S5 := Lib.hid (⟨⟨F5, hL5, hF5⟩, k5⟩ : (∃ F', S w5 F' p (fs ++ [⟨x.s, fx, fy, fr, fb⟩]) ∧ ∀ k, F' k → F k ∨ W4.heap.size ≤ k) ∧ But F W4 w5); clear hL5 hF5 k5))
  clear c0 c1 c2 c3 c4 c5 c6 r0 r1 r2 r3 HP4 HPu HFi S2 S3
  have hnF : ∀ k, w.heap.size ≤ k → ¬ F k := fun k hk q => by have := HF.out k q; omega
  have hb2l : b2 < W4.heap.size := block_lt_of_cell S4.out.2.2.2.2.1.1
  have hz5 : Zero4' w5 b1 40 := (S5.out.2.block b1 (lt_of_block S4.out.2.2.1) (hnF b1 HB.out.2)).trans S4.out.2.2.1
  have r0 := (S5.out.2.cell (o := 0) hb2l (hnF b2 S4.out.2.2.2.2.2)).trans S4.out.2.2.2.2.1.1
  have r1 := (S5.out.2.cell (o := 1) hb2l (hnF b2 S4.out.2.2.2.2.2)).trans S4.out.2.2.2.2.1.2.1
  have r2 := (S5.out.2.cell (o := 2) hb2l (hnF b2 S4.out.2.2.2.2.2)).trans S4.out.2.2.2.2.1.2.2.1
  have r3 := (S5.out.2.cell (o := 3) hb2l (hnF b2 S4.out.2.2.2.2.2)).trans S4.out.2.2.2.2.1.2.2.2
  obtain ⟨u0, u1, u2, u3⟩ := R4.of_block hz5
  obtain ⟨q0, q1, q2, q3⟩ := free4 hz5
  have HZ5 := Lib.hid hz5
  clear hnF hb2l hz5
  go_wp2_with fail
  have st : ∀ (w' : World) (o : Nat) (v : Value), But (fun j => j = b1) w' (w'.setCell ⟨b1, o, none⟩ v) := fun w' o v => But.set b1 o v rfl
  have hset : But (fun j => j = b1) w5 ((((w5.setCell ⟨b1, 0, none⟩ (.int .i64 fx)).setCell ⟨b1, 1, none⟩ (.int .i64 fy)).setCell ⟨b1, 2, none⟩ (.int .i64 fr)).setCell ⟨b1, 3, none⟩ (.int .i64 fb)) :=
    (((st _ 0 _).trans (st _ 1 _) (fun _ _ h => h)).trans (st _ 2 _) (fun _ _ h => h)).trans (st _ 3 _) (fun _ _ h => h)
  obtain ⟨⟨F5, hL5, hF5⟩, k5⟩ := S5.out
  refine bodyPost_ret (v := .agg #[.int .i64 fx, .int .i64 fy, .int .i64 fr, .int .i64 fb]) (by simp [results, Try.results24, go_sem, u0, u1, u2, u3]) rfl ⟨rfl, ⟨F5, hO.keep _ _ _ _ _ _ hL5 hset (fun k hk e => ?_), fun k hk => (hF5 k hk).imp id fun q => Nat.le_trans S4.out.1.size q⟩, ((But.of_below S4.out.1).trans k5 (fun _ _ h => h)).trans hset (fun j hj e => ?_)⟩
  · have h1 := hF5 k hk
    have h2 : b1 < W4.heap.size := lt_of_block S4.out.2.2.1
    have h3 := HB.out.2
    rcases h1 with h1 | h1
    · have := HF.out k h1; omega
    · omega
  · have h3 := HB.out.2
    omega

end

end Go.Proofs.Ytkabpflbedpbaaa.Place

/-! The contracts of the document's look at floats, and of the law's begin. -/
namespace Go.Proofs.Ytkabpflbedpbaaa.Place
open Go.RowKit Go.Sort Go.Proofs.Ytkabpflbedpbaaa.Rect Go.Proofs.Ytkabpflbedpbaaa.More Go.Proofs.Ytkabpflbedpbaaa.Shelf Go.Proofs.Ytkabpflbedpbaaa.Space
set_option linter.unusedVariables false
set_option linter.unusedSimpArgs false

theorem near_take {fs : List Fl} {k : Nat} {f : Fl} (h : fs[k]? = some f) (ha : (fs.take k).all near49 = true) (hf : near49 f = true) : (fs.take (k + 1)).all near49 = true := by
  rw [List.take_add_one, h, List.all_append, ha]
  simp [hf]
theorem near_not {fs : List Fl} {k : Nat} {f : Fl} (h : fs[k]? = some f) (hf : near49 f = false) : fs.all near49 = false := by
  rw [List.all_eq_false]
  exact ⟨f, List.mem_of_getElem? h, by rw [hf]; simp⟩

def numsF (f : Fl) : List Int := [f.l, f.t, f.r, f.b]
theorem near_num {f : Fl} {j : Nat} (hj : j < 4) {x : Int} (hx : (numsF f).getD j 0 = x) (h : in49 x = false) : near49 f = false := by
  unfold near49
  rw [show [f.l, f.t, f.r, f.b].all in49 = false by
    rw [List.all_eq_false]
    refine ⟨x, ?_, by rw [h]; simp⟩
    rw [← hx]
    show (numsF f).getD j 0 ∈ numsF f
    rw [List.getD_eq_getElem?_getD, List.getElem?_eq_getElem (show j < (numsF f).length from hj)]
    exact List.getElem_mem _]
  rfl
theorem near_side {f : Fl} (h : sideF f = false) : near49 f = false := by unfold near49; rw [h]; simp
theorem near_yes {f : Fl} (h : ∀ j, j < 4 → in49 ((numsF f).getD j 0) = true) (hs : sideF f = true) : near49 f = true := by
  unfold near49
  rw [hs]
  have h0 : in49 f.l = true := h 0 (by omega)
  have h1 : in49 f.t = true := h 1 (by omega)
  have h2 : in49 f.r = true := h 2 (by omega)
  have h3 : in49 f.b = true := h 3 (by omega)
  simp [h0, h1, h2, h3]

theorem atF_num {w : World} {p : Addr} {f : Fl} (h : AtF w p f) (j : Nat) (hj : j < 4) {x : Int} (hx : (numsF f).getD j 0 = x) : w.cell? ⟨p.block, p.off + 1 + j, none⟩ = some (.int .i64 x) := by
  obtain ⟨d0, d1, d2, d3, d4⟩ := h
  rw [← hx]
  match j, hj with
  | 0, _ => exact d1
  | 1, _ => exact d2
  | 2, _ => exact d3
  | 3, _ => exact d4
  | j + 4, h => omega

set_option maxRecDepth 100000 in
set_option maxHeartbeats 2000000 in
theorem pnear_is (A : Option Addr) (n c : Nat) (fs : List Fl) (v : Bool) (w : World) (hn : n = fs.length) (hlen : n ≤ 9223372036854775807) (hx : Floats w w.heap.size A fs) (hv : fs.all near49 = v) :
    Calls Try.prog 28 #[.slice A n c] w fun e w' => e = .returned (.bool v) ∧ Below w.heap.size w w' := by
  have HX := Lib.hid hx
  have HN := Lib.hid hn
  have HV := Lib.hid hv
  clear hx hn hv
  go_enter Try.func28, Try.ntmps28
  go_wp2_with fail
  go_loopw [3] (fun i wr => ∃ k : Nat, k ≤ n ∧ i = .int .i64 (k : Int) ∧ Hid ((fs.take k).all near49 = true ∧ Below w.heap.size w wr)) (fun i _ => n - (intOf i).toNat)
  case atStart => exact ⟨0, Nat.zero_le _, rfl, Lib.hid ⟨by simp, Below.refl _ _⟩⟩
  case round =>
    obtain ⟨k, hk, rfl, H⟩ := hrel
    by_cases hlt : k < n
    · have hki : (k : Int) < (n : Int) := by omega
      have hk0 : ¬ (k : Int) < 0 := by omega
      have hdd : decide ((k : Int) < (n : Int)) = true := decide_eq_true hki
      obtain ⟨f, hf⟩ : ∃ f, fs[k]? = some f := ⟨_, List.getElem?_eq_getElem (by rw [← HN.out]; exact hlt)⟩
      have HK := Lib.hid hf
      obtain ⟨ad0, hA0, -⟩ := HX.out k f hf
      subst hA0
      have HXX := Lib.hid (show ∀ w', Below w.heap.size w w' → AtF w' (ad0.add (k * 5)) f from fun w' kk => by
        obtain ⟨ad, e, hab, h⟩ := (HX.out.thru kk) k f hf
        injection e with e
        rw [e]
        exact h)
      clear hf
      obtain ⟨wo, hwo⟩ : ∃ x, x = wr := ⟨_, rfl⟩
      subst hwo
      go_wp2_with fail
      go_loopw [4] (fun i wr => ∃ j : Nat, j ≤ 4 ∧ i = .int .i64 (j : Int) ∧ Hid ((∀ q, q < j → in49 ((numsF f).getD q 0) = true) ∧ Below w.heap.size w wr)) (fun i _ => 4 - (intOf i).toNat)
      case atStart => exact ⟨0, by omega, rfl, Lib.hid ⟨fun q hq => by omega, H.out.2⟩⟩
      case round =>
        obtain ⟨j, hj, rfl, G⟩ := hrel
        by_cases hlj : j < 4
        · have hji : (j : Int) < 4 := by omega
          have hj0 : ¬ (j : Int) < 0 := by omega
          obtain ⟨x, hxj⟩ : ∃ x, (numsF f).getD j 0 = x := ⟨_, rfl⟩
          have hcell := atF_num (HXX.out _ G.out.2) j hlj hxj
          have HXJ := Lib.hid hxj
          clear hxj
          by_cases d1 : x > 562949953421312
          · have hvf : v = false := by rw [← HV.out, near_not HK.out (near_num hlj HXJ.out (by rw [← Bool.not_eq_true, in49_iff]; omega))]
            subst hvf
            go_wp2_with fail
            go_ret
            exact ⟨rfl, G.out.2⟩
          · by_cases d2 : x < -562949953421312
            · have hvf : v = false := by rw [← HV.out, near_not HK.out (near_num hlj HXJ.out (by rw [← Bool.not_eq_true, in49_iff]; omega))]
              subst hvf
              go_wp2_with fail
              go_ret
              exact ⟨rfl, G.out.2⟩
            · have HJ := Lib.hid (show ∀ q, q < j + 1 → in49 ((numsF f).getD q 0) = true from fun q hq => by
                rcases (show q < j ∨ q = j by omega) with e | e
                · exact G.out.1 q e
                · rw [e, HXJ.out, in49_iff]; omega)
              go_wp2_with fail
              go_roundw
              case rel => exact ⟨j + 1, by omega, by go_num, Lib.hid ⟨HJ.out, G.out.2⟩⟩
              case measure => simp [intOf]; omega
        · obtain rfl : j = 4 := by omega
          obtain ⟨d0, -⟩ := HXX.out _ G.out.2
          obtain ⟨s, hs⟩ : ∃ s, f.s = s := ⟨_, rfl⟩
          rw [hs] at d0
          by_cases h1 : s = 1
          · have hb : (s != 1) = false := by simp [h1]
            have HS := Lib.hid (show sideF f = true from sideF_iff.2 (.inl (hs.trans h1)))
            clear h1 hs
            go_wp2_with fail
            go_roundw
            case rel => exact ⟨k + 1, by omega, by go_num, Lib.hid ⟨near_take HK.out H.out.1 (near_yes G.out.1 HS.out), G.out.2⟩⟩
            case measure => simp [intOf]; omega
          · have hb : (s != 1) = true := by simp [h1]
            by_cases h2 : s = 2
            · have hb2 : (s != 2) = false := by simp [h2]
              have HS := Lib.hid (show sideF f = true from sideF_iff.2 (.inr (hs.trans h2)))
              clear h1 h2 hs
              go_wp2_with fail
              go_roundw
              case rel => exact ⟨k + 1, by omega, by go_num, Lib.hid ⟨near_take HK.out H.out.1 (near_yes G.out.1 HS.out), G.out.2⟩⟩
              case measure => simp [intOf]; omega
            · have hb2 : (s != 2) = true := by simp [h2]
              have hvf : v = false := by rw [← HV.out, near_not HK.out (near_side (by unfold sideF; rw [hs]; simp [h1, h2]))]
              subst hvf
              clear h1 h2 hs
              go_wp2_with fail
              go_ret
              exact ⟨rfl, G.out.2⟩
    · obtain rfl : k = n := by omega
      have hall : v = true := by rw [← HV.out]; have := H.out.1; rwa [List.take_of_length_le (by rw [← HN.out]; omega)] at this
      subst hall
      go_wp2_with fail
      go_ret
      exact ⟨rfl, H.out.2⟩

section
variable {S : World → (Nat → Prop) → Addr → List Fl → Prop}

set_option maxRecDepth 100000 in
set_option maxHeartbeats 600000 in
theorem lbegin_no (A : Option Addr) (n c : Nat) (fs : List Fl) (m : Int) (w : World) (hn : n = fs.length) (hlen : n ≤ 9223372036854775807) (hx : Floats w w.heap.size A fs) (hv : (fs.all near49 && decide ((n : Int) ≤ m)) = false) :
    Calls Try.prog 10 #[.slice A n c, .int .i64 m] w fun r w' => r = .returned (.pointer none) ∧ Below w.heap.size w w' := by
  obtain ⟨v, hvv⟩ : ∃ v, fs.all near49 = v := ⟨_, rfl⟩
  have HNe := Lib.hid (pnear_is A n c fs v w hn hlen hx hvv)
  rw [hvv] at hv
  clear hx hn hvv
  cases v
  · clear hv
    go_enter Try.func10, Try.ntmps10
    go_wp2_with (first
      | (go_at_call 28; refine HNe.out.mono ?_; rintro e w1 ⟨rfl, k1⟩; have K1 := Lib.hid k1; clear k1))
    go_ret
    exact ⟨rfl, K1.out⟩
  · have hm : m < (n : Int) := by simpa using hv
    clear hv
    go_enter Try.func10, Try.ntmps10
    go_wp2_with (first
      | (go_at_call 28; refine HNe.out.mono ?_; rintro e w1 ⟨rfl, k1⟩; have K1 := Lib.hid k1; clear k1))
    go_ret
    exact ⟨rfl, K1.out⟩

set_option maxRecDepth 100000 in
set_option maxHeartbeats 600000 in
theorem lbegin_any (hO : SpaceOk S) (A : Option Addr) (n c : Nat) (fs : List Fl) (m : Int) (w : World) (hn : n = fs.length) (hlen : n ≤ 1000) (hm : (n : Int) ≤ m) (hx : Floats w w.heap.size A fs) (hs : fs.all near49 = true) :
    Calls Try.prog 10 #[.slice A n c, .int .i64 m] w fun r w' => (∃ p F, r = .returned (.pointer (some p)) ∧ S w' F p fs ∧ ∀ k, F k → w.heap.size ≤ k) ∧ Below w.heap.size w w' := by
  have HNe := Lib.hid (pnear_is A n c fs true w hn (by omega) hx hs)
  have HBe := Lib.hid (fun w1 (k : Below w.heap.size w w1) => pbegin_any hO A n c fs w1 hn hlen (hx.thru k) (near49_near hs) (near49_side hs))
  have hm2 : ¬ m < (n : Int) := by omega
  clear hx hn hs hm
  go_enter Try.func10, Try.ntmps10
  go_wp2_with (first
    | (go_at_call 28; refine HNe.out.mono ?_; rintro e w1 ⟨rfl, k1⟩; have K1 := Lib.hid k1; clear k1)
    | (go_at_call 29; refine (HBe.out _ K1.out).mono ?_; rintro e w2 ⟨⟨p, F, rfl, hL, hF⟩, k2⟩; have HL := Lib.hid (⟨hL, (fun k q => Nat.le_trans K1.out.size (hF k q)), thru K1.out k2⟩ : S w2 F p fs ∧ (∀ k, F k → w.heap.size ≤ k) ∧ Below w.heap.size w w2); clear hL hF k2))
  go_ret
  exact ⟨⟨p, F, rfl, HL.out.1, HL.out.2.1⟩, HL.out.2.2⟩

end

end Go.Proofs.Ytkabpflbedpbaaa.Place
