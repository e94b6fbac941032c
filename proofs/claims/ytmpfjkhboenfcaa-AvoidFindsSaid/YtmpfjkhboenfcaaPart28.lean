/- Where a box stands; all contracts of the program's search at once. -/
import Derived.Test.YtmpfjkhboenfcaaPart27
namespace Go.Proofs.Ytmpfjkhboenfcaa.Avoid
open Go.RowKit Go.Sort Go.Proofs.Ytmpfjkhboenfcaa.Rect Go.Proofs.Ytmpfjkhboenfcaa.More Go.Proofs.Ytmpfjkhboenfcaa.Shelf Go.Proofs.Ytmpfjkhboenfcaa.Space Go.Proofs.Ytmpfjkhboenfcaa.Place
set_option linter.unusedVariables false
set_option linter.unusedSimpArgs false

section
variable {S : World → (Nat → Prop) → Addr → List Fl → Prop}

abbrev ZeroP4 (w : World) (g : Nat) (T : TypeId) : Prop := w.heap[g]? = some (.cells #[.int .i64 0, .int .i64 0, .int .i64 0, .int .i64 0] T)

set_option maxRecDepth 100000 in
set_option maxHeartbeats 1000000 in
theorem vfind_any (hO : SpaceOk S) (w : World) (F : Nat → Prop) (p : Addr) (fs : List Fl) (x : Vt) (h : S w F p fs) (h49 : fs.all near49 = true) (hr : RightV x) :
    Calls Try.prog 15 #[.pointer (some p), x.v] w fun r w' => r = .returned (.agg #[.int .i64 (findVX fs x), .int .i64 (findVY fs x), .int .i64 (findVX fs x + x.wd), .int .i64 (findVY fs x + x.ht)]) ∧ Below w.heap.size w w' := by
  have hy1 := hr.y1
  have hy2 := hr.y2
  have HFi := Lib.hid (fun w1 b (k : S w1 F p fs) (hF : ¬ F b) (sk : SkB 67 w1 b x p 0 (x.y - 1)) => hO.firstG w1 F p fs x.y 32 #[.pointer (some ⟨b, 0, none⟩)] #[] (okV fs x) (fun w2 pre => But (fun j => j = b) w1 w2 ∧ ∃ l r, SkB 67 w2 b x p l r ∧ BarV fs x pre l r) k (near49_near h49) (inS_iff.2 ⟨by omega, by omega⟩)
    (enters_of Try.func32 (by kernel_rfl) rfl) ⟨But.of_below (Below.refl _ _), 0, x.y - 1, sk, barV_start fs x⟩ (fun w2 w3 pre q1 q2 => by
      obtain ⟨b1, l, r, s1, v1⟩ := q1
      exact ⟨b1.trans (But.of_below q2 : But (fun j => j = b) w2 w3) (fun _ _ e => e), l, r, s1.below q2, v1⟩)
    (fun w2 pre z hs hk hz hl hord => by
      obtain ⟨b1, l, r, s1, v1⟩ := hk
      rw [show (#[.pointer (some ⟨b, 0, none⟩)] ++ #[.int .i64 z] ++ #[] : Array Value) = #[.pointer (some ⟨b, 0, none⟩), .int .i64 z] by simp]
      refine (vstands_any hO b F p fs x z l r pre w2 hs h49 hr hz hF s1 v1 hord).mono ?_
      rintro e w' ⟨rfl, b2, l', r', s2, v2⟩
      exact ⟨rfl, hO.keep _ _ _ _ _ _ hs b2 (fun j hj e => hF (by rw [← e]; exact hj)), b1.trans b2 (fun _ _ e => e), l', r', s2, v2⟩))
  rw [show atD (okV fs x) (topsD fs x.y) = findVY fs x from rfl] at HFi
  have HEnd := Lib.hid (fun l r (q : BarV fs x (askL (okV fs x) (topsD fs x.y)) l r) => barV_end q h49 hr)
  have hfy := findVY_49 h49 hr
  have hfx := findV_49 h49 hr
  have hh1 := hr.ht1
  have hh2 := hr.ht2
  have hf1 := hr.f1
  have hwd := hr.wd1
  have hw1 : IntKind.i64.wrap (findVX fs x + x.wd) = findVX fs x + x.wd := IntWalk.i64_in _ (by omega)
  have hw2 : IntKind.i64.wrap (findVY fs x + x.ht) = findVY fs x + x.ht := IntWalk.i64_in _ (by omega)
  have hw3 : IntKind.i64.wrap (x.y - 1) = x.y - 1 := IntWalk.i64_in _ (by omega)
  have HW := Lib.hid (⟨hw1, hw2⟩ : IntKind.i64.wrap (findVX fs x + x.wd) = findVX fs x + x.wd ∧ IntKind.i64.wrap (findVY fs x + x.ht) = findVY fs x + x.ht)
  generalize askL (okV fs x) (topsD fs x.y) = asked at *
  generalize findVX fs x = fx at *
  generalize findVY fs x = fy at *
  have HS := Lib.hid h
  clear h h49 hr hy1 hy2 hfy hfx hh1 hh2 hf1 hwd hw1 hw2
  go_enter Try.func15, Try.ntmps15
  go_upto_region 1 with fail
  generalize hW1 : World.alloc w _ = W1
  obtain ⟨b0, hb0⟩ : ∃ b0, w.heap.size = b0 := ⟨_, rfl⟩
  have k1 : Below w.heap.size w W1 := by rw [← hW1]; exact ba1 _ _
  have s1 : W1.heap.size = b0 + 1 := by rw [← hW1, ← hb0]; simp
  have a1 : AtV W1 b0 x := by rw [← hW1, ← hb0]; exact atV_boxed _ _ _
  clear hW1
  generalize hW2 : World.alloc W1 _ = W2
  have k2 : Below W1.heap.size W1 W2 := by rw [← hW2]; exact ba1 _ _
  have z2 : ZeroP4 W2 (b0 + 1) 38 := by rw [← hW2, ← s1]; exact heap_alloc_new W1 _
  clear hW2
  rw [hb0]
  obtain ⟨b1, hb1⟩ : ∃ b1, b0 + 1 = b1 := ⟨_, rfl⟩
  rw [hb1] at s1 z2
  rw [hb1]
  have S2 := Lib.hid (⟨thru k1 k2, a1.below k2, z2, thruS hO (thruS hO HS.out k1) k2, by omega⟩ : Below w.heap.size w W2 ∧ AtV W2 b0 x ∧ ZeroP4 W2 b1 38 ∧ S W2 F p fs ∧ w.heap.size ≤ b1)
  clear k1 a1 k2 z2 s1 hb0 hb1
  obtain ⟨c0, c1, c2, c3, c4⟩ := S2.out.2.1
  go_upto_region 2 with fail
  clear c0 c1 c2 c3 c4 hw3
  generalize hW3 : World.alloc W2 _ = W3
  obtain ⟨b2, hb2⟩ : ∃ b2, W2.heap.size = b2 := ⟨_, rfl⟩
  have k3 : Below W2.heap.size W2 W3 := by rw [← hW3]; exact ba1 _ _
  have q3 : SkB 67 W3 b2 x p 0 (x.y - 1) := by rw [← hW3, ← hb2]; exact heap_alloc_new W2 _
  have n3 : b1 ≠ b2 := by have := lt_of_block S2.out.2.2.1; omega
  have f3 : ¬ F b2 := fun q => by have := hO.lt _ _ _ _ S2.out.2.2.2.1 b2 q; omega
  have g3 : w.heap.size ≤ b2 := by have := S2.out.1.size; omega
  have S3 := Lib.hid (⟨thru S2.out.1 k3, (k3.block b1 (lt_of_block S2.out.2.2.1)).trans S2.out.2.2.1, thruS hO S2.out.2.2.2.1 k3, q3, n3, f3, g3, S2.out.2.2.2.2⟩ : Below w.heap.size w W3 ∧ ZeroP4 W3 b1 38 ∧ S W3 F p fs ∧ SkB 67 W3 b2 x p 0 (x.y - 1) ∧ b1 ≠ b2 ∧ ¬ F b2 ∧ w.heap.size ≤ b2 ∧ w.heap.size ≤ b1)
  rw [hb2]
  clear hW3 hb2 k3 q3 n3 f3 g3 S2 HS
  obtain ⟨⟨d0, d1, d2, d3, d4⟩, d5, d6, d7⟩ := S3.out.2.2.2.1.at'
  go_upto_region 3 with (first
    | (go_at_call 31; refine (HFi.out _ _ S3.out.2.2.1 S3.out.2.2.2.2.2.1 S3.out.2.2.2.1).mono ?_; rintro e w4 ⟨rfl, hS4, k4, l4, r4, s4, v4⟩; obtain rfl : l4 = fx := HEnd.out _ _ v4; have S4 := Lib.hid (⟨(S3.out.1.trans (k4.below (S3.out.1.size) (fun j e => by rw [e]; exact S3.out.2.2.2.2.2.2.1))), (k4.block b1 (lt_of_block S3.out.2.1) S3.out.2.2.2.2.1).trans S3.out.2.1, s4⟩ : Below w.heap.size w w4 ∧ ZeroP4 w4 b1 38 ∧ SkB 67 w4 b2 x p l4 r4); clear hS4 k4 s4 v4))
  clear d0 d1 d2 d3 d4 d5 d6 d7
  have HA := Lib.hid (fun w' (j : Below w4.heap.size w4 w') => S4.out.2.2.below j)
  have HZ := Lib.hid (fun w' (j : Below w4.heap.size w4 w') => ((j.block b1 (lt_of_block S4.out.2.1)).trans S4.out.2.1 : ZeroP4 w' b1 38))
  refine Hold.wp_region_hold [.val (.pointer (some ⟨b2, 0, none⟩)), .val (.pointer (some ⟨b2, 0, none⟩)), .val (.pointer (some ⟨b2, 6, none⟩)), .val (.int .i64 l4), .val (.pointer (some ⟨b2, 0, none⟩)), .val (.pointer (some ⟨b2, 0, none⟩)), .val (.pointer (some ⟨b2, 6, none⟩)), .val (.int .i64 l4), .val (.pointer (some ⟨b2, 0, none⟩)), .val (.pointer (some ⟨b2, 0, none⟩)), .val (.pointer (some ⟨b2, 0, none⟩)), .val (.pointer (some ⟨b2, 2, none⟩)), .val (.int .i64 x.wd), .val (.int .i64 (l4 + x.wd)), .val (.agg #[.int .i64 l4, .int .i64 (l4 + x.wd)]), .val (.int .i64 fy), .val (.int .i64 fy), .val (.pointer (some ⟨b2, 0, none⟩)), .val (.pointer (some ⟨b2, 0, none⟩)), .val (.pointer (some ⟨b2, 0, none⟩)), .val (.pointer (some ⟨b2, 3, none⟩)), .val (.int .i64 x.ht), .val (.int .i64 (fy + x.ht)), .val (.agg #[.int .i64 fy, .int .i64 (fy + x.ht)]), .val (.agg #[.int .i64 l4, .int .i64 fy, .int .i64 (l4 + x.wd), .int .i64 (fy + x.ht)])] (by kernel_rfl) (by kernel_rfl) (by kernel_rfl) ?_ ?_
  · simp only [Hold.fill, Hold.Leave.value]
    refine ⟨?_, ?_, ?_, ?_, ?_, ?_, ?_, ?_, ?_, ?_, ?_, ?_, ?_, ?_, ?_, ?_, ?_, ?_, ?_, ?_, ?_, ?_, ?_, ?_, ?_, trivial⟩
    · intro gg w' hw hk
      go_simp
      exact ⟨rfl, rfl⟩
    · intro gg w' hw hk
      go_simp
      exact ⟨rfl, rfl⟩
    · intro gg w' hw hk
      go_simp
      exact ⟨rfl, rfl⟩
    · intro gg w' hw hk
      have q := (HA.out w' hw).at'.2.2.1
      go_simp
      exact ⟨rfl, rfl⟩
    · intro gg w' hw hk
      go_simp
      exact ⟨rfl, rfl⟩
    · intro gg w' hw hk
      go_simp
      exact ⟨rfl, rfl⟩
    · intro gg w' hw hk
      go_simp
      exact ⟨rfl, rfl⟩
    · intro gg w' hw hk
      have q := (HA.out w' hw).at'.2.2.1
      go_simp
      exact ⟨rfl, rfl⟩
    · intro gg w' hw hk
      go_simp
      exact ⟨rfl, rfl⟩
    · intro gg w' hw hk
      go_simp
      exact ⟨rfl, rfl⟩
    · intro gg w' hw hk
      go_simp
      exact ⟨rfl, rfl⟩
    · intro gg w' hw hk
      go_simp
      exact ⟨rfl, rfl⟩
    · intro gg w' hw hk
      have q := (HA.out w' hw).at'.1.2.2.1
      go_simp
      exact ⟨rfl, rfl⟩
    · intro gg w' hw hk
      have q := HW.out.1
      go_simp
      exact ⟨rfl, rfl⟩
    · intro gg w' hw hk
      go_simp
      exact ⟨rfl, rfl⟩
    · intro gg w' hw hk
      go_simp
      exact ⟨rfl, rfl⟩
    · intro gg w' hw hk
      go_simp
      exact ⟨rfl, rfl⟩
    · intro gg w' hw hk
      go_simp
      exact ⟨rfl, rfl⟩
    · intro gg w' hw hk
      go_simp
      exact ⟨rfl, rfl⟩
    · intro gg w' hw hk
      go_simp
      exact ⟨rfl, rfl⟩
    · intro gg w' hw hk
      go_simp
      exact ⟨rfl, rfl⟩
    · intro gg w' hw hk
      have q := (HA.out w' hw).at'.1.2.2.2.1
      go_simp
      exact ⟨rfl, rfl⟩
    · intro gg w' hw hk
      have q := HW.out.2
      go_simp
      exact ⟨rfl, rfl⟩
    · intro gg w' hw hk
      go_simp
      exact ⟨rfl, rfl⟩
    · intro gg w' hw hk
      go_simp
      exact Hold.stays_call (rof_any _ _ _ _ w')
  intro gg w5 k5 hgg
  clear hgg
  simp only [Hold.fill, Hold.Leave.value, List.length_cons, List.length_nil, List.drop_succ_cons, List.drop_zero]
  obtain ⟨r0, r1, r2, r3⟩ := R4.of_block (HZ.out _ k5)
  obtain ⟨q0, q1, q2, q3⟩ := free4 (HZ.out _ k5)
  have hb2 : w.heap.size ≤ b1 := S3.out.2.2.2.2.2.2.2
  have K5 := Lib.hid (thru S4.out.1 k5)
  clear k5
  go_wp2_with fail
  exact bodyPost_ret (v := .agg #[.int .i64 l4, .int .i64 fy, .int .i64 (l4 + x.wd), .int .i64 (fy + x.ht)]) (by simp [results, Try.results15, go_sem, r0, r1, r2, r3]) rfl ⟨rfl, ((((K5.out.setCell (p := ⟨b1, 0, none⟩) hb2 _).setCell (p := ⟨b1, 1, none⟩) hb2 _).setCell (p := ⟨b1, 2, none⟩) hb2 _).setCell (p := ⟨b1, 3, none⟩) hb2 _)⟩

/-- What the program's search answers. -/
theorem avoidOk (hO : SpaceOk S) : AvoidOk S where
  at' := fun w F p fs x y h h49 hr hy => vat_any hO w F p fs x y h h49 hr ⟨by omega, by omega⟩
  find := fun w F p fs x h h49 hr => vfind_any hO w F p fs x h h49 hr

end

end Go.Proofs.Ytmpfjkhboenfcaa.Avoid
