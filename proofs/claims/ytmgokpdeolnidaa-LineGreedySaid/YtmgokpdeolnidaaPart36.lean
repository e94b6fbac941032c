/- Texts of this proof that follow each other, in one file. -/
import Derived.Test.YtmgokpdeolnidaaPart28
import Derived.Test.YtmgokpdeolnidaaPart33
import Derived.Test.YtmgokpdeolnidaaPart35
/-! The law's lines and sizes; the example. -/
namespace Go.Proofs.Ytmgokpdeolnidaa.Line
open Go.RowKit Go.Sort Go.Proofs.Ytmgokpdeolnidaa.Rect Go.Proofs.Ytmgokpdeolnidaa.More Go.Proofs.Ytmgokpdeolnidaa.Shelf Go.Proofs.Ytmgokpdeolnidaa.Space Go.Proofs.Ytmgokpdeolnidaa.Place
set_option linter.unusedVariables false
set_option linter.unusedSimpArgs false

set_option maxHeartbeats 1000000 in
theorem rto_any (a b c d : Int) (w : World) : Calls Try.prog 36 #[.agg #[.int .i64 a, .int .i64 b, .int .i64 c, .int .i64 d]] w fun e w' => e = .returned (.agg #[.int .i64 a, .int .i64 b, .int .i64 c, .int .i64 d]) ∧ Below w.heap.size w w' := by
  go_enter Try.func36, Try.ntmps36
  go_wp2
  all_goals exact bodyPost_ret (v := .agg #[.int .i64 a, .int .i64 b, .int .i64 c, .int .i64 d]) (by simp [results, Try.results36, go_sem]) rfl ⟨rfl, by first | exact ba1 _ _ | exact ba2 _ _ _ | exact ba3 _ _ _ _⟩

set_option maxRecDepth 100000 in
set_option maxHeartbeats 1000000 in
theorem lto_any (x : Ln) (w : World) : Calls Try.prog 15 #[x.v] w fun e w' => e = .returned x.v ∧ Below w.heap.size w w' := by
  go_enter Try.func15, Try.ntmps15
  go_upto_region 1 with fail
  generalize hW1 : World.alloc w _ = W1
  obtain ⟨b0, hb0⟩ : ∃ b0, w.heap.size = b0 := ⟨_, rfl⟩
  have k1 : Below w.heap.size w W1 := by rw [← hW1]; exact ba1 _ _
  have s1 : W1.heap.size = b0 + 1 := by rw [← hW1, ← hb0]; simp
  have z1 : RowAt W1 b0 (lnrow x) := by rw [← hW1, ← hb0]; exact RowAt.new w _ _
  clear hW1
  generalize hW2 : World.alloc W1 _ = W
  have k2 : Below W1.heap.size W1 W := by rw [← hW2]; exact ba1 _ _
  have z2 : RowAt W (b0 + 1) (lnrow zeroLn) := by rw [← hW2, ← s1]; exact RowAt.new W1 _ _
  clear hW2
  rw [hb0]
  obtain ⟨b1, hb1⟩ : ∃ b1, b0 + 1 = b1 := ⟨_, rfl⟩
  rw [hb1] at s1 z2
  rw [hb1]
  have S1 := Lib.hid (⟨thru k1 k2, z1.below (by simp) k2, z2⟩ : Below w.heap.size w W ∧ RowAt W b0 (lnrow x) ∧ RowAt W b1 (lnrow zeroLn))
  have g1 : w.heap.size ≤ b1 := by omega
  clear hb0 hb1 k1 z1 k2 z2 s1
  have HX := Lib.hid (fun w' (j : Below W.heap.size W w') => lat_of (S1.out.2.1.below (by simp) j))
  refine Hold.wp_region_hold [.val (.pointer (some ⟨b0, 0, none⟩)), .val (.agg #[.int .i64 x.l, .int .i64 x.t, .int .i64 x.r, .int .i64 x.b]), .val (.agg #[.int .i64 x.l, .int .i64 x.t, .int .i64 x.r, .int .i64 x.b]), .val (.pointer (some ⟨b0, 4, none⟩)), .val (.int .i64 x.a), .val (.pointer (some ⟨b0, 5, none⟩)), .val (.int .i64 x.w), .val (x.v)] (by kernel_rfl) (by kernel_rfl) (by kernel_rfl) ?_ ?_
  · simp only [Hold.fill, Hold.Leave.value]
    refine ⟨?_, ?_, ?_, ?_, ?_, ?_, ?_, ?_, trivial⟩
    · intro gg w' hw hk
      go_simp
      exact ⟨rfl, rfl⟩
    · intro gg w' hw hk
      have q0 := (HX.out w' hw).1
      have q1 := (HX.out w' hw).2.1
      have q2 := (HX.out w' hw).2.2.1
      have q3 := (HX.out w' hw).2.2.2.1
      go_simp
      exact ⟨rfl, rfl⟩
    · intro gg w' hw hk
      go_simp
      exact Hold.stays_call (rto_any _ _ _ _ w')
    · intro gg w' hw hk
      go_simp
      exact ⟨rfl, rfl⟩
    · intro gg w' hw hk
      have q4 := (HX.out w' hw).2.2.2.2.1
      go_simp
      exact ⟨rfl, rfl⟩
    · intro gg w' hw hk
      go_simp
      exact ⟨rfl, rfl⟩
    · intro gg w' hw hk
      have q5 := (HX.out w' hw).2.2.2.2.2
      go_simp
      exact ⟨rfl, rfl⟩
    · intro gg w' hw hk
      go_simp
      exact ⟨rfl, rfl⟩
  intro gg w2 k2 hgg
  clear hgg
  simp only [Hold.fill, Hold.Leave.value, List.length_cons, List.length_nil, List.drop_succ_cons, List.drop_zero]
  have K2 := Lib.hid (thru S1.out.1 k2)
  have r := S1.out.2.2.below (by simp) k2
  obtain ⟨r0, r1, r2, r3, r4, r5⟩ := lat_of r
  have f0 := r.frz 0
  have f1 := r.frz 1
  have f2 := r.frz 2
  have f3 := r.frz 3
  have f4 := r.frz 4
  have f5 := r.frz 5
  clear k2 r HX S1
  go_simp
  go_wp2_with fail
  exact bodyPost_ret (v := x.v) (by simp [results, Try.results15, go_sem, r0, r1, r2, r3, r4, r5]) rfl ⟨rfl, ((((((K2.out.setCell (p := ⟨b1, 0, none⟩) g1 _).setCell (p := ⟨b1, 1, none⟩) g1 _).setCell (p := ⟨b1, 2, none⟩) g1 _).setCell (p := ⟨b1, 3, none⟩) g1 _).setCell (p := ⟨b1, 4, none⟩) g1 _).setCell (p := ⟨b1, 5, none⟩) g1 _)⟩

theorem infoPZ : InfoE encZ 63 32 16 := ⟨Try.underlying32, .agg #[.int .i64 0, .int .i64 0], rfl, by kernel_rfl⟩

set_option maxRecDepth 100000 in
set_option maxHeartbeats 1000000 in
theorem lof_any (A : Option Addr) (n c : Nat) (zs : List Sz) (w : World) (hn : n = zs.length) (hlen : n ≤ 1000) (hx : Sizes w w.heap.size A zs) :
    Calls Try.prog 12 #[.slice A n c] w fun e w' => (∃ A' c', e = .returned (.slice A' n c') ∧ Sizes w' w'.heap.size A' zs) ∧ Below w.heap.size w w' := by
  have HX := Lib.hid hx
  have HN := Lib.hid (⟨hn, hlen⟩ : n = zs.length ∧ n ≤ 1000)
  clear hx hn hlen
  go_enter Try.func12, Try.ntmps12
  go_wp2_with fail
  go_loopw [3, 8] (fun u i wr => ∃ k : Nat, k ≤ n ∧ i = .int .i64 (k : Int) ∧ ∃ A9 c9, u = .slice A9 k c9 ∧ Hid (MineE encZ 63 wr w.heap.size A9 k c9 (zs.take k) ∧ Below w.heap.size w wr)) (fun _ i _ => n - (intOf i).toNat)
  case atStart => exact ⟨0, Nat.zero_le _, rfl, none, 0, rfl, Lib.hid ⟨noneE_mine _ _ _ _, Below.refl _ _⟩⟩
  case round =>
    obtain ⟨k, hk, rfl, A9, c9, rfl, H⟩ := hrel
    by_cases hlt : k < n
    · have hki : (k : Int) < (n : Int) := by omega
      have hk0 : ¬ (k : Int) < 0 := by omega
      have hwk : IntKind.i64.wrap ((k : Int) + 1) = (k : Int) + 1 := by have := HN.out.2; exact IntWalk.i64_in _ (by omega)
      obtain ⟨z, hz⟩ : ∃ z, zs[k]? = some z := ⟨_, List.getElem?_eq_getElem (by rw [← HN.out.1]; exact hlt)⟩
      obtain ⟨ad, rfl, -, d0, d1⟩ := (HX.out.thru H.out.2) k z hz
      have HT := Lib.hid (show zs.take (k + 1) = zs.take k ++ [z] by rw [List.take_add_one, hz]; rfl)
      clear hz
      go_upto_region 5 with fail
      generalize hW : World.alloc wr _ = W
      obtain ⟨b, hb⟩ : ∃ b, wr.heap.size = b := ⟨_, rfl⟩
      have k1 : Below wr.heap.size wr W := by rw [← hW]; exact ba1 _ _
      have z1 : RowAt W b (zcells z) := by rw [← hW, ← hb]; exact RowAt.new wr _ _
      rw [hb]
      obtain ⟨q0, q1, -, -⟩ := two_of z1
      have S1 := Lib.hid (⟨H.out.1.below k1, thru H.out.2 k1⟩ : MineE encZ 63 W w.heap.size A9 k c9 (zs.take k) ∧ Below w.heap.size w W)
      clear hW hb k1 z1 d0 d1
      go_wp2_with (first
        | (at_builtin; refine wpList_append_E (bytes := 16) (by omega) infoPZ _ rfl (.tmp 12) (.tmp 14) rfl w.heap.size A9 k c9 (zs.take k) rfl (S1.out.1.alloc _) (some ⟨W.heap.size, 0, none⟩) 1 1 [z] rfl (oneE_src encZ W z 63) (by have := HN.out.2; omega) (by have := S1.out.2.size; simp; omega) ?_; intro A5 c5 w5 hA; have S5 := Lib.hid (⟨hA.1, AppendedE.below hA (S1.out.1.alloc _) (thru S1.out.2 (ba1 W _)) (Nat.le_refl _) (by have := S1.out.2.size; simp; omega)⟩ : MineE encZ 63 w5 w.heap.size A5 (k + 1) c5 (zs.take k ++ [z]) ∧ Below w.heap.size w w5); clear hA))
      go_roundw
      case rel => exact ⟨k + 1, by omega, by go_num, A5, c5, rfl, Lib.hid ⟨by rw [HT.out]; exact S5.out.1, S5.out.2⟩⟩
      case measure => simp [intOf]; omega
    · obtain rfl : k = n := by omega
      have he : zs.take k = zs := List.take_of_length_le (by rw [← HN.out.1]; exact Nat.le_refl _)
      have hm := H.out.1
      rw [he] at hm
      have HM := Lib.hid (⟨sizes_mine hm, H.out.2⟩ : Sizes wr wr.heap.size A9 zs ∧ Below w.heap.size w wr)
      clear he hm
      go_wp2_with fail
      go_ret
      exact ⟨⟨A9, c9, rfl, HM.out.1⟩, HM.out.2⟩

/-- The example's sizes, and its lines. -/
abbrev exZ : List Sz := [⟨4, 1⟩, ⟨4, 2⟩, ⟨4, 1⟩]
theorem exZ_right : ∀ z ∈ exZ, RightS z := rightS_all (by decide)
theorem exZ_segs : (segsL ⟨[], 0, 10, 0, 0, []⟩ exZ).map lnOf = [⟨0, 0, 10, 2, 2, 8⟩, ⟨0, 2, 10, 3, 1, 4⟩] := by rfl

theorem three_sizes (w : World) (T : TypeId) : Sizes (w.alloc (.cells #[.int .i64 4, .int .i64 1, .int .i64 4, .int .i64 2, .int .i64 4, .int .i64 1] T)) (w.alloc (.cells #[.int .i64 4, .int .i64 1, .int .i64 4, .int .i64 2, .int .i64 4, .int .i64 1] T)).heap.size (some ⟨w.heap.size, 0, none⟩) exZ := fun k z hk => by
  have r := RowAt.new w [.int .i64 4, .int .i64 1, .int .i64 4, .int .i64 2, .int .i64 4, .int .i64 1] T
  have hk3 : k < 3 := (List.getElem?_eq_some_iff.1 hk).1
  refine ⟨_, rfl, by simp, ?_⟩
  match k, hk3 with
  | 0, _ => obtain rfl : (⟨4, 1⟩ : Sz) = z := Option.some.inj hk; exact ⟨r.at' 0, r.at' 1⟩
  | 1, _ => obtain rfl : (⟨4, 2⟩ : Sz) = z := Option.some.inj hk; exact ⟨r.at' 2, r.at' 3⟩
  | 2, _ => obtain rfl : (⟨4, 1⟩ : Sz) = z := Option.some.inj hk; exact ⟨r.at' 4, r.at' 5⟩

section
variable {S : World → (Nat → Prop) → Addr → List Fl → Prop}

set_option maxRecDepth 100000 in
set_option maxHeartbeats 1000000 in
theorem lspeaks (hO : SpaceOk S) (w : World) : Calls Try.prog 9 #[] w fun e w' => e = .returned (.bool true) ∧ Below w.heap.size w w' := by
  have HNew := Lib.hid (hO.new w)
  have hlen : (segsL ⟨[], 0, 10, 0, 0, []⟩ exZ).length = 2 := by rw [← List.length_map (f := lnOf), exZ_segs]; rfl
  have HAl := Lib.hid (fun w1 F p g (h : S w1 F p []) (hz : Sizes w1 w1.heap.size (some ⟨g, 0, none⟩) exZ) => lall_any hO w1 F p [] 0 10 0 (some ⟨g, 0, none⟩) 3 3 exZ h (by rfl) ⟨by decide, by decide⟩ ⟨by decide, by decide⟩ ⟨by decide, by decide⟩ rfl (by decide) hz exZ_right)
  rw [exZ_segs, hlen] at HAl
  clear hlen
  go_enter Try.func9, Try.ntmps9
  go_upto_region 4 with (first
    | (go_at_call 29; refine HNew.out.mono ?_; rintro e w1 ⟨⟨p, F, rfl, hL, hF⟩, k1⟩; have HL := Lib.hid (⟨hL, k1⟩ : S w1 F p [] ∧ Below w.heap.size w w1); clear hL hF k1)
    | (go_at_call 22; refine (lnew_any _ p 0 0 0).mono ?_; rintro e w2 ⟨⟨b, rfl, -, -⟩, k2⟩; have S2 := Lib.hid (⟨thruS hO HL.out.1 k2, thru HL.out.2 k2⟩ : S w2 F p [] ∧ Below w.heap.size w w2); clear k2))
  go_upto_region 5 with (first
    | (go_at_call 11; refine (HAl.out _ F p w2.heap.size (thruS hO S2.out.1 (ba1 w2 _)) (three_sizes w2 63)).mono ?_; rintro e w3 ⟨⟨A3, c3, rfl, hm⟩, k3⟩; have S3 := Lib.hid (⟨MineE.mono hm (Nat.zero_le _), thru S2.out.2 (thru (ba1 w2 _) k3)⟩ : MineE encL 43 w3 0 A3 2 c3 [⟨0, 0, 10, 2, 2, 8⟩, ⟨0, 2, 10, 3, 1, 4⟩] ∧ Below w.heap.size w w3); clear hm k3))
  obtain ⟨g, hg, -, -, -, -⟩ := MineE.form S3.out.1 (by omega)
  subst hg
  have c04 : w3.cell? ⟨g, 4, none⟩ = some (.int .i64 2) := MineE.at S3.out.1 0 _ rfl 4 (by decide)
  have c14 : w3.cell? ⟨g, 10, none⟩ = some (.int .i64 1) := MineE.at S3.out.1 1 _ rfl 4 (by decide)
  have c11 : w3.cell? ⟨g, 7, none⟩ = some (.int .i64 2) := MineE.at S3.out.1 1 _ rfl 1 (by decide)
  go_wp2_with fail
  go_ret
  exact ⟨rfl, S3.out.2⟩

end

end Go.Proofs.Ytmgokpdeolnidaa.Line

/-! What the lines of atoms tell, line by line. -/
namespace Go.Proofs.Ytmgokpdeolnidaa.Line
open Go.RowKit Go.Sort Go.Proofs.Ytmgokpdeolnidaa.Rect Go.Proofs.Ytmgokpdeolnidaa.More Go.Proofs.Ytmgokpdeolnidaa.Shelf Go.Proofs.Ytmgokpdeolnidaa.Space Go.Proofs.Ytmgokpdeolnidaa.Place
set_option linter.unusedVariables false

theorem told_len {fs : List Fl} {f t : Int} : ∀ {y : Int} {l : List Sz} {ss : List Mk}, ToldL fs f t y l ss → ss.length ≤ l.length
  | _, l, [], _ => Nat.zero_le _
  | y, l, s :: ss, h => by
    obtain ⟨_, _, hne, rest, rfl, _, h2⟩ := h
    have h3 := told_len h2
    have := List.length_pos_iff.2 hne
    simp only [List.length_cons, List.length_append]
    omega

/-- A line of a list. -/
def LinesAt (w : World) (g k : Nat) (x : Ln) : Prop :=
  w.cell? ⟨g, k * 6, none⟩ = some (.int .i64 x.l) ∧ w.cell? ⟨g, k * 6 + 1, none⟩ = some (.int .i64 x.t) ∧ w.cell? ⟨g, k * 6 + 2, none⟩ = some (.int .i64 x.r) ∧ w.cell? ⟨g, k * 6 + 3, none⟩ = some (.int .i64 x.b) ∧ w.cell? ⟨g, k * 6 + 4, none⟩ = some (.int .i64 x.a) ∧ w.cell? ⟨g, k * 6 + 5, none⟩ = some (.int .i64 x.w)
theorem linesAt {T : TypeId} {w : World} {B g n c k : Nat} {xs : List Ln} {x : Ln} (h : MineE encL T w B (some ⟨g, 0, none⟩) n c xs) (hx : xs[k]? = some x) : LinesAt w g k x :=
  ⟨MineE.at h k x hx 0 (by decide), MineE.at h k x hx 1 (by decide), MineE.at h k x hx 2 (by decide), MineE.at h k x hx 3 (by decide), MineE.at h k x hx 4 (by decide), MineE.at h k x hx 5 (by decide)⟩

/-- Where the lines are, after so many of them and so many atoms. -/
structure AtLine (fs : List Fl) (f t : Int) (zs : List Sz) (sg : List Mk) (k d : Nat) (y : Int) : Prop where
  told : ToldL fs f t y (zs.drop d) (sg.drop k)
  le : d ≤ zs.length
  y1 : -281474976710656 ≤ y
  y2 : y ≤ 562949953421312 + k * 2147483648

theorem atLine_start {fs : List Fl} {f t y : Int} {zs : List Sz} (h : NearL fs f t y) (hr : ∀ z ∈ zs, RightS z) : AtLine fs f t zs (segsL ⟨fs, f, t, y, 0, []⟩ zs) 0 0 y := by
  obtain ⟨h49, f1, f2, t1, t2, y1, y2, ft⟩ := h
  refine ⟨?_, Nat.zero_le _, by omega, by omega⟩
  rw [List.drop_zero, List.drop_zero]
  exact segs_told0 (m := ⟨fs, f, t, y, 0, []⟩) ⟨h49, by show -4503599627370496 ≤ f; omega, by show t ≤ 4503599627370496; omega, by show -4503599627370496 ≤ y; omega⟩ rfl zs hr

theorem atLine_len {fs : List Fl} {f t y : Int} {zs : List Sz} (h : NearL fs f t y) (hr : ∀ z ∈ zs, RightS z) : (segsL ⟨fs, f, t, y, 0, []⟩ zs).length ≤ zs.length := by
  have := (atLine_start h hr).told
  rw [List.drop_zero, List.drop_zero] at this
  exact told_len this

/-- What one of them tells. -/
structure Tells (fs : List Fl) (f t : Int) (zs : List Sz) (sg : List Mk) (k d : Nat) (y : Int) (s : Mk) : Prop where
  ee : s.fs = fs ∧ s.f = f ∧ s.t = t
  good : Good s
  ne : s.az ≠ []
  az : s.az = (zs.drop d).take s.az.length
  le : d + s.az.length ≤ zs.length
  pos : 0 < s.az.length
  no : ∀ z, zs[d + s.az.length]? = some z → s.fits z = false
  next : AtLine fs f t zs sg (k + 1) (d + s.az.length) s.b
  t1 : y ≤ s.top
  t2 : s.top ≤ 562949953421312 + k * 2147483648
  h1 : 0 ≤ highL s.az
  h2 : highL s.az ≤ 2147483648
  w1 : 0 ≤ wideL s.az
  w2 : wideL s.az ≤ zs.length * 2147483648
  l1 : -4503599627370496 ≤ s.l ∧ s.l ≤ 4503599627370496
  r1 : -4503599627370496 ≤ s.r ∧ s.r ≤ 4503599627370496
  top : ∀ z l, s.az = z :: l → s.top = topL fs f t z y

theorem tells_of {fs : List Fl} {f t y0 : Int} {zs : List Sz} {sg : List Mk} {k d : Nat} {y : Int} (h : AtLine fs f t zs sg k d y) (hN : NearL fs f t y0) (hr : ∀ z ∈ zs, RightS z) {s : Mk} (hs : sg[k]? = some s) : Tells fs f t zs sg k d y s := by
  obtain ⟨h49, f1, f2, t1, t2, y1, y2, ft⟩ := hN
  obtain ⟨told, le, b1, b2⟩ := h
  have hkl := (List.getElem?_eq_some_iff.1 hs).1
  rw [List.drop_eq_getElem_cons hkl, show sg[k] = s from Option.some.inj ((List.getElem?_eq_getElem hkl).symm.trans hs)] at told
  obtain ⟨⟨e1, e2, e3, e4⟩, good, ne, rest, hl, no, told2⟩ := told
  have hlen : (zs.drop d).length = zs.length - d := List.length_drop
  have hl2 : zs.length - d = s.az.length + rest.length := by rw [← hlen, hl, List.length_append]
  have hpos := List.length_pos_iff.2 ne
  have hrest : zs.drop (d + s.az.length) = rest := by rw [← List.drop_drop, hl]; simp
  have haz : s.az = (zs.drop d).take s.az.length := by rw [hl]; simp
  have hra : ∀ z ∈ s.az, RightS z := fun z hz => hr z (List.mem_of_mem_drop (i := d) (by rw [hl]; exact List.mem_append_left _ hz))
  have hh := highL_b hra
  have hw := wideL_b hra
  have htop : y ≤ s.top ∧ s.top ≤ max y 562949953421312 := by
    cases ha : s.az with
    | nil => exact absurd ha ne
    | cons z l =>
      have := good.first z l ha
      rw [this, e1, e2, e3, ← e4]
      exact topL_b z h49 (by omega) (by omega) (by omega)
  have hb : s.b = s.top + highL s.az := rfl
  obtain ⟨L1, L2⟩ := bandL_49 h49 s.top (s.top + highZ (highL s.az))
  obtain ⟨R1, R2⟩ := bandR_49 h49 s.top (s.top + highZ (highL s.az))
  refine ⟨⟨e1, e2, e3⟩, good, ne, haz, by omega, hpos, fun z hz => ?_, ⟨by rw [hrest]; exact told2, by omega, by omega, by push_cast; omega⟩, htop.1, by omega, hh.1, hh.2, hw.1, by omega, ?_, ?_, fun z l ha => by rw [good.first z l ha, e1, e2, e3, ← e4]⟩
  · have hdl := (List.getElem?_eq_some_iff.1 hz).1
    refine no z (zs.drop (d + s.az.length + 1)) ?_
    rw [← hrest, List.drop_eq_getElem_cons hdl]
    congr 1
    exact Option.some.inj ((List.getElem?_eq_getElem hdl).symm.trans hz)
  · show -4503599627370496 ≤ max s.f (bandL s.fs s.top _) ∧ max s.f (bandL s.fs s.top _) ≤ 4503599627370496
    rw [e1, e2]
    omega
  · show -4503599627370496 ≤ min s.t (bandR s.fs s.top _) ∧ min s.t (bandR s.fs s.top _) ≤ 4503599627370496
    rw [e1, e3]
    omega

/-- Behind the last one. -/
theorem atLine_end {fs : List Fl} {f t : Int} {zs : List Sz} {sg : List Mk} {k d : Nat} {y : Int} (h : AtLine fs f t zs sg k d y) (hk : k = sg.length) : d = zs.length := by
  have h1 := h.told
  rw [show sg.drop k = [] from List.drop_eq_nil_of_le (by omega)] at h1
  have h2 : zs.drop d = [] := h1
  have h3 := congrArg List.length h2
  rw [List.length_drop] at h3
  simp at h3
  have := h.le
  omega

end Go.Proofs.Ytmgokpdeolnidaa.Line
