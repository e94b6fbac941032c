
import Derived.Test.YtdibdfalahjmbaaGreatPart24
namespace Go.Proofs.YtdibdfalahjmbaaGreat.Text

open Go.RowKit Go.Sort Go.Proofs.YtdibdfalahjmbaaGreat.Rect Go.Proofs.YtdibdfalahjmbaaGreat.More Go.Proofs.YtdibdfalahjmbaaGreat.Shelf Go.Proofs.YtdibdfalahjmbaaGreat.Space Go.Proofs.YtdibdfalahjmbaaGreat.Place Go.Proofs.YtdibdfalahjmbaaGreat.Line

set_option linter.unusedVariables false

set_option linter.unusedSimpArgs false

def fullF (r : Fl) : Bool := decide (r.l < r.r) && decide (r.t < r.b)

def besA (a : Int) (r : Fl) : Int := if r.s = 2 then max a a else max a r.r

def besB (b : Int) (r : Fl) : Int := if r.s = 2 then min b r.l else min b b

theorem bandL_one (fs : List Fl) (f : Fl) (a z : Int) : bandL (fs ++ [f]) a z = if hitF 1 a z f then max (bandL fs a z) f.r else bandL fs a z := by
  unfold bandL
  rw [List.foldl_append]
  rfl

theorem bandR_one (fs : List Fl) (f : Fl) (a z : Int) : bandR (fs ++ [f]) a z = if hitF 2 a z f then min (bandR fs a z) f.l else bandR fs a z := by
  unfold bandR
  rw [List.foldl_append]
  rfl

theorem beside_w {m : Mk} {r : Fl} (hs : r.s = 1 ∨ r.s = 2) (ht : r.t = m.top) (hf : fullF r = true) : ({ m with fs := m.fs ++ [r] } : Mk).r - ({ m with fs := m.fs ++ [r] } : Mk).l = besB m.r r - besA m.l r := by
  unfold fullF at hf
  rw [Bool.and_eq_true, decide_eq_true_eq, decide_eq_true_eq] at hf
  have hp := highZ_pos (highL m.az)
  have hit : ∀ k, r.s = k → hitF k m.top (m.top + highZ (highL m.az)) r = true := fun k e => hitF_iff.2 ⟨cntF_iff.2 ⟨hf.1, hf.2, hs⟩, e, by omega, by omega, by omega⟩
  have hno : ∀ k, r.s ≠ k → hitF k m.top (m.top + highZ (highL m.az)) r = false := fun k e => by
    rw [← Bool.not_eq_true, hitF_iff]
    exact fun q => e q.2.1
  unfold Mk.l Mk.r freeL freeR besA besB
  dsimp only
  rw [bandL_one, bandR_one]
  rcases hs with e | e
  · rw [hit 1 e, hno 2 (by omega), if_pos rfl, if_neg (by decide), if_neg (by omega), if_neg (by omega)]
    omega
  · rw [hit 2 e, hno 1 (by omega), if_pos rfl, if_neg (by decide), if_pos e, if_pos e]
    omega

def besN (m : Mk) (r : Fl) : Bool := decide (r.t ≠ m.top) || (fullF r && decide (besB m.r r - besA m.l r < wideL m.az))

theorem beside_is {m : Mk} (hne : m.az ≠ []) {x : Wt} (hs : x.s = 1 ∨ x.s = 2) : (m.beside x).2 = if besN m (placed m.fs x) then none else some (placed m.fs x) := by
  have hs' : (placed m.fs x).s = 1 ∨ (placed m.fs x).s = 2 := hs
  generalize hr : placed m.fs x = r at *
  unfold Mk.beside
  cases ha : m.az with
  | nil => exact absurd ha hne
  | cons z l =>
    dsimp only
    rw [hr]
    unfold besN
    by_cases ht : r.t = m.top
    · by_cases hf : fullF r = true
      · have hw := beside_w hs' ht hf
        unfold fullF at hf
        rw [← ha, hw]
        by_cases hl : besB m.r r - besA m.l r < wideL m.az
        · rw [if_pos (.inr ⟨hf, hl⟩), if_pos (by unfold fullF; rw [hf, decide_eq_true hl]; simp)]
        · rw [if_neg (fun q => q.elim (fun q => q ht) (fun q => hl q.2)), if_neg (by rw [decide_eq_false hl]; simp [ht])]
      · have hf' : ¬ (decide (r.l < r.r) && decide (r.t < r.b)) = true := hf
        rw [if_neg (fun q => q.elim (fun q => q ht) (fun q => hf' q.1)), if_neg (by rw [Bool.not_eq_true] at hf; rw [hf]; simp [ht])]
    · rw [if_pos (.inl ht), if_pos (by simp [ht])]

set_option maxRecDepth 100000 in
set_option maxHeartbeats 1000000 in
theorem lbes_any (X : Ln) (r : Fl) (w : World) : Calls Tryz.prog 77 #[X.v, .int .i64 r.s, Fl.box r] w fun e w' => e = .returned (.agg #[.int .i64 (besA X.l r), .int .i64 (besB X.r r)]) ∧ Below w.heap.size w w' := by
  obtain ⟨A, hA⟩ : ∃ A, besA X.l r = A := ⟨_, rfl⟩
  obtain ⟨B, hB⟩ : ∃ B, besB X.r r = B := ⟨_, rfl⟩
  rw [hA, hB]
  have HAB := Lib.hid (⟨hA, hB⟩ : besA X.l r = A ∧ besB X.r r = B)
  clear hA hB
  go_enter Tryz.func77, Tryz.ntmps77
  go_upto_region 1 with fail
  generalize hW1 : World.alloc w _ = W1
  obtain ⟨b0, hb0⟩ : ∃ b0, w.heap.size = b0 := ⟨_, rfl⟩
  have k1 : Below w.heap.size w W1 := by rw [← hW1]; exact ba1 _ _
  have s1 : W1.heap.size = b0 + 1 := by rw [← hW1, ← hb0]; simp
  have z1 : RowAt W1 b0 (lnrow X) := by rw [← hW1, ← hb0]; exact RowAt.new w _ _
  clear hW1
  generalize hW2 : World.alloc W1 _ = W2
  have k2 : Below W1.heap.size W1 W2 := by rw [← hW2]; exact ba1 _ _
  have s2 : W2.heap.size = b0 + 2 := by rw [← hW2]; simp; omega
  have z2 : RowAt W2 (b0 + 1) [.int .i64 r.l, .int .i64 r.t, .int .i64 r.r, .int .i64 r.b] := by rw [← hW2, ← s1]; exact RowAt.new W1 _ _
  clear hW2
  generalize hW3 : World.alloc W2 _ = W
  have k3 : Below W2.heap.size W2 W := by rw [← hW3]; exact ba1 _ _
  have z3 : RowAt W (b0 + 2) (Line.two 0 0) := by rw [← hW3, ← s2]; exact RowAt.new W2 _ _
  clear hW3
  rw [hb0]
  obtain ⟨b1, hb1⟩ : ∃ b1, b0 + 1 = b1 := ⟨_, rfl⟩
  obtain ⟨b2, hb2⟩ : ∃ b2, b0 + 2 = b2 := ⟨_, rfl⟩
  rw [hb1] at z2
  rw [hb2] at z3
  have g2 : w.heap.size ≤ b2 := by omega
  rw [show b0 + 1 = b1 from hb1]
  rw [show b1 + 1 = b2 by omega]
  have S1 := Lib.hid (⟨thru k1 (thru k2 k3), (z1.below (by simp) k2).below (by simp) k3, z2.below (by simp) k3, z3⟩ : Below w.heap.size w W ∧ RowAt W b0 (lnrow X) ∧ RowAt W b1 [.int .i64 r.l, .int .i64 r.t, .int .i64 r.r, .int .i64 r.b] ∧ RowAt W b2 (Line.two 0 0))
  obtain ⟨c0, c1, c2, c3, c4, c5⟩ := lat_of S1.out.2.1
  clear hb0 hb1 hb2 k1 k2 k3 z1 z2 z3 s1 s2
  go_upto_region 2 with (first
    | (go_at_call 63; refine (columns_any _ _ _ _ _).mono ?_; rintro e w1 ⟨rfl, k1⟩; have K1 := Lib.hid k1; clear k1))
  clear c0 c1 c2 c3 c4 c5
  generalize hW1 : World.alloc w1 _ = V
  obtain ⟨b3, hb3⟩ : ∃ b3, w1.heap.size = b3 := ⟨_, rfl⟩
  have k1 : Below w1.heap.size w1 V := by rw [← hW1]; exact ba1 _ _
  have z3 : RowAt V b3 (Line.two X.l X.r) := by rw [← hW1, ← hb3]; exact RowAt.new w1 _ _
  rw [hb3]
  have k2 := thru K1.out k1
  have z1 := S1.out.2.2.1.below (by simp) k2
  have z2 := S1.out.2.2.2.below (by simp) k2
  have KV := Lib.hid (⟨thru S1.out.1 k2, z2⟩ : Below w.heap.size w V ∧ RowAt V b2 (Line.two 0 0))
  obtain ⟨d0, d1, -, -⟩ := two_of z3
  have e0 : V.cell? ⟨b1, 0, none⟩ = some (.int .i64 r.l) := z1.at' 0
  have e2 : V.cell? ⟨b1, 2, none⟩ = some (.int .i64 r.r) := z1.at' 2
  clear hW1 hb3 k1 k2 z1 z2 z3 K1 S1
  by_cases hs : r.s = 2
  · have HE : Hid (max X.l X.l = A ∧ min X.r r.l = B) := Lib.hid (by rw [← HAB.out.1, ← HAB.out.2]; unfold besA besB; rw [if_pos hs, if_pos hs]; exact ⟨rfl, rfl⟩)
    have hsb : (r.s == 2) = true := by rw [hs]; rfl
    have HS := Lib.hid hs
    clear hs
    go_wp2_with (first
      | (go_at_call 91; refine (clip_any _ _ _ _ _).mono ?_; rintro e w2 ⟨rfl, k2⟩; obtain ⟨q0, q1, f0, f1⟩ := two_of (KV.out.2.below (by simp) k2); have K2 := Lib.hid (thru KV.out.1 k2); clear k2))
    exact bodyPost_ret (v := .agg #[.int .i64 (max X.l X.l), .int .i64 (min X.r r.l)]) (by simp [results, Tryz.results77, go_sem, q0, q1]) rfl ⟨by rw [HE.out.1, HE.out.2], ((K2.out.setCell (p := ⟨b2, 0, none⟩) g2 _).setCell (p := ⟨b2, 1, none⟩) g2 _)⟩
  · have HE : Hid (max X.l r.r = A ∧ min X.r X.r = B) := Lib.hid (by rw [← HAB.out.1, ← HAB.out.2]; unfold besA besB; rw [if_neg hs, if_neg hs]; exact ⟨rfl, rfl⟩)
    have hsb : (r.s == 2) = false := by simp [hs]
    clear hs
    go_wp2_with (first
      | (go_at_call 91; refine (clip_any _ _ _ _ _).mono ?_; rintro e w2 ⟨rfl, k2⟩; obtain ⟨q0, q1, f0, f1⟩ := two_of (KV.out.2.below (by simp) k2); have K2 := Lib.hid (thru KV.out.1 k2); clear k2))
    exact bodyPost_ret (v := .agg #[.int .i64 (max X.l r.r), .int .i64 (min X.r X.r)]) (by simp [results, Tryz.results77, go_sem, q0, q1]) rfl ⟨by rw [HE.out.1, HE.out.2], ((K2.out.setCell (p := ⟨b2, 0, none⟩) g2 _).setCell (p := ⟨b2, 1, none⟩) g2 _)⟩

section

variable {S : World → (Nat → Prop) → Addr → List Fl → Prop}

abbrev brow0 : List Value := [.int .i64 0, .int .i64 0, .int .i64 0, .int .i64 0]

structure NearB (r : Fl) : Prop where
  l1 : -4503599627370496 ≤ r.l
  l2 : r.l ≤ 4503599627370496
  r1 : -4503599627370496 ≤ r.r
  r2 : r.r ≤ 4503599627370496

structure NearLn (X : Ln) : Prop where
  l1 : -4503599627370496 ≤ X.l
  l2 : X.l ≤ 4503599627370496
  r1 : -4503599627370496 ≤ X.r
  r2 : X.r ≤ 4503599627370496

theorem nearF_of {r : Fl} (h : nearF r = true) : NearB r := by
  unfold nearF at h
  simp only [List.all_cons, List.all_nil, Bool.and_true, Bool.and_eq_true, inS_iff] at h
  obtain ⟨h1, h2, h3, h4⟩ := h
  exact ⟨by omega, by omega, by omega, by omega⟩

theorem near_ln {m : Mk} (hf : Fine m) : NearLn (lnOf m) := by
  obtain ⟨L1, L2⟩ := bandL_49 hf.h49 m.top (m.top + highZ (highL m.az))
  obtain ⟨R1, R2⟩ := bandR_49 hf.h49 m.top (m.top + highZ (highL m.az))
  have := hf.f1
  have := hf.f2
  have := hf.t1
  have := hf.t2
  refine ⟨?_, ?_, ?_, ?_⟩
  · show -4503599627370496 ≤ max m.f (bandL m.fs m.top (m.top + highZ (highL m.az))); omega
  · show max m.f (bandL m.fs m.top (m.top + highZ (highL m.az))) ≤ 4503599627370496; omega
  · show -4503599627370496 ≤ min m.t (bandR m.fs m.top (m.top + highZ (highL m.az))); omega
  · show min m.t (bandR m.fs m.top (m.top + highZ (highL m.az))) ≤ 4503599627370496; omega

theorem bes_b {X : Ln} {r : Fl} {d : Int} (h : NearLn X) (k : NearB r) (hd : besB X.r r - besA X.l r = d) : -9223372036854775808 ≤ besB X.r r - besA X.l r ∧ besB X.r r - besA X.l r < 9223372036854775808 := by
  obtain ⟨a, b, c, e⟩ := h
  obtain ⟨f, g, i, j⟩ := k
  unfold besA besB
  split <;> omega

set_option maxRecDepth 100000 in
set_option maxHeartbeats 2000000 in
theorem lfloat_no (hO : SpaceOk S) (hP : PlaceOk S) (w : World) (F : Nat → Prop) (p : Addr) (b : Nat) (m : Mk) (x : Wt) (hs : S w F p m.fs) (hb : Bl w p b m) (hF : ¬ F b) (hm : m.az ≠ []) (hf : Fine m) (hx : RightW x) (hlen : m.fs.length < 1000) (hN : besN m (placed m.fs x) = true) :
    Calls Tryz.prog 65 #[.pointer (some ⟨b, 0, none⟩), x.v] w fun e w' => e = .returned (.tuple #[.agg #[.int .i64 0, .int .i64 0, .int .i64 0, .int .i64 0], .bool false]) ∧ Below w.heap.size w w' := by
  have HNo := Lib.hid (fun w1 (k : S w1 F p m.fs) (kb : Bl w1 p b m) => lnow_some hO w1 F p b m k kb hm hf)
  have HFi := Lib.hid (fun w1 (k : S w1 F p m.fs) => hP.find w1 F p m.fs x k hf.h49 hx)
  have HPu := Lib.hid (fun w1 (k : S w1 F p m.fs) => hO.put w1 F p m.fs (placed m.fs x) k hlen (near49_near hf.h49) (placed_near hf.h49 hx) hx.sd)
  have HNr := Lib.hid (nearF_of (placed_near hf.h49 hx))
  have hrs : (placed m.fs x).s = x.s := rfl
  have hX : besN m (placed m.fs x) = (decide ((placed m.fs x).t ≠ (lnOf m).t) || (fullF (placed m.fs x) && decide (besB (lnOf m).r (placed m.fs x) - besA (lnOf m).l (placed m.fs x) < (lnOf m).w))) := rfl
  have HXb := Lib.hid (near_ln hf)
  rw [hX] at hN
  generalize placed m.fs x = r at *
  generalize lnOf m = X at *
  have HN := Lib.hid hN
  have HS := Lib.hid (⟨hs, hb⟩ : S w F p m.fs ∧ Bl w p b m)
  have HF := Lib.hid (⟨hO.lt _ _ _ _ hs, hF, hb.lt⟩ : (∀ k, F k → k < w.heap.size) ∧ ¬ F b ∧ b < w.heap.size)
  have HR := Lib.hid hrs
  clear hs hb hF hm hf hx hlen hX hN hrs
  go_enter Tryz.func65, Tryz.ntmps65
  go_upto_region 1 with fail
  generalize hW1 : World.alloc w _ = W1
  obtain ⟨b0, hb0⟩ : ∃ b0, w.heap.size = b0 := ⟨_, rfl⟩
  have k1 : Below w.heap.size w W1 := by rw [← hW1]; exact ba1 _ _
  have s1 : W1.heap.size = b0 + 1 := by rw [← hW1, ← hb0]; simp
  have z1 : RowAt W1 b0 (wrow x) := by rw [← hW1, ← hb0]; exact RowAt.new w _ _
  clear hW1
  generalize hW2 : World.alloc W1 _ = W
  have k2 : Below W1.heap.size W1 W := by rw [← hW2]; exact ba1 _ _
  have z2 : RowAt W (b0 + 1) brow0 := by rw [← hW2, ← s1]; exact RowAt.new W1 _ _
  clear hW2
  rw [hb0]
  obtain ⟨b1, hb1⟩ : ∃ b1, b0 + 1 = b1 := ⟨_, rfl⟩
  rw [hb1] at z2
  rw [hb1]
  have hg1 : w.heap.size ≤ b1 := by omega
  have S1 := Lib.hid (⟨thru k1 k2, z1.below (by simp) k2, z2, thruS hO HS.out.1 (thru k1 k2), HS.out.2.below (thru k1 k2)⟩ : Below w.heap.size w W ∧ RowAt W b0 (wrow x) ∧ RowAt W b1 brow0 ∧ S W F p m.fs ∧ Bl W p b m)
  clear hb0 hb1 k1 k2 z1 z2 s1 HS
  go_upto_region 2 with (first
    | (go_at_call 46; refine (HNo.out _ S1.out.2.2.2.1 S1.out.2.2.2.2).mono ?_; rintro e w1 ⟨rfl, k1⟩; have K1 := Lib.hid k1; clear k1))
  generalize hW1 : World.alloc w1 _ = V
  obtain ⟨b2, hb2⟩ : ∃ b2, w1.heap.size = b2 := ⟨_, rfl⟩
  have k1 : Below w1.heap.size w1 V := by rw [← hW1]; exact ba1 _ _
  have z2 : RowAt V b2 (lnrow X) := by rw [← hW1, ← hb2]; exact RowAt.new w1 _ _
  have k2 := thru K1.out k1
  have S2 := Lib.hid (⟨thru S1.out.1 k2, S1.out.2.1.below (by simp) k2, S1.out.2.2.1.below (by simp) k2, thruS hO S1.out.2.2.2.1 k2, S1.out.2.2.2.2.below k2, z2⟩ : Below w.heap.size w V ∧ RowAt V b0 (wrow x) ∧ RowAt V b1 brow0 ∧ S V F p m.fs ∧ Bl V p b m ∧ RowAt V b2 (lnrow X))
  rw [hb2]
  clear hW1 hb2 k1 k2 z2 K1 S1 HNo
  go_upto_region 4 with fail
  obtain ⟨xb, hxb, -⟩ := S2.out.2.2.2.2.1
  have HBr := Lib.hid (fun (st : Nat) w' G (j : Draw.quiet V st w' G) => hxb.below (by simp) j.1)
  have HWr := Lib.hid (fun (st : Nat) w' G (j : Draw.quiet V st w' G) => S2.out.2.1.below (by simp) j.1)
  have HSp := Lib.hid (fun (st : Nat) w' G (j : Draw.quiet V st w' G) => thruS hO S2.out.2.2.2.1 j.1)
  clear hxb
  refine Draw.wp_region_drawn (Draw.quiet V) 0 [.val (.pointer (some ⟨b, 0, none⟩)), .val (.pointer (some ⟨b, 0, none⟩)), .val (.pointer (some ⟨b, 0, none⟩)), .val (.pointer (some p)), .val (.agg #[.int .i64 x.s, .int .i64 x.c, .int .i64 x.f, .int .i64 x.t, .int .i64 x.wd, .int .i64 x.ht, .int .i64 x.y]), .val (.agg #[.int .i64 r.l, .int .i64 r.t, .int .i64 r.r, .int .i64 r.b]), .box (.cells #[.int .i64 0, .int .i64 0, .int .i64 0, .int .i64 0] 42), .put 6 (.cells #[.int .i64 r.l, .int .i64 r.t, .int .i64 r.r, .int .i64 r.b] 42)] (by kernel_rfl) (by kernel_rfl) (by kernel_rfl) (Draw.quiet_kept V) (Draw.quiet_start V) ?_ ?_
  · simp only [Draw.fill, Draw.Leave.value]
    refine ⟨?_, ?_, ?_, ?_, ?_, ?_, ?_, ?_, trivial⟩
    · intro st gg w' G hw hk
      go_simp
      exact ⟨rfl, rfl⟩
    · intro st gg w' G hw hk
      go_simp
      exact ⟨rfl, rfl⟩
    · intro st gg w' G hw hk
      go_simp
      exact ⟨rfl, rfl⟩
    · intro st gg w' G hw hk
      have q0 : w'.cell? ⟨b, 0, none⟩ = some (.pointer (some p)) := (HBr.out st w' G hw).at' 0
      go_simp
      exact ⟨rfl, rfl⟩
    · intro st gg w' G hw hk
      have q0 : w'.cell? ⟨b0, 0, none⟩ = some (.int .i64 x.s) := (HWr.out st w' G hw).at' 0
      have q1 : w'.cell? ⟨b0, 1, none⟩ = some (.int .i64 x.c) := (HWr.out st w' G hw).at' 1
      have q2 : w'.cell? ⟨b0, 2, none⟩ = some (.int .i64 x.f) := (HWr.out st w' G hw).at' 2
      have q3 : w'.cell? ⟨b0, 3, none⟩ = some (.int .i64 x.t) := (HWr.out st w' G hw).at' 3
      have q4 : w'.cell? ⟨b0, 4, none⟩ = some (.int .i64 x.wd) := (HWr.out st w' G hw).at' 4
      have q5 : w'.cell? ⟨b0, 5, none⟩ = some (.int .i64 x.ht) := (HWr.out st w' G hw).at' 5
      have q6 : w'.cell? ⟨b0, 6, none⟩ = some (.int .i64 x.y) := (HWr.out st w' G hw).at' 6
      go_simp
      exact ⟨rfl, rfl⟩
    · intro st gg w' G hw hk
      go_simp
      exact Draw.stays_call (HFi.out w' (HSp.out st w' G hw))
    · intro st gg w' G hw hk
      go_simp
    · intro st gg w' G hw y b hy hob hb
      obtain rfl : Draw.Leave.box _ = y := Option.some.inj hy
      obtain rfl : _ = b := Option.some.inj hob
      obtain ⟨r0, r1, r2, r3⟩ := R4.of_block hb
      obtain ⟨f0, f1, f2, f3⟩ := free4 hb
      refine ⟨_, ?_, only_put4 _ 0 0 0 0 r.l r.t r.r r.b hb⟩
      clear hb
      go_simp
      rfl
  intro gg w5 G5 k5 hbox hput hap
  have p6 : w5.heap[gg 6]? = some (.cells #[.int .i64 r.l, .int .i64 r.t, .int .i64 r.r, .int .i64 r.b] 42) := hput 7 6 _ rfl
  have l6 := (hbox 6 _ _ rfl rfl).2.1
  simp only [Draw.fill, Draw.Leave.value]
  go_simp
  generalize gg 6 = g at *
  have hgb : w.heap.size ≤ g := by have := S2.out.1.size; omega
  have S5 := Lib.hid (⟨thru S2.out.1 k5.1, S2.out.2.1.below (by simp) k5.1, S2.out.2.2.1.below (by simp) k5.1, thruS hO S2.out.2.2.2.1 k5.1, S2.out.2.2.2.2.1.below k5.1, S2.out.2.2.2.2.2.below (by simp) k5.1, rowAt_of p6⟩ : Below w.heap.size w w5 ∧ RowAt w5 b0 (wrow x) ∧ RowAt w5 b1 brow0 ∧ S w5 F p m.fs ∧ Bl w5 p b m ∧ RowAt w5 b2 (lnrow X) ∧ RowAt w5 g [.int .i64 r.l, .int .i64 r.t, .int .i64 r.r, .int .i64 r.b])
  clear hbox hput hap p6 l6 k5 HBr HWr HSp HFi S2
  go_upto_region 5 with fail
  have HXr := Lib.hid (fun w' (j : Below w5.heap.size w5 w') => S5.out.2.2.2.2.2.1.below (by simp) j)
  have HRr := Lib.hid (fun w' (j : Below w5.heap.size w5 w') => S5.out.2.2.2.2.2.2.below (by simp) j)
  have HWr := Lib.hid (fun w' (j : Below w5.heap.size w5 w') => S5.out.2.1.below (by simp) j)
  go_cut [43] (fun t wx => t = .bool true ∧ Below w5.heap.size w5 wx)
  case first =>
    by_cases ht : r.t = X.t
    · have hrest : (fullF r && decide (besB X.r r - besA X.l r < X.w)) = true := by have := HN.out; rw [decide_eq_false (fun q => q ht)] at this; exact this
      rw [Bool.and_eq_true, decide_eq_true_eq] at hrest
      have HT : Hid ((r.t != X.t) = false) := Lib.hid (by simp [ht])
      have HFu : Hid ((decide (r.l < r.r) && decide (r.t < r.b)) = true) := Lib.hid hrest.1
      obtain ⟨d, hd⟩ : ∃ d, besB X.r r - besA X.l r = d := ⟨_, rfl⟩
      have hdb := bes_b HXb.out HNr.out hd
      have HLd := Lib.hid (fun w => llen_is (besA X.l r) (besB X.r r) d (by rw [IntWalk.i64_in _ (by omega)]; exact hd) w)
      have HLt : Hid (d < X.w) := Lib.hid (by have := hrest.2; omega)
      clear ht hrest hd hdb
      refine Hold2.wp_region_hold_all2 [.val (.pointer (some ⟨g, 1, none⟩)), .val (.int .i64 r.t), .val (.pointer (some ⟨b2, 0, none⟩)), .val (.pointer (some ⟨b2, 1, none⟩)), .val (.int .i64 X.t), .val (.bool false), .val (.bool false), .val (.agg #[.int .i64 r.l, .int .i64 r.t, .int .i64 r.r, .int .i64 r.b]), .val (.bool true), .val (.bool true), .val (.agg #[.int .i64 X.l, .int .i64 X.t, .int .i64 X.r, .int .i64 X.b, .int .i64 X.a, .int .i64 X.w]), .val (.pointer (some ⟨b0, 0, none⟩)), .val (.int .i64 x.s), .val (.agg #[.int .i64 r.l, .int .i64 r.t, .int .i64 r.r, .int .i64 r.b]), .val (.agg #[.int .i64 (besA X.l r), .int .i64 (besB X.r r)]), .val (.int .i64 d), .val (.pointer (some ⟨b2, 5, none⟩)), .val (.int .i64 X.w), .val (.bool true), .val (.bool true), .val (.bool true)] (by kernel_rfl) (by kernel_rfl) (by kernel_rfl) ?_ ?_
      · simp only [Hold.fill, Hold.Leave.value]
        refine ⟨?_, ?_, ?_, ?_, ?_, ?_, ?_, ?_, ?_, ?_, ?_, ?_, ?_, ?_, ?_, ?_, ?_, ?_, ?_, ?_, ?_, trivial⟩
        · intro gg w' hw hk
          go_simp
          exact ⟨rfl, rfl⟩
        · intro gg w' hw hk
          have q0 : w'.cell? ⟨g, 1, none⟩ = some (.int .i64 r.t) := (HRr.out w' hw).at' 1
          go_simp
          exact ⟨rfl, rfl⟩
        · intro gg w' hw hk
          go_simp
          exact ⟨rfl, rfl⟩
        · intro gg w' hw hk
          go_simp
          exact ⟨rfl, rfl⟩
        · intro gg w' hw hk
          have q0 : w'.cell? ⟨b2, 1, none⟩ = some (.int .i64 X.t) := (HXr.out w' hw).at' 1
          go_simp
          exact ⟨rfl, rfl⟩
        · intro gg w' hw hk
          have qn := HT.out
          go_simp
          exact ⟨rfl, rfl⟩
        · intro gg w' hw hk
          go_simp
          exact ⟨rfl, rfl⟩
        · intro gg w' hw hk
          have q0 : w'.cell? ⟨g, 0, none⟩ = some (.int .i64 r.l) := (HRr.out w' hw).at' 0
          have q1 : w'.cell? ⟨g, 1, none⟩ = some (.int .i64 r.t) := (HRr.out w' hw).at' 1
          have q2 : w'.cell? ⟨g, 2, none⟩ = some (.int .i64 r.r) := (HRr.out w' hw).at' 2
          have q3 : w'.cell? ⟨g, 3, none⟩ = some (.int .i64 r.b) := (HRr.out w' hw).at' 3
          go_simp
          exact ⟨rfl, rfl⟩
        · intro gg w' hw hk
          go_simp
          exact Hold.stays_call (full_is _ _ _ _ true HFu.out w')
        · intro gg w' hw hk
          go_simp
          exact ⟨rfl, rfl⟩
        · intro gg w' hw hk
          have q0 : w'.cell? ⟨b2, 0, none⟩ = some (.int .i64 X.l) := (HXr.out w' hw).at' 0
          have q1 : w'.cell? ⟨b2, 1, none⟩ = some (.int .i64 X.t) := (HXr.out w' hw).at' 1
          have q2 : w'.cell? ⟨b2, 2, none⟩ = some (.int .i64 X.r) := (HXr.out w' hw).at' 2
          have q3 : w'.cell? ⟨b2, 3, none⟩ = some (.int .i64 X.b) := (HXr.out w' hw).at' 3
          have q4 : w'.cell? ⟨b2, 4, none⟩ = some (.int .i64 X.a) := (HXr.out w' hw).at' 4
          have q5 : w'.cell? ⟨b2, 5, none⟩ = some (.int .i64 X.w) := (HXr.out w' hw).at' 5
          go_simp
          exact ⟨rfl, rfl⟩
        · intro gg w' hw hk
          go_simp
          exact ⟨rfl, rfl⟩
        · intro gg w' hw hk
          have q0 : w'.cell? ⟨b0, 0, none⟩ = some (.int .i64 x.s) := (HWr.out w' hw).at' 0
          go_simp
          exact ⟨rfl, rfl⟩
        · intro gg w' hw hk
          have q0 : w'.cell? ⟨g, 0, none⟩ = some (.int .i64 r.l) := (HRr.out w' hw).at' 0
          have q1 : w'.cell? ⟨g, 1, none⟩ = some (.int .i64 r.t) := (HRr.out w' hw).at' 1
          have q2 : w'.cell? ⟨g, 2, none⟩ = some (.int .i64 r.r) := (HRr.out w' hw).at' 2
          have q3 : w'.cell? ⟨g, 3, none⟩ = some (.int .i64 r.b) := (HRr.out w' hw).at' 3
          go_simp
          exact ⟨rfl, rfl⟩
        · intro gg w' hw hk
          go_simp
          exact Hold.stays_call (by rw [← HR.out]; exact lbes_any X r w')
        · intro gg w' hw hk
          go_simp
          exact Hold.stays_call (HLd.out w')
        · intro gg w' hw hk
          go_simp
          exact ⟨rfl, rfl⟩
        · intro gg w' hw hk
          have q0 : w'.cell? ⟨b2, 5, none⟩ = some (.int .i64 X.w) := (HXr.out w' hw).at' 5
          go_simp
          exact ⟨rfl, rfl⟩
        · intro gg w' hw hk
          have qn := HLt.out
          go_simp
          exact ⟨rfl, rfl⟩
        · intro gg w' hw hk
          go_simp
          exact ⟨rfl, rfl⟩
        · intro gg w' hw hk
          go_simp
          exact ⟨rfl, rfl⟩
      intro gg w6 k6 hgg
      clear hgg
      simp only [Hold.fill, Hold.Leave.value]
      go_simp
      go_wp2_with fail
      go_meet
      exact ⟨rfl, k6⟩
    · have HT : Hid ((r.t != X.t) = true) := Lib.hid (by simp [ht])
      clear ht
      refine Hold2.wp_region_hold_all2 [.val (.pointer (some ⟨g, 1, none⟩)), .val (.int .i64 r.t), .val (.pointer (some ⟨b2, 0, none⟩)), .val (.pointer (some ⟨b2, 1, none⟩)), .val (.int .i64 X.t), .val (.bool true), .val (.bool true), .skip, .skip, .skip, .skip, .skip, .skip, .skip, .skip, .skip, .skip, .skip, .skip, .skip, .val (.bool true)] (by kernel_rfl) (by kernel_rfl) (by kernel_rfl) ?_ ?_
      · simp only [Hold.fill, Hold.Leave.value]
        refine ⟨?_, ?_, ?_, ?_, ?_, ?_, ?_, trivial, trivial, trivial, trivial, trivial, trivial, trivial, trivial, trivial, trivial, trivial, trivial, trivial, ?_, trivial⟩
        · intro gg w' hw hk
          go_simp
          exact ⟨rfl, rfl⟩
        · intro gg w' hw hk
          have q0 : w'.cell? ⟨g, 1, none⟩ = some (.int .i64 r.t) := (HRr.out w' hw).at' 1
          go_simp
          exact ⟨rfl, rfl⟩
        · intro gg w' hw hk
          go_simp
          exact ⟨rfl, rfl⟩
        · intro gg w' hw hk
          go_simp
          exact ⟨rfl, rfl⟩
        · intro gg w' hw hk
          have q0 : w'.cell? ⟨b2, 1, none⟩ = some (.int .i64 X.t) := (HXr.out w' hw).at' 1
          go_simp
          exact ⟨rfl, rfl⟩
        · intro gg w' hw hk
          have qn := HT.out
          go_simp
          exact ⟨rfl, rfl⟩
        · intro gg w' hw hk
          go_simp
          exact ⟨rfl, rfl⟩
        · intro gg w' hw hk
          go_simp
          exact ⟨rfl, rfl⟩
      intro gg w6 k6 hgg
      clear hgg
      simp only [Hold.fill, Hold.Leave.value]
      go_simp
      go_wp2_with fail
      go_meet
      exact ⟨rfl, k6⟩
  case rest =>
  obtain ⟨rfl, k6⟩ := hcut
  have K6 := Lib.hid (thru S5.out.1 k6)
  have z1 := S5.out.2.2.1.below (by simp) k6
  have r0 : wc.cell? ⟨b1, 0, none⟩ = some (.int .i64 0) := z1.at' 0
  have r1 : wc.cell? ⟨b1, 1, none⟩ = some (.int .i64 0) := z1.at' 1
  have r2 : wc.cell? ⟨b1, 2, none⟩ = some (.int .i64 0) := z1.at' 2
  have r3 : wc.cell? ⟨b1, 3, none⟩ = some (.int .i64 0) := z1.at' 3
  have f0 := z1.frz 0
  have f1 := z1.frz 1
  have f2 := z1.frz 2
  have f3 := z1.frz 3
  clear z1 k6 S5 HXr HRr HWr
  go_wp2_with fail
  exact bodyPost_ret (v := .tuple #[.agg #[.int .i64 0, .int .i64 0, .int .i64 0, .int .i64 0], .bool false]) (by simp [results, Tryz.results65, go_sem, r0, r1, r2, r3]) rfl ⟨rfl, ((((K6.out.setCell (p := ⟨b1, 0, none⟩) hg1 _).setCell (p := ⟨b1, 1, none⟩) hg1 _).setCell (p := ⟨b1, 2, none⟩) hg1 _).setCell (p := ⟨b1, 3, none⟩) hg1 _)⟩

set_option maxRecDepth 100000 in
set_option maxHeartbeats 2000000 in
theorem lfloat_yes (hO : SpaceOk S) (hP : PlaceOk S) (w : World) (F : Nat → Prop) (p : Addr) (b : Nat) (m : Mk) (x : Wt) (hs : S w F p m.fs) (hb : Bl w p b m) (hF : ¬ F b) (hm : m.az ≠ []) (hf : Fine m) (hx : RightW x) (hlen : m.fs.length < 1000) (hN : besN m (placed m.fs x) = false) :
    Calls Tryz.prog 65 #[.pointer (some ⟨b, 0, none⟩), x.v] w fun e w' => e = .returned (.tuple #[Fl.box (placed m.fs x), .bool true]) ∧ (∃ F', S w' F' p (m.fs ++ [placed m.fs x]) ∧ ∀ k, F' k → F k ∨ w.heap.size ≤ k) ∧ But F w w' := by
  have HNo := Lib.hid (fun w1 (k : S w1 F p m.fs) (kb : Bl w1 p b m) => lnow_some hO w1 F p b m k kb hm hf)
  have HFi := Lib.hid (fun w1 (k : S w1 F p m.fs) => hP.find w1 F p m.fs x k hf.h49 hx)
  have HPu := Lib.hid (fun w1 (k : S w1 F p m.fs) => hO.put w1 F p m.fs (placed m.fs x) k hlen (near49_near hf.h49) (placed_near hf.h49 hx) hx.sd)
  have HNr := Lib.hid (nearF_of (placed_near hf.h49 hx))
  have hrs : (placed m.fs x).s = x.s := rfl
  have hX : besN m (placed m.fs x) = (decide ((placed m.fs x).t ≠ (lnOf m).t) || (fullF (placed m.fs x) && decide (besB (lnOf m).r (placed m.fs x) - besA (lnOf m).l (placed m.fs x) < (lnOf m).w))) := rfl
  have HXb := Lib.hid (near_ln hf)
  rw [hX] at hN
  generalize placed m.fs x = r at *
  generalize lnOf m = X at *
  have HN := Lib.hid hN
  have HS := Lib.hid (⟨hs, hb⟩ : S w F p m.fs ∧ Bl w p b m)
  have HF := Lib.hid (⟨hO.lt _ _ _ _ hs, hF, hb.lt⟩ : (∀ k, F k → k < w.heap.size) ∧ ¬ F b ∧ b < w.heap.size)
  have HR := Lib.hid hrs
  clear hs hb hF hm hf hx hlen hX hN hrs
  go_enter Tryz.func65, Tryz.ntmps65
  go_upto_region 1 with fail
  generalize hW1 : World.alloc w _ = W1
  obtain ⟨b0, hb0⟩ : ∃ b0, w.heap.size = b0 := ⟨_, rfl⟩
  have k1 : Below w.heap.size w W1 := by rw [← hW1]; exact ba1 _ _
  have s1 : W1.heap.size = b0 + 1 := by rw [← hW1, ← hb0]; simp
  have z1 : RowAt W1 b0 (wrow x) := by rw [← hW1, ← hb0]; exact RowAt.new w _ _
  clear hW1
  generalize hW2 : World.alloc W1 _ = W
  have k2 : Below W1.heap.size W1 W := by rw [← hW2]; exact ba1 _ _
  have z2 : RowAt W (b0 + 1) brow0 := by rw [← hW2, ← s1]; exact RowAt.new W1 _ _
  clear hW2
  rw [hb0]
  obtain ⟨b1, hb1⟩ : ∃ b1, b0 + 1 = b1 := ⟨_, rfl⟩
  rw [hb1] at z2
  rw [hb1]
  have hg1 : w.heap.size ≤ b1 := by omega
  have S1 := Lib.hid (⟨thru k1 k2, z1.below (by simp) k2, z2, thruS hO HS.out.1 (thru k1 k2), HS.out.2.below (thru k1 k2)⟩ : Below w.heap.size w W ∧ RowAt W b0 (wrow x) ∧ RowAt W b1 brow0 ∧ S W F p m.fs ∧ Bl W p b m)
  clear hb0 hb1 k1 k2 z1 z2 s1 HS
  go_upto_region 2 with (first
    | (go_at_call 46; refine (HNo.out _ S1.out.2.2.2.1 S1.out.2.2.2.2).mono ?_; rintro e w1 ⟨rfl, k1⟩; have K1 := Lib.hid k1; clear k1))
  generalize hW1 : World.alloc w1 _ = V
  obtain ⟨b2, hb2⟩ : ∃ b2, w1.heap.size = b2 := ⟨_, rfl⟩
  have k1 : Below w1.heap.size w1 V := by rw [← hW1]; exact ba1 _ _
  have z2 : RowAt V b2 (lnrow X) := by rw [← hW1, ← hb2]; exact RowAt.new w1 _ _
  have k2 := thru K1.out k1
  have S2 := Lib.hid (⟨thru S1.out.1 k2, S1.out.2.1.below (by simp) k2, S1.out.2.2.1.below (by simp) k2, thruS hO S1.out.2.2.2.1 k2, S1.out.2.2.2.2.below k2, z2⟩ : Below w.heap.size w V ∧ RowAt V b0 (wrow x) ∧ RowAt V b1 brow0 ∧ S V F p m.fs ∧ Bl V p b m ∧ RowAt V b2 (lnrow X))
  rw [hb2]
  clear hW1 hb2 k1 k2 z2 K1 S1 HNo
  go_upto_region 4 with fail
  obtain ⟨xb, hxb, -⟩ := S2.out.2.2.2.2.1
  have HBr := Lib.hid (fun (st : Nat) w' G (j : Draw.quiet V st w' G) => hxb.below (by simp) j.1)
  have HWr := Lib.hid (fun (st : Nat) w' G (j : Draw.quiet V st w' G) => S2.out.2.1.below (by simp) j.1)
  have HSp := Lib.hid (fun (st : Nat) w' G (j : Draw.quiet V st w' G) => thruS hO S2.out.2.2.2.1 j.1)
  clear hxb
  refine Draw.wp_region_drawn (Draw.quiet V) 0 [.val (.pointer (some ⟨b, 0, none⟩)), .val (.pointer (some ⟨b, 0, none⟩)), .val (.pointer (some ⟨b, 0, none⟩)), .val (.pointer (some p)), .val (.agg #[.int .i64 x.s, .int .i64 x.c, .int .i64 x.f, .int .i64 x.t, .int .i64 x.wd, .int .i64 x.ht, .int .i64 x.y]), .val (.agg #[.int .i64 r.l, .int .i64 r.t, .int .i64 r.r, .int .i64 r.b]), .box (.cells #[.int .i64 0, .int .i64 0, .int .i64 0, .int .i64 0] 42), .put 6 (.cells #[.int .i64 r.l, .int .i64 r.t, .int .i64 r.r, .int .i64 r.b] 42)] (by kernel_rfl) (by kernel_rfl) (by kernel_rfl) (Draw.quiet_kept V) (Draw.quiet_start V) ?_ ?_
  · simp only [Draw.fill, Draw.Leave.value]
    refine ⟨?_, ?_, ?_, ?_, ?_, ?_, ?_, ?_, trivial⟩
    · intro st gg w' G hw hk
      go_simp
      exact ⟨rfl, rfl⟩
    · intro st gg w' G hw hk
      go_simp
      exact ⟨rfl, rfl⟩
    · intro st gg w' G hw hk
      go_simp
      exact ⟨rfl, rfl⟩
    · intro st gg w' G hw hk
      have q0 : w'.cell? ⟨b, 0, none⟩ = some (.pointer (some p)) := (HBr.out st w' G hw).at' 0
      go_simp
      exact ⟨rfl, rfl⟩
    · intro st gg w' G hw hk
      have q0 : w'.cell? ⟨b0, 0, none⟩ = some (.int .i64 x.s) := (HWr.out st w' G hw).at' 0
      have q1 : w'.cell? ⟨b0, 1, none⟩ = some (.int .i64 x.c) := (HWr.out st w' G hw).at' 1
      have q2 : w'.cell? ⟨b0, 2, none⟩ = some (.int .i64 x.f) := (HWr.out st w' G hw).at' 2
      have q3 : w'.cell? ⟨b0, 3, none⟩ = some (.int .i64 x.t) := (HWr.out st w' G hw).at' 3
      have q4 : w'.cell? ⟨b0, 4, none⟩ = some (.int .i64 x.wd) := (HWr.out st w' G hw).at' 4
      have q5 : w'.cell? ⟨b0, 5, none⟩ = some (.int .i64 x.ht) := (HWr.out st w' G hw).at' 5
      have q6 : w'.cell? ⟨b0, 6, none⟩ = some (.int .i64 x.y) := (HWr.out st w' G hw).at' 6
      go_simp
      exact ⟨rfl, rfl⟩
    · intro st gg w' G hw hk
      go_simp
      exact Draw.stays_call (HFi.out w' (HSp.out st w' G hw))
    · intro st gg w' G hw hk
      go_simp
    · intro st gg w' G hw y b hy hob hb
      obtain rfl : Draw.Leave.box _ = y := Option.some.inj hy
      obtain rfl : _ = b := Option.some.inj hob
      obtain ⟨r0, r1, r2, r3⟩ := R4.of_block hb
      obtain ⟨f0, f1, f2, f3⟩ := free4 hb
      refine ⟨_, ?_, only_put4 _ 0 0 0 0 r.l r.t r.r r.b hb⟩
      clear hb
      go_simp
      rfl
  intro gg w5 G5 k5 hbox hput hap
  have p6 : w5.heap[gg 6]? = some (.cells #[.int .i64 r.l, .int .i64 r.t, .int .i64 r.r, .int .i64 r.b] 42) := hput 7 6 _ rfl
  have l6 := (hbox 6 _ _ rfl rfl).2.1
  simp only [Draw.fill, Draw.Leave.value]
  go_simp
  generalize gg 6 = g at *
  have hgb : w.heap.size ≤ g := by have := S2.out.1.size; omega
  have S5 := Lib.hid (⟨thru S2.out.1 k5.1, S2.out.2.1.below (by simp) k5.1, S2.out.2.2.1.below (by simp) k5.1, thruS hO S2.out.2.2.2.1 k5.1, S2.out.2.2.2.2.1.below k5.1, S2.out.2.2.2.2.2.below (by simp) k5.1, rowAt_of p6⟩ : Below w.heap.size w w5 ∧ RowAt w5 b0 (wrow x) ∧ RowAt w5 b1 brow0 ∧ S w5 F p m.fs ∧ Bl w5 p b m ∧ RowAt w5 b2 (lnrow X) ∧ RowAt w5 g [.int .i64 r.l, .int .i64 r.t, .int .i64 r.r, .int .i64 r.b])
  clear hbox hput hap p6 l6 k5 HBr HWr HSp HFi S2
  go_upto_region 5 with fail
  have HXr := Lib.hid (fun w' (j : Below w5.heap.size w5 w') => S5.out.2.2.2.2.2.1.below (by simp) j)
  have HRr := Lib.hid (fun w' (j : Below w5.heap.size w5 w') => S5.out.2.2.2.2.2.2.below (by simp) j)
  have HWr := Lib.hid (fun w' (j : Below w5.heap.size w5 w') => S5.out.2.1.below (by simp) j)
  go_cut [43] (fun t wx => t = .bool false ∧ Below w5.heap.size w5 wx)
  case first =>
    have hor := HN.out
    rw [Bool.or_eq_false_iff, decide_eq_false_iff_not] at hor
    have ht : r.t = X.t := by have := hor.1; omega
    have HT : Hid ((r.t != X.t) = false) := Lib.hid (by simp [ht])
    cases hfu : fullF r with
    | false =>
      have HFu : Hid ((decide (r.l < r.r) && decide (r.t < r.b)) = false) := Lib.hid hfu
      clear hor ht hfu
      refine Hold2.wp_region_hold_all2 [.val (.pointer (some ⟨g, 1, none⟩)), .val (.int .i64 r.t), .val (.pointer (some ⟨b2, 0, none⟩)), .val (.pointer (some ⟨b2, 1, none⟩)), .val (.int .i64 X.t), .val (.bool false), .val (.bool false), .val (.agg #[.int .i64 r.l, .int .i64 r.t, .int .i64 r.r, .int .i64 r.b]), .val (.bool false), .val (.bool false), .skip, .skip, .skip, .skip, .skip, .skip, .skip, .skip, .skip, .val (.bool false), .val (.bool false)] (by kernel_rfl) (by kernel_rfl) (by kernel_rfl) ?_ ?_
      · simp only [Hold.fill, Hold.Leave.value]
        refine ⟨?_, ?_, ?_, ?_, ?_, ?_, ?_, ?_, ?_, ?_, trivial, trivial, trivial, trivial, trivial, trivial, trivial, trivial, trivial, ?_, ?_, trivial⟩
        · intro gg w' hw hk
          go_simp
          exact ⟨rfl, rfl⟩
        · intro gg w' hw hk
          have q0 : w'.cell? ⟨g, 1, none⟩ = some (.int .i64 r.t) := (HRr.out w' hw).at' 1
          go_simp
          exact ⟨rfl, rfl⟩
        · intro gg w' hw hk
          go_simp
          exact ⟨rfl, rfl⟩
        · intro gg w' hw hk
          go_simp
          exact ⟨rfl, rfl⟩
        · intro gg w' hw hk
          have q0 : w'.cell? ⟨b2, 1, none⟩ = some (.int .i64 X.t) := (HXr.out w' hw).at' 1
          go_simp
          exact ⟨rfl, rfl⟩
        · intro gg w' hw hk
          have qn := HT.out
          go_simp
          exact ⟨rfl, rfl⟩
        · intro gg w' hw hk
          go_simp
          exact ⟨rfl, rfl⟩
        · intro gg w' hw hk
          have q0 : w'.cell? ⟨g, 0, none⟩ = some (.int .i64 r.l) := (HRr.out w' hw).at' 0
          have q1 : w'.cell? ⟨g, 1, none⟩ = some (.int .i64 r.t) := (HRr.out w' hw).at' 1
          have q2 : w'.cell? ⟨g, 2, none⟩ = some (.int .i64 r.r) := (HRr.out w' hw).at' 2
          have q3 : w'.cell? ⟨g, 3, none⟩ = some (.int .i64 r.b) := (HRr.out w' hw).at' 3
          go_simp
          exact ⟨rfl, rfl⟩
        · intro gg w' hw hk
          go_simp
          exact Hold.stays_call (full_is _ _ _ _ false HFu.out w')
        · intro gg w' hw hk
          go_simp
          exact ⟨rfl, rfl⟩
        · intro gg w' hw hk
          go_simp
          exact ⟨rfl, rfl⟩
        · intro gg w' hw hk
          go_simp
          exact ⟨rfl, rfl⟩
      intro gg w6 k6 hgg
      clear hgg
      simp only [Hold.fill, Hold.Leave.value]
      go_simp
      go_wp2_with fail
      go_meet
      exact ⟨rfl, k6⟩
    | true =>
      have HFu : Hid ((decide (r.l < r.r) && decide (r.t < r.b)) = true) := Lib.hid hfu
      obtain ⟨d, hd⟩ : ∃ d, besB X.r r - besA X.l r = d := ⟨_, rfl⟩
      have hdb := bes_b HXb.out HNr.out hd
      have HLd := Lib.hid (fun w => llen_is (besA X.l r) (besB X.r r) d (by rw [IntWalk.i64_in _ (by omega)]; exact hd) w)
      have HLt : Hid (¬ d < X.w) := Lib.hid (by have := hor.2; rw [hfu, Bool.true_and, decide_eq_false_iff_not] at this; omega)
      clear hor ht hfu hd hdb
      refine Hold2.wp_region_hold_all2 [.val (.pointer (some ⟨g, 1, none⟩)), .val (.int .i64 r.t), .val (.pointer (some ⟨b2, 0, none⟩)), .val (.pointer (some ⟨b2, 1, none⟩)), .val (.int .i64 X.t), .val (.bool false), .val (.bool false), .val (.agg #[.int .i64 r.l, .int .i64 r.t, .int .i64 r.r, .int .i64 r.b]), .val (.bool true), .val (.bool true), .val (.agg #[.int .i64 X.l, .int .i64 X.t, .int .i64 X.r, .int .i64 X.b, .int .i64 X.a, .int .i64 X.w]), .val (.pointer (some ⟨b0, 0, none⟩)), .val (.int .i64 x.s), .val (.agg #[.int .i64 r.l, .int .i64 r.t, .int .i64 r.r, .int .i64 r.b]), .val (.agg #[.int .i64 (besA X.l r), .int .i64 (besB X.r r)]), .val (.int .i64 d), .val (.pointer (some ⟨b2, 5, none⟩)), .val (.int .i64 X.w), .val (.bool false), .val (.bool false), .val (.bool false)] (by kernel_rfl) (by kernel_rfl) (by kernel_rfl) ?_ ?_
      · simp only [Hold.fill, Hold.Leave.value]
        refine ⟨?_, ?_, ?_, ?_, ?_, ?_, ?_, ?_, ?_, ?_, ?_, ?_, ?_, ?_, ?_, ?_, ?_, ?_, ?_, ?_, ?_, trivial⟩
        · intro gg w' hw hk
          go_simp
          exact ⟨rfl, rfl⟩
        · intro gg w' hw hk
          have q0 : w'.cell? ⟨g, 1, none⟩ = some (.int .i64 r.t) := (HRr.out w' hw).at' 1
          go_simp
          exact ⟨rfl, rfl⟩
        · intro gg w' hw hk
          go_simp
          exact ⟨rfl, rfl⟩
        · intro gg w' hw hk
          go_simp
          exact ⟨rfl, rfl⟩
        · intro gg w' hw hk
          have q0 : w'.cell? ⟨b2, 1, none⟩ = some (.int .i64 X.t) := (HXr.out w' hw).at' 1
          go_simp
          exact ⟨rfl, rfl⟩
        · intro gg w' hw hk
          have qn := HT.out
          go_simp
          exact ⟨rfl, rfl⟩
        · intro gg w' hw hk
          go_simp
          exact ⟨rfl, rfl⟩
        · intro gg w' hw hk
          have q0 : w'.cell? ⟨g, 0, none⟩ = some (.int .i64 r.l) := (HRr.out w' hw).at' 0
          have q1 : w'.cell? ⟨g, 1, none⟩ = some (.int .i64 r.t) := (HRr.out w' hw).at' 1
          have q2 : w'.cell? ⟨g, 2, none⟩ = some (.int .i64 r.r) := (HRr.out w' hw).at' 2
          have q3 : w'.cell? ⟨g, 3, none⟩ = some (.int .i64 r.b) := (HRr.out w' hw).at' 3
          go_simp
          exact ⟨rfl, rfl⟩
        · intro gg w' hw hk
          go_simp
          exact Hold.stays_call (full_is _ _ _ _ true HFu.out w')
        · intro gg w' hw hk
          go_simp
          exact ⟨rfl, rfl⟩
        · intro gg w' hw hk
          have q0 : w'.cell? ⟨b2, 0, none⟩ = some (.int .i64 X.l) := (HXr.out w' hw).at' 0
          have q1 : w'.cell? ⟨b2, 1, none⟩ = some (.int .i64 X.t) := (HXr.out w' hw).at' 1
          have q2 : w'.cell? ⟨b2, 2, none⟩ = some (.int .i64 X.r) := (HXr.out w' hw).at' 2
          have q3 : w'.cell? ⟨b2, 3, none⟩ = some (.int .i64 X.b) := (HXr.out w' hw).at' 3
          have q4 : w'.cell? ⟨b2, 4, none⟩ = some (.int .i64 X.a) := (HXr.out w' hw).at' 4
          have q5 : w'.cell? ⟨b2, 5, none⟩ = some (.int .i64 X.w) := (HXr.out w' hw).at' 5
          go_simp
          exact ⟨rfl, rfl⟩
        · intro gg w' hw hk
          go_simp
          exact ⟨rfl, rfl⟩
        · intro gg w' hw hk
          have q0 : w'.cell? ⟨b0, 0, none⟩ = some (.int .i64 x.s) := (HWr.out w' hw).at' 0
          go_simp
          exact ⟨rfl, rfl⟩
        · intro gg w' hw hk
          have q0 : w'.cell? ⟨g, 0, none⟩ = some (.int .i64 r.l) := (HRr.out w' hw).at' 0
          have q1 : w'.cell? ⟨g, 1, none⟩ = some (.int .i64 r.t) := (HRr.out w' hw).at' 1
          have q2 : w'.cell? ⟨g, 2, none⟩ = some (.int .i64 r.r) := (HRr.out w' hw).at' 2
          have q3 : w'.cell? ⟨g, 3, none⟩ = some (.int .i64 r.b) := (HRr.out w' hw).at' 3
          go_simp
          exact ⟨rfl, rfl⟩
        · intro gg w' hw hk
          go_simp
          exact Hold.stays_call (by rw [← HR.out]; exact lbes_any X r w')
        · intro gg w' hw hk
          go_simp
          exact Hold.stays_call (HLd.out w')
        · intro gg w' hw hk
          go_simp
          exact ⟨rfl, rfl⟩
        · intro gg w' hw hk
          have q0 : w'.cell? ⟨b2, 5, none⟩ = some (.int .i64 X.w) := (HXr.out w' hw).at' 5
          go_simp
          exact ⟨rfl, rfl⟩
        · intro gg w' hw hk
          have qn := HLt.out
          go_simp
          exact ⟨rfl, rfl⟩
        · intro gg w' hw hk
          go_simp
          exact ⟨rfl, rfl⟩
        · intro gg w' hw hk
          go_simp
          exact ⟨rfl, rfl⟩
      intro gg w6 k6 hgg
      clear hgg
      simp only [Hold.fill, Hold.Leave.value]
      go_simp
      go_wp2_with fail
      go_meet
      exact ⟨rfl, k6⟩
  case rest =>
  obtain ⟨rfl, k6⟩ := hcut
  have S6 := Lib.hid (⟨thru S5.out.1 k6, S5.out.2.1.below (by simp) k6, S5.out.2.2.1.below (by simp) k6, thruS hO S5.out.2.2.2.1 k6, S5.out.2.2.2.2.1.below k6, S5.out.2.2.2.2.2.2.below (by simp) k6⟩ : Below w.heap.size w wc ∧ RowAt wc b0 (wrow x) ∧ RowAt wc b1 brow0 ∧ S wc F p m.fs ∧ Bl wc p b m ∧ RowAt wc g [.int .i64 r.l, .int .i64 r.t, .int .i64 r.r, .int .i64 r.b])
  clear k6 S5 HXr HRr HWr
  go_upto_region 7 with fail
  obtain ⟨xb, hxb, -⟩ := S6.out.2.2.2.2.1
  have HBr := Lib.hid (fun w' (j : Below wc.heap.size wc w') => hxb.below (by simp) j)
  have HWr := Lib.hid (fun w' (j : Below wc.heap.size wc w') => S6.out.2.1.below (by simp) j)
  have HRr := Lib.hid (fun w' (j : Below wc.heap.size wc w') => S6.out.2.2.2.2.2.below (by simp) j)
  clear hxb
  refine Hold.wp_region_hold [.val (.pointer (some ⟨b, 0, none⟩)), .val (.pointer (some ⟨b, 0, none⟩)), .val (.pointer (some ⟨b, 0, none⟩)), .val (.pointer (some p)), .val (.pointer (some ⟨b0, 0, none⟩)), .val (.int .i64 x.s), .val (.agg #[.int .i64 r.l, .int .i64 r.t, .int .i64 r.r, .int .i64 r.b])] (by kernel_rfl) (by kernel_rfl) (by kernel_rfl) ?_ ?_
  · simp only [Hold.fill, Hold.Leave.value]
    refine ⟨?_, ?_, ?_, ?_, ?_, ?_, ?_, trivial⟩
    · intro gg w' hw hk
      go_simp
      exact ⟨rfl, rfl⟩
    · intro gg w' hw hk
      go_simp
      exact ⟨rfl, rfl⟩
    · intro gg w' hw hk
      go_simp
      exact ⟨rfl, rfl⟩
    · intro gg w' hw hk
      have q0 : w'.cell? ⟨b, 0, none⟩ = some (.pointer (some p)) := (HBr.out w' hw).at' 0
      go_simp
      exact ⟨rfl, rfl⟩
    · intro gg w' hw hk
      go_simp
      exact ⟨rfl, rfl⟩
    · intro gg w' hw hk
      have q0 : w'.cell? ⟨b0, 0, none⟩ = some (.int .i64 x.s) := (HWr.out w' hw).at' 0
      go_simp
      exact ⟨rfl, rfl⟩
    · intro gg w' hw hk
      have q0 : w'.cell? ⟨g, 0, none⟩ = some (.int .i64 r.l) := (HRr.out w' hw).at' 0
      have q1 : w'.cell? ⟨g, 1, none⟩ = some (.int .i64 r.t) := (HRr.out w' hw).at' 1
      have q2 : w'.cell? ⟨g, 2, none⟩ = some (.int .i64 r.r) := (HRr.out w' hw).at' 2
      have q3 : w'.cell? ⟨g, 3, none⟩ = some (.int .i64 r.b) := (HRr.out w' hw).at' 3
      go_simp
      exact ⟨rfl, rfl⟩
  intro gg w7 k7 hgg
  clear hgg
  simp only [Hold.fill, Hold.Leave.value, List.length_cons, List.length_nil, List.drop_succ_cons, List.drop_zero]
  have S7 := Lib.hid (⟨thru S6.out.1 k7, S6.out.2.2.1.below (by simp) k7, thruS hO S6.out.2.2.2.1 k7, S6.out.2.2.2.2.2.below (by simp) k7⟩ : Below w.heap.size w w7 ∧ RowAt w7 b1 brow0 ∧ S w7 F p m.fs ∧ RowAt w7 g [.int .i64 r.l, .int .i64 r.t, .int .i64 r.r, .int .i64 r.b])
  clear k7 HBr HWr HRr S6
  have hHP := HPu.out w7 S7.out.2.2.1
  rw [HR.out] at hHP
  have HP7 := Lib.hid hHP
  clear hHP
  go_simp
  go_upto_region 8 with (first
    | (go_at_call 27; refine HP7.out.mono ?_; rintro e w8 ⟨⟨v8, rfl⟩, ⟨F8, hL8, hF8⟩, k8⟩; have S8 := Lib.hid (⟨⟨F8, hL8, hF8⟩, k8⟩ : (∃ F', S w8 F' p (m.fs ++ [r]) ∧ ∀ k, F' k → F k ∨ w7.heap.size ≤ k) ∧ But F w7 w8); clear hL8 hF8 k8))
  have hnF : ∀ k, w.heap.size ≤ k → ¬ F k := fun k hk q => by have := HF.out.1 k q; omega
  have z1 := S7.out.2.1.but (by simp) S8.out.2 (hnF b1 hg1)
  have z2 := S7.out.2.2.2.but (by simp) S8.out.2 (hnF g hgb)
  have hb1l : b1 < w7.heap.size := S7.out.2.1.lt (by simp)
  have r0 : w8.cell? ⟨b1, 0, none⟩ = some (.int .i64 0) := z1.at' 0
  have f0 := z1.frz 0
  have r1 : w8.cell? ⟨b1, 1, none⟩ = some (.int .i64 0) := z1.at' 1
  have f1 := z1.frz 1
  have r2 : w8.cell? ⟨b1, 2, none⟩ = some (.int .i64 0) := z1.at' 2
  have f2 := z1.frz 2
  have r3 : w8.cell? ⟨b1, 3, none⟩ = some (.int .i64 0) := z1.at' 3
  have f3 := z1.frz 3
  have e0 : w8.cell? ⟨g, 0, none⟩ = some (.int .i64 r.l) := z2.at' 0
  have e1 : w8.cell? ⟨g, 1, none⟩ = some (.int .i64 r.t) := z2.at' 1
  have e2 : w8.cell? ⟨g, 2, none⟩ = some (.int .i64 r.r) := z2.at' 2
  have e3 : w8.cell? ⟨g, 3, none⟩ = some (.int .i64 r.b) := z2.at' 3
  clear z1 z2 hnF HP7 HPu
  go_wp2_with fail
  have hset : But (fun j => j = b1) w8 ((((w8.setCell ⟨b1, 0, none⟩ (.int .i64 r.l)).setCell ⟨b1, 1, none⟩ (.int .i64 r.t)).setCell ⟨b1, 2, none⟩ (.int .i64 r.r)).setCell ⟨b1, 3, none⟩ (.int .i64 r.b)) := but_onto (but_onto (but_onto (but_one w8 b1 0 _) _ _) _ _) _ _
  obtain ⟨⟨F8, hL8, hF8⟩, k8⟩ := S8.out
  refine bodyPost_ret (v := .tuple #[.agg #[.int .i64 r.l, .int .i64 r.t, .int .i64 r.r, .int .i64 r.b], .bool true]) (by simp [results, Tryz.results65, go_sem, r0, r1, r2, r3]) rfl ⟨rfl, ⟨F8, hO.keep _ _ _ _ _ _ hL8 hset (fun k hk e => ?_), fun k hk => (hF8 k hk).imp id fun q => Nat.le_trans S7.out.1.size q⟩, ((But.of_below S7.out.1).trans k8 (fun _ _ h => h)).trans hset (fun j hj e => by omega)⟩
  have h1 := hF8 k hk
  rcases h1 with h1 | h1
  · have := HF.out.1 k h1; omega
  · omega

end

end Go.Proofs.YtdibdfalahjmbaaGreat.Text
