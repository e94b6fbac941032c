/- The program's looks, all of them: by how many boxes are behind; Into and Past; AheadOk. -/
import Derived.Test.YtfomhdhiibcdfaaGreatPart35
namespace Go.Proofs.YtfomhdhiibcdfaaGreat.Ahead
open Go.RowKit Go.Sort Go.Proofs.YtfomhdhiibcdfaaGreat.More Go.Proofs.YtfomhdhiibcdfaaGreat.Record Go.Proofs.YtfomhdhiibcdfaaGreat.Script Go.Proofs.YtfomhdhiibcdfaaGreat.Tree Go.Proofs.YtfomhdhiibcdfaaGreat.Shelf Go.Proofs.YtfomhdhiibcdfaaGreat.Space Go.Proofs.YtfomhdhiibcdfaaGreat.Spot
set_option linter.unusedVariables false
set_option linter.unusedSimpArgs false

section
variable {T : World → Addr → List Bx → Prop} {S : World → (Nat → Prop) → Addr → List Fl → Prop}

def ProgPast (T : World → Addr → List Bx → Prop) (S : World → (Nat → Prop) → Addr → List Fl → Prop) (pt ps : Addr) (F : Nat → Prop) (bs : List Bx) (fs : List Fl) (f : Nat) : Prop :=
  ∀ (i : Nat) (k : Rl) (t : Nat) (w : World), i < bs.length → bs.length - i ≤ f → k.e = false → Slim t k → t + 2 * (bs.length - i) ≤ 900 → T w pt bs → S w F ps fs →
    Calls Tryz.prog 24 #[.agg #[.pointer (some pt), .pointer (some ps)], .int .i64 (i : Int), k.pv] w fun r w' => r = .returned (pastF bs fs f i k).pv ∧ Below w.heap.size w w'

theorem hinto_prog (hT : TreeOk T) (hS : SpaceOk S) (pt ps : Addr) (F : Nat → Prop) (bs : List Bx) (fs : List Fl) (f : Nat) (hW : Wood bs) (hP : ProgPast T S pt ps F bs fs f) (i : Nat) (k : Rl) (t : Nat) (w : World)
    (hi : i < bs.length) (hf : bs.length - i ≤ f + 1) (hke : k.e = false) (hs : Slim t k) (hb : t + 2 * (bs.length - i) ≤ 900) (ht : T w pt bs) (hsp : S w F ps fs) :
    Calls Tryz.prog 23 #[.agg #[.pointer (some pt), .pointer (some ps)], .int .i64 (i : Int), k.pv] w fun r w' => r = .returned (intoF bs fs f i k).pv ∧ Below w.heap.size w w' := by
  have hl := hW.len
  refine hinto_any hT hS pt ps bs (pastF bs fs f) i k t w hi hW hke ht hs fun k' w' j hs' => ?_
  refine hamong_any hT hS pt ps bs (pastF bs fs f) i k' (t + 1) w' hi (by omega) (hW.shape (by omega)) (hT.keep _ _ _ _ ht j) hs' (fun m k2 h1 h2 => step_less hW.marg m h2 (fun k3 => past_less hW.marg f m h2 (by omega) k3) k2) fun m k2 w2 j2 h1 h2 he2 hs2 => ?_
  have ht2 := hT.keep _ _ _ _ (hT.keep _ _ _ _ ht j) j2
  have hsp2 := keepSp hS (keepSp hS hsp j) j2
  exact hthrough_any hT hS pt ps bs (pastF bs fs f) m k2 w2 h2 hW he2 ht2 fun w3 j3 => hP m k2 _ w3 h2 (by omega) he2 hs2 (by omega) (hT.keep _ _ _ _ ht2 j3) (keepSp hS hsp2 j3)

theorem progPast_all (hT : TreeOk T) (hS : SpaceOk S) (pt ps : Addr) (F : Nat → Prop) (bs : List Bx) (fs : List Fl) (hW : Wood bs) (hn : fs.all nearF = true) : ∀ f, ProgPast T S pt ps F bs fs f
  | 0 => fun i k t w hi hf => absurd hf (by omega)
  | f + 1 => fun i k t w hi hf hke hs hb ht hsp => by
    have hl := hW.len
    have hls := hs.less (intoF_less (fs := fs) hW.marg f i hi hf k) (Nat.le_refl _)
    have hen := (en_spec (dOf bs) bs.length i hi).2.1
    exact hpast_any hT hS pt ps F bs fs (intoF bs fs f) i k w hi hW hke ht hsp hn (hls.fine (by omega)).sp fun w' j => hinto_prog hT hS pt ps F bs fs f hW (progPast_all hT hS pt ps F bs fs hW hn f) i k t w' hi hf hke hs hb (hT.keep _ _ _ _ ht j) (keepSp hS hsp j)

theorem asks_is (bs : List Bx) (i : Int) : asks bs i = ((boxT bs i).k == 1 || (boxT bs i).k == 4) := by
  unfold asks
  by_cases h : hasT bs i
  · simp [h]
  · have e : boxT bs i = noB := by unfold boxT; rw [if_neg h]
    rw [e, decide_eq_false h]
    rfl

theorem field_k (b : Bx) (w : World) : (Instr.field 64 b.v 1).run Tryz.prog w = .ok (.int .i64 b.k) w := by kernel_rfl

set_option maxRecDepth 100000 in
set_option maxHeartbeats 1000000 in
theorem alook_into (hT : TreeOk T) (pt ps : Addr) (bs : List Bx) (i : Int) (k R : Rl) (w : World) (ht : T w pt bs) (hN : (!k.e && asks bs i) = false → R = k)
    (hP : (!k.e && asks bs i) = true → ∀ w', Below w.heap.size w w' → Calls Tryz.prog 23 #[.agg #[.pointer (some pt), .pointer (some ps)], .int .i64 i, k.pv] w' fun r w'' => r = .returned R.pv ∧ Below w'.heap.size w' w'') :
    Calls Tryz.prog 22 #[.agg #[.pointer (some pt), .pointer (some ps)], .func (.func 23) #[] #[], .int .i64 i, k.pv] w fun r w' => r = .returned R.pv ∧ Below w.heap.size w w' := by
  rw [asks_is] at hN hP
  obtain ⟨⟨y, p, q, h, s⟩, hx⟩ : ∃ x, k.x.sp = x := ⟨_, rfl⟩
  obtain ⟨D, hD⟩ : ∃ D, sidesI k.l k.r = D := ⟨_, rfl⟩
  obtain ⟨E, hE⟩ : ∃ E, k.e = E := ⟨_, rfl⟩
  have hpv : k.pv = lpv ⟨y, p, q, h, s⟩ D E := by unfold Rl.pv; rw [hx, hD, hE]
  have hbox := fun w' (j : Below w.heap.size w w') => hT.box w' pt bs i (hT.keep _ _ _ _ ht j)
  obtain ⟨b, hb⟩ : ∃ b, boxT bs i = b := ⟨_, rfl⟩
  rw [hb] at hbox hN hP
  rw [hE] at hN hP
  have HBox := Lib.hid hbox
  have HN := Lib.hid (show (!E && (b.k == 1 || b.k == 4)) = false → R.pv = lpv ⟨y, p, q, h, s⟩ D E from fun h => by rw [hN h, hpv])
  rw [hpv] at hP ⊢
  obtain ⟨⟨y2, p2, q2, h2, s2⟩, hx2⟩ : ∃ x, R.x.sp = x := ⟨_, rfl⟩
  obtain ⟨d2, hd2⟩ : ∃ d, sidesI R.l R.r = d := ⟨_, rfl⟩
  obtain ⟨e2, he2⟩ : ∃ e, R.e = e := ⟨_, rfl⟩
  have hpv2 : R.pv = lpv ⟨y2, p2, q2, h2, s2⟩ d2 e2 := by unfold Rl.pv; rw [hx2, hd2, he2]
  have hP2 := hP
  rw [hpv2] at hP2
  have HPa := Lib.hid hP2
  have HR2 := Lib.hid hpv2
  have hf1 := field_k b
  clear hbox hN hP hP2 hpv hpv2 hx hD hE hx2 hd2 he2 ht hb
  go_enter Tryz.func22, Tryz.ntmps22
  go_upto_region 1 with fail
  generalize hW1 : World.alloc (World.alloc (World.alloc _ _) _) _ = W
  have L3 := three_news w 70 42 42 [.pointer (some pt), .pointer (some ps)] (lprow ⟨y, p, q, h, s⟩ D E) zeroLp (by simp) (by simp)
  obtain ⟨b0, hb0⟩ : ∃ b0, w.heap.size = b0 := ⟨_, rfl⟩
  replace L3 := (show PSt w W b0 pt ps ⟨y, p, q, h, s⟩ D E by rw [← hW1, ← hb0]; exact ⟨L3.2.2.2.1, L3.1, L3.2.1, L3.2.2.1⟩)
  have HB := Lib.hid (Nat.le_of_eq hb0)
  have K1 := Lib.hid L3
  rw [hb0]
  clear hW1 L3 hb0
  obtain ⟨m0, m1⟩ := (show _ ∧ _ from K1.out.cells.2.2.2.2)
  go_upto_region 2 with (first
    | (go_at_call 43; refine (HBox.out W K1.out.low).mono ?_; rintro r1 w1 ⟨rfl, k1⟩; have K2 := Lib.hid (K1.out.below k1); clear k1 m0 m1))
  obtain ⟨⟨c0, c1, c2, c3, c4, c5, c6⟩, ⟨f0, f1, f2, f3, f4, f5, f6⟩, ⟨o0, o1, o2, o3, o4, o5, o6⟩, ⟨g0, g1, g2, g3, g4, g5, g6⟩, m0, m1⟩ := K2.out.cells
  cases E with
  | true =>
    have HR := Lib.hid (HN.out rfl)
    go_wp2_with fail
    refine bodyPost_ret (v := lpv ⟨y, p, q, h, s⟩ D true) (by simp [results, Tryz.results22, go_sem, o0, o1, o2, o3, o4, o5, o6]) rfl ⟨by rw [HR.out], ?_⟩
    have hle := HB.out
    repeat refine Below.setCell ?_ (by simp <;> omega) _
    exact K2.out.low
  | false =>
    by_cases hk : b.k = 1 ∨ b.k = 4
    · have HQ := Lib.hid (HPa.out (by rcases hk with h | h <;> simp [h]))
      by_cases h1 : b.k = 1
      · have hb1 : (b.k != 1) = false := by simp [h1]
        have HR := Lib.hid HR2.out
        clear hk h1
        go_wp2_with (first
          | (go_at_call 23; refine (HQ.out w1 K2.out.low).mono ?_; rintro r3 w3 ⟨rfl, k3⟩; have K3 := Lib.hid (K2.out.below k3); clear c0 c1 c2 c3 c4 c5 c6 f0 f1 f2 f3 f4 f5 f6 o0 o1 o2 o3 o4 o5 o6 g0 g1 g2 g3 g4 g5 g6 m0 m1; obtain ⟨-, -, ⟨o0, o1, o2, o3, o4, o5, o6⟩, ⟨g0, g1, g2, g3, g4, g5, g6⟩, -, -⟩ := K3.out.cells))
        refine bodyPost_ret (v := lpv ⟨y2, p2, q2, h2, s2⟩ d2 e2) (by simp [results, Tryz.results22, go_sem, o0, o1, o2, o3, o4, o5, o6]) rfl ⟨by rw [HR.out], ?_⟩
        have hle := HB.out
        repeat refine Below.setCell ?_ (by simp <;> omega) _
        exact K3.out.low
      · have hb1 : (b.k != 1) = true := by simp [h1]
        have hb4 : (b.k != 4) = false := by simp; omega
        have HR := Lib.hid HR2.out
        clear hk h1
        go_wp2_with (first
          | (go_at_call 23; refine (HQ.out w1 K2.out.low).mono ?_; rintro r3 w3 ⟨rfl, k3⟩; have K3 := Lib.hid (K2.out.below k3); clear c0 c1 c2 c3 c4 c5 c6 f0 f1 f2 f3 f4 f5 f6 o0 o1 o2 o3 o4 o5 o6 g0 g1 g2 g3 g4 g5 g6 m0 m1; obtain ⟨-, -, ⟨o0, o1, o2, o3, o4, o5, o6⟩, ⟨g0, g1, g2, g3, g4, g5, g6⟩, -, -⟩ := K3.out.cells))
        refine bodyPost_ret (v := lpv ⟨y2, p2, q2, h2, s2⟩ d2 e2) (by simp [results, Tryz.results22, go_sem, o0, o1, o2, o3, o4, o5, o6]) rfl ⟨by rw [HR.out], ?_⟩
        have hle := HB.out
        repeat refine Below.setCell ?_ (by simp <;> omega) _
        exact K3.out.low
    · have HR := Lib.hid (HN.out (by simp; omega))
      have hb1 : (b.k != 1) = true := by simp; omega
      have hb4 : (b.k != 4) = true := by simp; omega
      clear hk
      go_wp2_with fail
      refine bodyPost_ret (v := lpv ⟨y, p, q, h, s⟩ D false) (by simp [results, Tryz.results22, go_sem, o0, o1, o2, o3, o4, o5, o6]) rfl ⟨by rw [HR.out], ?_⟩
      have hle := HB.out
      repeat refine Below.setCell ?_ (by simp <;> omega) _
      exact K2.out.low

set_option maxRecDepth 100000 in
set_option maxHeartbeats 1000000 in
theorem alook_past (hT : TreeOk T) (pt ps : Addr) (bs : List Bx) (i : Int) (k R : Rl) (w : World) (ht : T w pt bs) (hN : (!k.e && asks bs i) = false → R = k)
    (hP : (!k.e && asks bs i) = true → ∀ w', Below w.heap.size w w' → Calls Tryz.prog 24 #[.agg #[.pointer (some pt), .pointer (some ps)], .int .i64 i, k.pv] w' fun r w'' => r = .returned R.pv ∧ Below w'.heap.size w' w'') :
    Calls Tryz.prog 22 #[.agg #[.pointer (some pt), .pointer (some ps)], .func (.func 24) #[] #[], .int .i64 i, k.pv] w fun r w' => r = .returned R.pv ∧ Below w.heap.size w w' := by
  rw [asks_is] at hN hP
  obtain ⟨⟨y, p, q, h, s⟩, hx⟩ : ∃ x, k.x.sp = x := ⟨_, rfl⟩
  obtain ⟨D, hD⟩ : ∃ D, sidesI k.l k.r = D := ⟨_, rfl⟩
  obtain ⟨E, hE⟩ : ∃ E, k.e = E := ⟨_, rfl⟩
  have hpv : k.pv = lpv ⟨y, p, q, h, s⟩ D E := by unfold Rl.pv; rw [hx, hD, hE]
  have hbox := fun w' (j : Below w.heap.size w w') => hT.box w' pt bs i (hT.keep _ _ _ _ ht j)
  obtain ⟨b, hb⟩ : ∃ b, boxT bs i = b := ⟨_, rfl⟩
  rw [hb] at hbox hN hP
  rw [hE] at hN hP
  have HBox := Lib.hid hbox
  have HN := Lib.hid (show (!E && (b.k == 1 || b.k == 4)) = false → R.pv = lpv ⟨y, p, q, h, s⟩ D E from fun h => by rw [hN h, hpv])
  rw [hpv] at hP ⊢
  obtain ⟨⟨y2, p2, q2, h2, s2⟩, hx2⟩ : ∃ x, R.x.sp = x := ⟨_, rfl⟩
  obtain ⟨d2, hd2⟩ : ∃ d, sidesI R.l R.r = d := ⟨_, rfl⟩
  obtain ⟨e2, he2⟩ : ∃ e, R.e = e := ⟨_, rfl⟩
  have hpv2 : R.pv = lpv ⟨y2, p2, q2, h2, s2⟩ d2 e2 := by unfold Rl.pv; rw [hx2, hd2, he2]
  have hP2 := hP
  rw [hpv2] at hP2
  have HPa := Lib.hid hP2
  have HR2 := Lib.hid hpv2
  have hf1 := field_k b
  clear hbox hN hP hP2 hpv hpv2 hx hD hE hx2 hd2 he2 ht hb
  go_enter Tryz.func22, Tryz.ntmps22
  go_upto_region 1 with fail
  generalize hW1 : World.alloc (World.alloc (World.alloc _ _) _) _ = W
  have L3 := three_news w 70 42 42 [.pointer (some pt), .pointer (some ps)] (lprow ⟨y, p, q, h, s⟩ D E) zeroLp (by simp) (by simp)
  obtain ⟨b0, hb0⟩ : ∃ b0, w.heap.size = b0 := ⟨_, rfl⟩
  replace L3 := (show PSt w W b0 pt ps ⟨y, p, q, h, s⟩ D E by rw [← hW1, ← hb0]; exact ⟨L3.2.2.2.1, L3.1, L3.2.1, L3.2.2.1⟩)
  have HB := Lib.hid (Nat.le_of_eq hb0)
  have K1 := Lib.hid L3
  rw [hb0]
  clear hW1 L3 hb0
  obtain ⟨m0, m1⟩ := (show _ ∧ _ from K1.out.cells.2.2.2.2)
  go_upto_region 2 with (first
    | (go_at_call 43; refine (HBox.out W K1.out.low).mono ?_; rintro r1 w1 ⟨rfl, k1⟩; have K2 := Lib.hid (K1.out.below k1); clear k1 m0 m1))
  obtain ⟨⟨c0, c1, c2, c3, c4, c5, c6⟩, ⟨f0, f1, f2, f3, f4, f5, f6⟩, ⟨o0, o1, o2, o3, o4, o5, o6⟩, ⟨g0, g1, g2, g3, g4, g5, g6⟩, m0, m1⟩ := K2.out.cells
  cases E with
  | true =>
    have HR := Lib.hid (HN.out rfl)
    go_wp2_with fail
    refine bodyPost_ret (v := lpv ⟨y, p, q, h, s⟩ D true) (by simp [results, Tryz.results22, go_sem, o0, o1, o2, o3, o4, o5, o6]) rfl ⟨by rw [HR.out], ?_⟩
    have hle := HB.out
    repeat refine Below.setCell ?_ (by simp <;> omega) _
    exact K2.out.low
  | false =>
    by_cases hk : b.k = 1 ∨ b.k = 4
    · have HQ := Lib.hid (HPa.out (by rcases hk with h | h <;> simp [h]))
      by_cases h1 : b.k = 1
      · have hb1 : (b.k != 1) = false := by simp [h1]
        have HR := Lib.hid HR2.out
        clear hk h1
        go_wp2_with (first
          | (go_at_call 24; refine (HQ.out w1 K2.out.low).mono ?_; rintro r3 w3 ⟨rfl, k3⟩; have K3 := Lib.hid (K2.out.below k3); clear c0 c1 c2 c3 c4 c5 c6 f0 f1 f2 f3 f4 f5 f6 o0 o1 o2 o3 o4 o5 o6 g0 g1 g2 g3 g4 g5 g6 m0 m1; obtain ⟨-, -, ⟨o0, o1, o2, o3, o4, o5, o6⟩, ⟨g0, g1, g2, g3, g4, g5, g6⟩, -, -⟩ := K3.out.cells))
        refine bodyPost_ret (v := lpv ⟨y2, p2, q2, h2, s2⟩ d2 e2) (by simp [results, Tryz.results22, go_sem, o0, o1, o2, o3, o4, o5, o6]) rfl ⟨by rw [HR.out], ?_⟩
        have hle := HB.out
        repeat refine Below.setCell ?_ (by simp <;> omega) _
        exact K3.out.low
      · have hb1 : (b.k != 1) = true := by simp [h1]
        have hb4 : (b.k != 4) = false := by simp; omega
        have HR := Lib.hid HR2.out
        clear hk h1
        go_wp2_with (first
          | (go_at_call 24; refine (HQ.out w1 K2.out.low).mono ?_; rintro r3 w3 ⟨rfl, k3⟩; have K3 := Lib.hid (K2.out.below k3); clear c0 c1 c2 c3 c4 c5 c6 f0 f1 f2 f3 f4 f5 f6 o0 o1 o2 o3 o4 o5 o6 g0 g1 g2 g3 g4 g5 g6 m0 m1; obtain ⟨-, -, ⟨o0, o1, o2, o3, o4, o5, o6⟩, ⟨g0, g1, g2, g3, g4, g5, g6⟩, -, -⟩ := K3.out.cells))
        refine bodyPost_ret (v := lpv ⟨y2, p2, q2, h2, s2⟩ d2 e2) (by simp [results, Tryz.results22, go_sem, o0, o1, o2, o3, o4, o5, o6]) rfl ⟨by rw [HR.out], ?_⟩
        have hle := HB.out
        repeat refine Below.setCell ?_ (by simp <;> omega) _
        exact K3.out.low
    · have HR := Lib.hid (HN.out (by simp; omega))
      have hb1 : (b.k != 1) = true := by simp; omega
      have hb4 : (b.k != 4) = true := by simp; omega
      clear hk
      go_wp2_with fail
      refine bodyPost_ret (v := lpv ⟨y, p, q, h, s⟩ D false) (by simp [results, Tryz.results22, go_sem, o0, o1, o2, o3, o4, o5, o6]) rfl ⟨by rw [HR.out], ?_⟩
      have hle := HB.out
      repeat refine Below.setCell ?_ (by simp <;> omega) _
      exact K2.out.low

set_option maxRecDepth 100000 in
set_option maxHeartbeats 1000000 in
theorem ainto_any (hT : TreeOk T) (pt ps : Addr) (bs : List Bx) (i : Int) (k R : Rl) (w : World) (ht : T w pt bs) (hN : (!k.e && asks bs i) = false → R = k)
    (hP : (!k.e && asks bs i) = true → ∀ w', Below w.heap.size w w' → Calls Tryz.prog 23 #[.agg #[.pointer (some pt), .pointer (some ps)], .int .i64 i, k.pv] w' fun r w'' => r = .returned R.pv ∧ Below w'.heap.size w' w'') :
    Calls Tryz.prog 8 #[.pointer (some pt), .pointer (some ps), .int .i64 i, k.pv] w fun r w' => r = .returned R.pv ∧ Below w.heap.size w w' := by
  have HL := Lib.hid (fun w' (j : Below w.heap.size w w') => alook_into hT pt ps bs i k R w' (hT.keep _ _ _ _ ht j) hN fun h w2 j2 => hP h w2 (thru j j2))
  obtain ⟨⟨y, p, q, h, s⟩, hx⟩ : ∃ x, k.x.sp = x := ⟨_, rfl⟩
  obtain ⟨D, hD⟩ : ∃ D, sidesI k.l k.r = D := ⟨_, rfl⟩
  obtain ⟨E, hE⟩ : ∃ E, k.e = E := ⟨_, rfl⟩
  have hpv : k.pv = lpv ⟨y, p, q, h, s⟩ D E := by unfold Rl.pv; rw [hx, hD, hE]
  rw [hpv] at HL ⊢
  obtain ⟨⟨y2, p2, q2, h2, s2⟩, hx2⟩ : ∃ x, R.x.sp = x := ⟨_, rfl⟩
  obtain ⟨d2, hd2⟩ : ∃ d, sidesI R.l R.r = d := ⟨_, rfl⟩
  obtain ⟨e2, he2⟩ : ∃ e, R.e = e := ⟨_, rfl⟩
  have hpv2 : R.pv = lpv ⟨y2, p2, q2, h2, s2⟩ d2 e2 := by unfold Rl.pv; rw [hx2, hd2, he2]
  rw [hpv2] at HL
  have HR := Lib.hid hpv2
  clear hN hP hpv hpv2 hx hD hE hx2 hd2 he2 ht
  go_enter Tryz.func8, Tryz.ntmps8
  go_upto_region 1 with fail
  generalize hW : World.alloc (World.alloc _ _) _ = W
  have L3 := two_news w 42 42 (lprow ⟨y, p, q, h, s⟩ D E) zeroLp (by simp)
  obtain ⟨b0, hb0⟩ : ∃ b0, w.heap.size = b0 := ⟨_, rfl⟩
  replace L3 := (show Lies W b0 (lprow ⟨y, p, q, h, s⟩ D E) ∧ Lies W (b0 + 1) zeroLp ∧ Below w.heap.size w W by rw [← hW, ← hb0]; exact L3)
  have HB := Lib.hid (Nat.le_of_eq hb0)
  rw [hb0]
  clear hW hb0
  obtain ⟨c0, c1, c2, c3, c4, c5, c6⟩ := lpat_of L3.1
  have K1 := Lib.hid L3.2
  clear L3
  go_wp2_with (first
    | (go_at_call 22; refine (HL.out W K1.out.2).mono ?_; rintro r3 w3 ⟨rfl, k3⟩; have K3 := Lib.hid (⟨K1.out.1.below (by simp) k3, thru K1.out.2 k3⟩ : Lies w3 (b0 + 1) zeroLp ∧ Below w.heap.size w w3); clear c0 c1 c2 c3 c4 c5 c6; obtain ⟨o0, o1, o2, o3, o4, o5, o6⟩ := lpat_of (x := zeroSp) (d := 0) (e := false) K3.out.1; obtain ⟨g0, g1, g2, g3, g4, g5, g6⟩ := lkfr_of K3.out.1))
  refine bodyPost_ret (v := lpv ⟨y2, p2, q2, h2, s2⟩ d2 e2) (by simp [results, Tryz.results8, go_sem, o0, o1, o2, o3, o4, o5, o6]) rfl ⟨by rw [HR.out], ?_⟩
  have hle := HB.out
  repeat refine Below.setCell ?_ (by simp <;> omega) _
  exact K3.out.2

set_option maxRecDepth 100000 in
set_option maxHeartbeats 1000000 in
theorem apast_any (hT : TreeOk T) (pt ps : Addr) (bs : List Bx) (i : Int) (k R : Rl) (w : World) (ht : T w pt bs) (hN : (!k.e && asks bs i) = false → R = k)
    (hP : (!k.e && asks bs i) = true → ∀ w', Below w.heap.size w w' → Calls Tryz.prog 24 #[.agg #[.pointer (some pt), .pointer (some ps)], .int .i64 i, k.pv] w' fun r w'' => r = .returned R.pv ∧ Below w'.heap.size w' w'') :
    Calls Tryz.prog 9 #[.pointer (some pt), .pointer (some ps), .int .i64 i, k.pv] w fun r w' => r = .returned R.pv ∧ Below w.heap.size w w' := by
  have HL := Lib.hid (fun w' (j : Below w.heap.size w w') => alook_past hT pt ps bs i k R w' (hT.keep _ _ _ _ ht j) hN fun h w2 j2 => hP h w2 (thru j j2))
  obtain ⟨⟨y, p, q, h, s⟩, hx⟩ : ∃ x, k.x.sp = x := ⟨_, rfl⟩
  obtain ⟨D, hD⟩ : ∃ D, sidesI k.l k.r = D := ⟨_, rfl⟩
  obtain ⟨E, hE⟩ : ∃ E, k.e = E := ⟨_, rfl⟩
  have hpv : k.pv = lpv ⟨y, p, q, h, s⟩ D E := by unfold Rl.pv; rw [hx, hD, hE]
  rw [hpv] at HL ⊢
  obtain ⟨⟨y2, p2, q2, h2, s2⟩, hx2⟩ : ∃ x, R.x.sp = x := ⟨_, rfl⟩
  obtain ⟨d2, hd2⟩ : ∃ d, sidesI R.l R.r = d := ⟨_, rfl⟩
  obtain ⟨e2, he2⟩ : ∃ e, R.e = e := ⟨_, rfl⟩
  have hpv2 : R.pv = lpv ⟨y2, p2, q2, h2, s2⟩ d2 e2 := by unfold Rl.pv; rw [hx2, hd2, he2]
  rw [hpv2] at HL
  have HR := Lib.hid hpv2
  clear hN hP hpv hpv2 hx hD hE hx2 hd2 he2 ht
  go_enter Tryz.func9, Tryz.ntmps9
  go_upto_region 1 with fail
  generalize hW : World.alloc (World.alloc _ _) _ = W
  have L3 := two_news w 42 42 (lprow ⟨y, p, q, h, s⟩ D E) zeroLp (by simp)
  obtain ⟨b0, hb0⟩ : ∃ b0, w.heap.size = b0 := ⟨_, rfl⟩
  replace L3 := (show Lies W b0 (lprow ⟨y, p, q, h, s⟩ D E) ∧ Lies W (b0 + 1) zeroLp ∧ Below w.heap.size w W by rw [← hW, ← hb0]; exact L3)
  have HB := Lib.hid (Nat.le_of_eq hb0)
  rw [hb0]
  clear hW hb0
  obtain ⟨c0, c1, c2, c3, c4, c5, c6⟩ := lpat_of L3.1
  have K1 := Lib.hid L3.2
  clear L3
  go_wp2_with (first
    | (go_at_call 22; refine (HL.out W K1.out.2).mono ?_; rintro r3 w3 ⟨rfl, k3⟩; have K3 := Lib.hid (⟨K1.out.1.below (by simp) k3, thru K1.out.2 k3⟩ : Lies w3 (b0 + 1) zeroLp ∧ Below w.heap.size w w3); clear c0 c1 c2 c3 c4 c5 c6; obtain ⟨o0, o1, o2, o3, o4, o5, o6⟩ := lpat_of (x := zeroSp) (d := 0) (e := false) K3.out.1; obtain ⟨g0, g1, g2, g3, g4, g5, g6⟩ := lkfr_of K3.out.1))
  refine bodyPost_ret (v := lpv ⟨y2, p2, q2, h2, s2⟩ d2 e2) (by simp [results, Tryz.results9, go_sem, o0, o1, o2, o3, o4, o5, o6]) rfl ⟨by rw [HR.out], ?_⟩
  have hle := HB.out
  repeat refine Below.setCell ?_ (by simp <;> omega) _
  exact K3.out.2

theorem asks_has {bs : List Bx} {i : Int} (h : asks bs i = true) : ∃ j : Nat, i = j ∧ j < bs.length := by
  unfold asks at h
  have := (Bool.and_eq_true_iff.1 h).1
  have h2 : hasT bs i := of_decide_eq_true this
  exact ⟨i.toNat, by have := h2.1; omega, by have := h2.1; have := h2.2; omega⟩

theorem into_ok (hT : TreeOk T) (hS : SpaceOk S) (w : World) (pt : Addr) (F : Nat → Prop) (ps : Addr) (bs : List Bx) (fs : List Fl) (i : Int) (k : Rl) (t : Nat) (ht : T w pt bs) (hs : S w F ps fs) (hW : Wood bs) (hn : fs.all nearF = true) (hsl : Slim t k) (hb : t + 2 * bs.length ≤ 900) :
    Calls Tryz.prog 8 #[.pointer (some pt), .pointer (some ps), .int .i64 i, k.pv] w fun r w' => r = .returned (intoT bs fs i k).pv ∧ Below w.heap.size w w' := by
  refine ainto_any hT pt ps bs i k _ w ht (fun h => by unfold intoT; rw [if_neg (by rw [h]; simp)]) fun h w' j => ?_
  obtain ⟨he, ha⟩ := Bool.and_eq_true_iff.1 h
  obtain ⟨n, rfl, hn'⟩ := asks_has ha
  have e : intoT bs fs (n : Int) k = intoF bs fs bs.length n k := by unfold intoT; rw [if_pos h]; rfl
  rw [e]
  exact hinto_prog hT hS pt ps F bs fs bs.length hW (progPast_all hT hS pt ps F bs fs hW hn _) n k t w' hn' (by omega) (by simpa using he) hsl (by omega) (hT.keep _ _ _ _ ht j) (keepSp hS hs j)

theorem past_ok (hT : TreeOk T) (hS : SpaceOk S) (w : World) (pt : Addr) (F : Nat → Prop) (ps : Addr) (bs : List Bx) (fs : List Fl) (i : Int) (k : Rl) (t : Nat) (ht : T w pt bs) (hs : S w F ps fs) (hW : Wood bs) (hn : fs.all nearF = true) (hsl : Slim t k) (hb : t + 2 * bs.length ≤ 900) :
    Calls Tryz.prog 9 #[.pointer (some pt), .pointer (some ps), .int .i64 i, k.pv] w fun r w' => r = .returned (pastT bs fs i k).pv ∧ Below w.heap.size w w' := by
  refine apast_any hT pt ps bs i k _ w ht (fun h => by unfold pastT; rw [if_neg (by rw [h]; simp)]) fun h w' j => ?_
  obtain ⟨he, ha⟩ := Bool.and_eq_true_iff.1 h
  obtain ⟨n, rfl, hn'⟩ := asks_has ha
  have e : pastT bs fs (n : Int) k = pastF bs fs bs.length n k := by unfold pastT; rw [if_pos h]; rfl
  rw [e]
  exact progPast_all hT hS pt ps F bs fs hW hn bs.length n k t w' hn' (by omega) (by simpa using he) hsl (by omega) (hT.keep _ _ _ _ ht j) (keepSp hS hs j)

/-- The contracts of the program's looks, over those of its trees and spaces. -/
theorem aheadOk (hT : TreeOk T) (hS : SpaceOk S) : AheadOk T S where
  clears := fun c d w hc hd => aclears_any c d w hc hd
  into := fun w pt F ps bs fs i k t ht hs hW hn hsl hb => into_ok hT hS w pt F ps bs fs i k t ht hs hW hn hsl hb
  past := fun w pt F ps bs fs i k t ht hs hW hn hsl hb => past_ok hT hS w pt F ps bs fs i k t ht hs hW hn hsl hb

end

end Go.Proofs.YtfomhdhiibcdfaaGreat.Ahead
