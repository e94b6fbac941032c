/- The contract of the document's Check of a list: which is the first box of which something is wrong. -/
import Derived.Test.YtfomhdhiibcdfaaGreatPart5
import Derived.Test.YtfomhdhiibcdfaaGreatPart8
import Derived.Test.YtfomhdhiibcdfaaGreatPart10
namespace Go.Proofs.YtfomhdhiibcdfaaGreat.Tree
open Go.RowKit Go.Sort Go.Proofs.YtfomhdhiibcdfaaGreat.Record Go.Proofs.YtfomhdhiibcdfaaGreat.Script

def kOf (bs : List Bx) (k : Nat) : Int := (bs.getD k noB).k

/-- May a box be the first one? -/
def rootB (b : Bx) : Bool := (b.d == 0) && (b.k == 3) && !decide (b.w < 0) && (b.c == 0) && (b.m0 == 0 && b.m1 == 0 && b.m2 == 0 && b.m3 == 0)

/-- What is wrong with the i-th box, where it stands. -/
def badAt (bs : List Bx) (i : Nat) : Int :=
  if pickN (brokenOf (bs.getD i noB)) ≠ 0 then pickN (brokenOf (bs.getD i noB))
  else if i = 0 then (if rootB (bs.getD i noB) then 0 else 12)
  else if dOf bs i = 0 ∨ dOf bs (i - 1) + 1 < dOf bs i then 12
  else if fitsB (kOf bs (par (dOf bs) i).toNat) (kOf bs i) then 0 else 12

def chkF (bs : List Bx) : Nat → Nat → Int × Int
  | 0, _ => (-1, 0)
  | f + 1, i => if badAt bs i = 0 then chkF bs f (i + 1) else ((i : Int), badAt bs i)

/-- The first box of which something is wrong, and what. -/
def chk (bs : List Bx) : Int × Int := if bs.length = 0 then (-1, 15) else chkF bs bs.length 0

/-- Of the first m boxes nothing is wrong. -/
def Fine (bs : List Bx) (m : Nat) : Prop := ∀ j, j < m → badAt bs j = 0

theorem badAt_check {bs : List Bx} {k : Nat} {y : Bx} {v : Int} (hy : bs.getD k noB = y) (h : pickN (brokenOf y) = v) (hv : v ≠ 0) : badAt bs k = v := by
  unfold badAt
  rw [hy, h, if_pos hv]

theorem badAt_root {bs : List Bx} {y : Bx} {v : Bool} (hy : bs.getD 0 noB = y) (h : pickN (brokenOf y) = 0) (hv : rootB y = v) : badAt bs 0 = if v then 0 else 12 := by
  unfold badAt
  rw [hy, h, hv]
  simp

theorem badAt_deep {bs : List Bx} {k : Nat} {y : Bx} (hy : bs.getD k noB = y) (h : pickN (brokenOf y) = 0) (hk : 0 < k) (hd : y.d = 0 ∨ dOf bs (k - 1) + 1 < y.d) : badAt bs k = 12 := by
  unfold badAt
  have e : dOf bs k = y.d := by unfold dOf; rw [hy]
  rw [hy, h, if_neg (by simp), if_neg (by omega), e, if_pos hd]

theorem badAt_fits {bs : List Bx} {k : Nat} {y : Bx} {v : Bool} (hy : bs.getD k noB = y) (h : pickN (brokenOf y) = 0) (hk : 0 < k) (hd : ¬ (y.d = 0 ∨ dOf bs (k - 1) + 1 < y.d)) (hv : fitsB (kOf bs (par (dOf bs) k).toNat) y.k = v) : badAt bs k = if v then 0 else 12 := by
  have e : dOf bs k = y.d := by unfold dOf; rw [hy]
  have e2 : kOf bs k = y.k := by unfold kOf; rw [hy]
  unfold badAt
  rw [hy, h, if_neg (by simp), if_neg (by omega), e, if_neg hd, e2, hv]

theorem Fine.check {bs : List Bx} {m j : Nat} (h : Fine bs m) (hj : j < m) : pickN (brokenOf (bs.getD j noB)) = 0 := by
  have := h j hj
  unfold badAt at this
  split at this
  · rename_i h1; exact absurd this h1
  · rename_i h1; simpa using h1

theorem Fine.depth {bs : List Bx} {m j : Nat} (h : Fine bs m) (hj : j < m) : 0 ≤ dOf bs j ∧ dOf bs j ≤ 256 := by
  have h1 := (good_iff _).1 (h.check hj)
  have := h1.d
  exact this

theorem Fine.root {bs : List Bx} {m : Nat} (h : Fine bs m) (hm : 0 < m) : rootB (bs.getD 0 noB) = true := by
  have h0 := h 0 hm
  cases hv : rootB (bs.getD 0 noB)
  · rw [badAt_root rfl (h.check hm) hv] at h0
    simp at h0
  · rfl

theorem Fine.shape {bs : List Bx} {m : Nat} (h : Fine bs m) (hm : 0 < m) : Shape (dOf bs) m := by
  refine ⟨hm, ?_, fun k h0 hk => ?_⟩
  · have := h.root hm
    unfold rootB at this
    simp only [Bool.and_eq_true, beq_iff_eq] at this
    exact this.1.1.1.1
  · have h1 := h k hk
    have hd := h.depth hk
    by_cases hb : (bs.getD k noB).d = 0 ∨ dOf bs (k - 1) + 1 < (bs.getD k noB).d
    · rw [badAt_deep rfl (h.check hk) h0 hb] at h1
      omega
    · unfold dOf at hb hd ⊢
      omega

theorem Fine.front {bs : List Bx} {m k : Nat} (h : Fine bs m) (hk : k ≤ m) : Fine bs k := fun j hj => h j (by omega)

theorem Fine.next {bs : List Bx} {m : Nat} (h : Fine bs m) (hb : badAt bs m = 0) : Fine bs (m + 1) := fun j hj => by
  by_cases e : j = m
  · subst e; exact hb
  · exact h j (by omega)

theorem leaf {bs : List Bx} {f k : Nat} {a e v : Int} (hw : chkF bs (f + 1) k = (a, e)) (hb : badAt bs k = v) (hv : v ≠ 0) : a = k ∧ e = v := by
  rw [chkF, hb, if_neg hv] at hw
  injection hw with h1 h2
  exact ⟨h1.symm, h2.symm⟩

theorem nextF {bs : List Bx} {f k : Nat} {r : Int × Int} (hw : chkF bs (f + 1) k = r) (hb : badAt bs k = 0) : chkF bs f (k + 1) = r := by
  rw [chkF, if_pos hb] at hw
  exact hw

theorem refpar_r {A : Option Addr} {n c : Nat} {bs : List Bx} {i : Nat} {w W : World} {p : Nat} (hn : n = bs.length) (hlen : n ≤ 9223372036854775807) (hi : i < n) (hx : Boxes w w.heap.size A bs) (hd : ∀ k, k ≤ i → 0 ≤ dOf bs k ∧ dOf bs k ≤ 256) (hb : Below w.heap.size w W) (hp : par (dOf bs) i = p) {d : Nat} {os : Array Obj} :
    Calls Tryz.prog 33 #[.slice A n c, .int .i64 i] (grow (redrawn W d) os) fun e w' => e = .returned (.int .i64 p) ∧ Below (grow (redrawn W d) os).heap.size (grow (redrawn W d) os) w' := by
  have k := thru hb (below_regrown W d os)
  have h := refpar_any A n c bs i (grow (redrawn W d) os) hn (by omega) hi ((hx.below k).more k.size) hd
  rw [hp] at h
  exact h

theorem Fine.shape_next {bs : List Bx} {k : Nat} (h : Fine bs k) (hk : 0 < k) (h1 : 1 ≤ dOf bs k) (h2 : dOf bs k ≤ dOf bs (k - 1) + 1) : Shape (dOf bs) (k + 1) := by
  have g := h.shape hk
  refine ⟨by omega, g.zero, fun j a b => ?_⟩
  by_cases e : j = k
  · subst e; exact ⟨h1, h2⟩
  · exact g.step j a (by omega)

theorem reffits_r {p c : Int} {v : Bool} {W : World} (hv : fitsB p c = v) {d : Nat} {os : Array Obj} :
    Calls Tryz.prog 32 #[.int .i64 p, .int .i64 c] (grow (redrawn W d) os) fun e w' => e = .returned (.bool v) ∧ Below (grow (redrawn W d) os).heap.size (grow (redrawn W d) os) w' := reffits_is p c v hv _

set_option maxHeartbeats 1000000 in
theorem refchk_zero (A : Option Addr) (c : Nat) (w : World) :
    Calls Tryz.prog 13 #[.slice A 0 c] w fun r w' => r = .returned (.tuple #[.int .i64 (-1), .int .i64 15]) ∧ Below w.heap.size w w' := by
  go_enter Tryz.func13, Tryz.ntmps13
  go_wp2_with fail
  go_ret2
  exact ⟨rfl, Below.refl _ _⟩

set_option maxRecDepth 100000 in
set_option maxHeartbeats 2000000 in
theorem refchk_cap (A : Option Addr) (n mm c : Nat) (bs : List Bx) (a e : Int) (w : World) (hn : n = bs.length) (hlen : n ≤ 9223372036854775807) (h0 : 0 < n) (hm1 : mm ≤ n) (hm2 : mm ≤ 65536) (hm3 : mm < n → mm = 65536) (hx : Boxes w w.heap.size A bs) (hc : chkF bs mm 0 = (a, e)) :
    Calls Tryz.prog 13 #[.slice A n c] w fun r w' => (r = .returned (.tuple #[.int .i64 a, .int .i64 e]) ∨ (mm < n ∧ r = .returned (.tuple #[.int .i64 65536, .int .i64 3]))) ∧ Below w.heap.size w w' := by
  have HX := Lib.hid hx
  have HN := Lib.hid hn
  have HC := Lib.hid hc
  clear hx hn hc
  have HC1 := HC
  clear HC
  have hn0 : ((n : Int) == 0) = false := by simp; omega
  go_enter Tryz.func13, Tryz.ntmps13
  go_wp2_with fail
  go_loopw [4] (fun s wr => ∃ k : Nat, k ≤ mm ∧ s = .int .i64 (k : Int) ∧ Hid (Fine bs k ∧ chkF bs (mm - k) k = (a, e) ∧ Below w.heap.size w wr)) (fun s _ => n - (intOf s).toNat)
  case atStart => exact ⟨0, Nat.zero_le _, rfl, Lib.hid ⟨fun j hj => by omega, HC1.out, Below.refl _ _⟩⟩
  case round =>
    clear HC1
    obtain ⟨k, hk, rfl, H⟩ := hrel
    by_cases hlt2 : k < mm
    · have hlt : k < n := by omega
      have hk6 : ((k : Int) == 65536) = false := by rw [beq_eq_false_iff_ne]; omega
      obtain ⟨ad, hA, hab, hcx⟩ := (HX.out.below H.out.2.2) k (by rw [← HN.out]; exact hlt)
      subst hA
      obtain ⟨y, hy⟩ : ∃ y, bs.getD k noB = y := ⟨_, rfl⟩
      rw [hy] at hcx
      have HY := Lib.hid hy
      have HW : Hid (chkF bs (mm - (k + 1) + 1) k = (a, e)) := Lib.hid (by rw [show mm - (k + 1) + 1 = mm - k by omega]; exact H.out.2.1)
      have HAB := Lib.hid hab
      clear hy hab
      obtain ⟨c0, c1, c2, c3, c4, c5, c6, c7, c8, c9, c10, c11, c12, c13⟩ := hcx
      go_upto_region 7 with fail
      clear c0 c1 c2 c3 c4 c5 c6 c7 c8 c9 c10 c11 c12 c13
      generalize hW : World.alloc wr _ = W
      obtain ⟨at1, k1⟩ := box_in y hW
      have AT := Lib.hid at1
      have K1 := Lib.hid (thru H.out.2.2 k1)
      have HS := Lib.hid (show wr.heap.size < W.heap.size from at1.lt)
      clear hW k1
      obtain ⟨c0, c1, c2, c3, c4, c5, c6, c7, c8, c9, c10, c11, c12, c13⟩ := at1
      obtain ⟨v, hv⟩ : ∃ v, pickN (brokenOf y) = v := ⟨_, rfl⟩
      have HV := Lib.hid hv
      clear hv
      by_cases hv0 : v = 0
      · subst hv0
        go_upto_region 12 with (first | (go_at_call 31; refine (ref_is y 0 HV.out _).mono ?_; rintro e w2 ⟨rfl, k2⟩))
        have K2 := Lib.hid (thru K1.out k2)
        have at2 := AT.out.below AT.out.lt k2
        have AT2 := Lib.hid at2
        clear k2 AT K1 c0 c1 c2 c3 c4 c5 c6 c7 c8 c9 c10 c11 c12 c13
        obtain ⟨c0, c1, c2, c3, c4, c5, c6, c7, c8, c9, c10, c11, c12, c13⟩ := at2
        rcases Nat.eq_zero_or_pos k with hk0 | hk0
        · subst hk0
          have E := eq22
          obtain ⟨mv, hmv⟩ : ∃ mv, (y.m0 == 0 && y.m1 == 0 && y.m2 == 0 && y.m3 == 0) = mv := ⟨_, rfl⟩
          by_cases b0 : y.d = 0
          · by_cases b1 : y.k = 3
            · by_cases b2 : y.w < 0
              · have hr : rootB y = false := by unfold rootB; simp [b2]
                have b0' : (y.d == 0) = true := by simp [b0]
                have b1' : (y.k == 3) = true := by simp [b1]
                go_wp2_with fail
                obtain ⟨h1, h2⟩ := leaf (v := 12) HW.out (by rw [badAt_root HY.out HV.out hr]; rfl) (by decide)
                subst h1 h2
                go_ret2
                exact ⟨.inl rfl, K2.out⟩
              · by_cases b3 : y.c = 0
                · have b0' : (y.d == 0) = true := by simp [b0]
                  have b1' : (y.k == 3) = true := by simp [b1]
                  have b3' : (y.c == 0) = true := by simp [b3]
                  cases mv
                  · have hr : rootB y = false := by unfold rootB; rw [hmv]; simp
                    go_wp2_with fail
                    obtain ⟨h1, h2⟩ := leaf (v := 12) HW.out (by rw [badAt_root HY.out HV.out hr]; rfl) (by decide)
                    subst h1 h2
                    go_ret2
                    exact ⟨.inl rfl, K2.out⟩
                  · have hr : rootB y = true := by unfold rootB; rw [hmv]; simp [b0, b1, b2, b3]
                    have hb : badAt bs 0 = 0 := by rw [badAt_root HY.out HV.out hr]; rfl
                    have HN2 := Lib.hid (⟨H.out.1.next hb, nextF HW.out hb, K2.out⟩ : Fine bs 1 ∧ chkF bs (mm - 1) 1 = (a, e) ∧ Below w.heap.size w w2)
                    clear hb hr
                    go_wp2_with fail
                    go_roundw
                    case rel => exact ⟨1, by omega, by go_num, HN2⟩
                    case measure => simp [intOf]; omega
                · have hr : rootB y = false := by unfold rootB; simp [b3]
                  have b0' : (y.d == 0) = true := by simp [b0]
                  have b1' : (y.k == 3) = true := by simp [b1]
                  have b3' : (y.c == 0) = false := by simp [b3]
                  go_wp2_with fail
                  obtain ⟨h1, h2⟩ := leaf (v := 12) HW.out (by rw [badAt_root HY.out HV.out hr]; rfl) (by decide)
                  subst h1 h2
                  go_ret2
                  exact ⟨.inl rfl, K2.out⟩
            · have hr : rootB y = false := by unfold rootB; simp [b1]
              have b0' : (y.d == 0) = true := by simp [b0]
              have b1' : (y.k == 3) = false := by simp [b1]
              go_wp2_with fail
              obtain ⟨h1, h2⟩ := leaf (v := 12) HW.out (by rw [badAt_root HY.out HV.out hr]; rfl) (by decide)
              subst h1 h2
              go_ret2
              exact ⟨.inl rfl, K2.out⟩
          · have hr : rootB y = false := by unfold rootB; simp [b0]
            have b0' : (y.d == 0) = false := by simp [b0]
            go_wp2_with fail
            obtain ⟨h1, h2⟩ := leaf (v := 12) HW.out (by rw [badAt_root HY.out HV.out hr]; rfl) (by decide)
            subst h1 h2
            go_ret2
            exact ⟨.inl rfl, K2.out⟩
        · obtain ⟨j, hj⟩ : ∃ j, j + 1 = k := ⟨k - 1, by omega⟩
          have hjk : j < k := by omega
          have hjn : j < n := by omega
          have HZB := Lib.hid (H.out.1.depth hjk)
          have HYB := Lib.hid ((good_iff _).1 HV.out).d
          obtain ⟨_, h1, _, cj⟩ := Boxes.depth (HX.out.below K2.out) j (by rw [← HN.out]; exact hjn)
          injection h1 with h1
          subst h1
          have HJ : Hid (k - 1 = j) := Lib.hid (by omega)
          obtain ⟨z, hz⟩ : ∃ z, dOf bs j = z := ⟨_, rfl⟩
          rw [hz] at cj HZB
          have HZ : Hid (dOf bs (k - 1) = z) := Lib.hid (by rw [HJ.out]; exact hz)
          have HYD : Hid (dOf bs k = y.d) := Lib.hid (by unfold dOf; rw [HY.out])
          clear hz
          have hzb := HZB.out
          have hyb := HYB.out
          have hwj : IntKind.i64.wrap ((k : Int) - 1) = (j : Int) := by rw [IntWalk.i64_in _ (by omega)]; omega
          have hwz : IntKind.i64.wrap (z + 1) = z + 1 := IntWalk.i64_in _ (by omega)
          have hk00 : ¬ (k : Int) = 0 := by omega
          have hk0' : ((k : Int) == 0) = false := by simp; omega
          clear hj
          go_upto_region 15 with fail
          by_cases b0 : y.d = 0
          · have b0' : (y.d == 0) = true := by simp [b0]
            go_quiet (fail)
            have q : Below w2.heap.size w2 (w2.drewN nq) := ⟨rfl, rfl, rfl, Nat.le_refl _, fun _ _ => rfl⟩
            clear cj c0 c1 c2 c3 c4 c5 c6 c7 c8 c9 c10 c11 c12 c13
            generalize w2.drewN nq = w4 at q ⊢
            have K4 := Lib.hid (thru K2.out q)
            clear q
            go_wp2_with fail
            obtain ⟨h1, h2⟩ := leaf (v := 12) HW.out (badAt_deep HY.out HV.out hk0 (.inl b0)) (by decide)
            subst h1 h2
            go_ret2
            exact ⟨.inl rfl, K4.out⟩
          · have b0' : (y.d == 0) = false := by simp [b0]
            by_cases b1 : z + 1 < y.d
            · go_quiet (fail)
              have q : Below w2.heap.size w2 (w2.drewN nq) := ⟨rfl, rfl, rfl, Nat.le_refl _, fun _ _ => rfl⟩
              clear cj c0 c1 c2 c3 c4 c5 c6 c7 c8 c9 c10 c11 c12 c13
              generalize w2.drewN nq = w4 at q ⊢
              have K4 := Lib.hid (thru K2.out q)
              clear q
              go_wp2_with fail
              obtain ⟨h1, h2⟩ := leaf (v := 12) HW.out (badAt_deep HY.out HV.out hk0 (.inr (by rw [HZ.out]; exact b1))) (by decide)
              subst h1 h2
              go_ret2
              exact ⟨.inl rfl, K4.out⟩
            · go_quiet (fail)
              have q : Below w2.heap.size w2 (w2.drewN nq) := ⟨rfl, rfl, rfl, Nat.le_refl _, fun _ _ => rfl⟩
              clear cj c0 c1 c2 c3 c4 c5 c6 c7 c8 c9 c10 c11 c12 c13
              generalize w2.drewN nq = w4 at q ⊢
              have K4 := Lib.hid (thru K2.out q)
              have at4 := AT2.out.below AT2.out.lt q
              clear q AT2
              obtain ⟨p, hp, hpk, hpd, -⟩ := (H.out.1.shape_next hk0 (by rw [HYD.out]; omega) (by rw [HYD.out, HZ.out]; omega)).parent k hk0 (by omega)
              have HPD : Hid (∀ m, m ≤ k → 0 ≤ dOf bs m ∧ dOf bs m ≤ 256) := Lib.hid (fun m hm => by
                by_cases e : m = k
                · subst e; rw [HYD.out]; exact hyb
                · exact H.out.1.depth (by omega))
              have HPP := Lib.hid hp
              have hpn : p < n := by omega
              obtain ⟨_, h1, _, hcp⟩ := (HX.out.below K4.out) p (by rw [← HN.out]; exact hpn)
              injection h1 with h1
              subst h1
              obtain ⟨x, hx⟩ : ∃ x, kOf bs p = x := ⟨_, rfl⟩
              obtain ⟨fv, hfv⟩ : ∃ fv, fitsB x y.k = fv := ⟨_, rfl⟩
              have HFV := Lib.hid hfv
              have HB : Hid (badAt bs k = if fv then 0 else 12) := Lib.hid (badAt_fits HY.out HV.out hk0 (by rw [HZ.out]; omega) (by rw [hp, Int.toNat_natCast, hx]; exact hfv))
              have g1 := hcp.2.1
              rw [show (bs.getD p noB).k = x from hx] at g1
              clear hcp hx hp hpd hfv
              have c1 := at4.2.1
              have d1 := fun d os => cell_regrown c1 (d := d) (os := os)
              have e1 := fun d os => cell_regrown g1 (d := d) (os := os)
              clear c1 g1 at4
              go_upto_region 17 with fail
              refine wp_region_quiet_below (by kernel_rfl) (by kernel_rfl) ?_
              repeat (quiet_step (first
                | (go_at_call 33; with_reducible exact Calls.regrown_of (refpar_r HN.out hlen hlt HX.out HPD.out K4.out HPP.out))
                | (go_at_call 32; with_reducible exact Calls.regrown_of (reffits_r HFV.out))))
              refine wpQuiet_nil ?_
              intro _ hw'
              obtain ⟨⟨dq, os⟩, hw''⟩ := hw'
              subst hw''
              clear d1 e1
              have q := below_regrown w4 dq os
              generalize grow (redrawn w4 dq) os = w5 at q ⊢
              have K5 := Lib.hid (thru K4.out q)
              clear q
              cases fv
              · go_wp2_with fail
                obtain ⟨h1, h2⟩ := leaf (v := 12) HW.out HB.out (by decide)
                subst h1 h2
                go_ret2
                exact ⟨.inl rfl, K5.out⟩
              · have hb : badAt bs k = 0 := HB.out
                have HN2 := Lib.hid (⟨H.out.1.next hb, nextF HW.out hb, K5.out⟩ : Fine bs (k + 1) ∧ chkF bs (mm - (k + 1)) (k + 1) = (a, e) ∧ Below w.heap.size w w5)
                clear hb
                go_wp2_with fail
                go_roundw
                case rel => exact ⟨k + 1, by omega, by go_num, HN2⟩
                case measure => simp [intOf]; omega
      · go_wp2_with (first | (go_at_call 31; refine (ref_is y v HV.out _).mono ?_; rintro e w2 ⟨rfl, k2⟩; have K2 := Lib.hid (thru K1.out k2); clear k2))
        obtain ⟨h1, h2⟩ := leaf HW.out (badAt_check HY.out HV.out hv0) hv0
        subst h1 h2
        go_ret2
        exact ⟨.inl rfl, K2.out⟩
    · obtain rfl : k = mm := by omega
      rcases Nat.lt_or_ge k n with hkn | hkn
      · have hk5 : k = 65536 := hm3 hkn
        obtain ⟨ad, hA, hab, hcx⟩ := (HX.out.below H.out.2.2) k (by rw [← HN.out]; exact hkn)
        subst hA
        have HK := Lib.hid hk5
        have hk6 : ((k : Int) == 65536) = true := by rw [hk5]; rfl
        obtain ⟨c0, c1, c2, c3, c4, c5, c6, c7, c8, c9, c10, c11, c12, c13⟩ := hcx
        clear hab hk5 hm3
        go_upto_region 7 with fail
        clear c0 c1 c2 c3 c4 c5 c6 c7 c8 c9 c10 c11 c12 c13
        generalize hW : World.alloc wr _ = W
        have K1 : Hid (Below w.heap.size w W) := Lib.hid (by rw [← hW]; exact thru H.out.2.2 (ba1 _ _))
        clear hW
        go_wp2_with fail
        go_ret2
        exact ⟨.inr ⟨hkn, by rw [HK.out]; rfl⟩, K1.out⟩
      · obtain rfl : k = n := by omega
        have hc := H.out.2.1
        rw [Nat.sub_self, chkF] at hc
        injection hc with h1 h2
        subst h1 h2
        go_wp2_with fail
        go_ret2
        exact ⟨.inl rfl, H.out.2.2⟩

theorem refchk_any (A : Option Addr) (n c : Nat) (bs : List Bx) (a e : Int) (w : World) (hn : n = bs.length) (hlen : n ≤ 1000) (hx : Boxes w w.heap.size A bs) (hc : chk bs = (a, e)) :
    Calls Tryz.prog 13 #[.slice A n c] w fun r w' => r = .returned (.tuple #[.int .i64 a, .int .i64 e]) ∧ Below w.heap.size w w' := by
  rcases Nat.eq_zero_or_pos n with h0 | h0
  · subst h0
    unfold chk at hc
    rw [if_pos hn.symm] at hc
    injection hc with h1 h2
    subst h1 h2
    exact refchk_zero A c w
  · unfold chk at hc
    rw [if_neg (by omega), ← hn] at hc
    refine (refchk_cap A n n c bs a e w hn (by omega) h0 (Nat.le_refl _) (by omega) (by omega) hx hc).mono ?_
    rintro r w' ⟨h | ⟨h, -⟩, k⟩
    · exact ⟨h, k⟩
    · omega

/-- Of lists of whichever length: some answer. -/
theorem refchk_some (A : Option Addr) (n c : Nat) (bs : List Bx) (w : World) (hn : n = bs.length) (hlen : n ≤ 9223372036854775807) (hx : Boxes w w.heap.size A bs) :
    Calls Tryz.prog 13 #[.slice A n c] w fun r w' => (∃ a e : Int, r = .returned (.tuple #[.int .i64 a, .int .i64 e])) ∧ Below w.heap.size w w' := by
  rcases Nat.eq_zero_or_pos n with h0 | h0
  · subst h0
    exact (refchk_zero A c w).mono fun r w' ⟨h, k⟩ => ⟨⟨_, _, h⟩, k⟩
  · obtain ⟨mm, hm⟩ : ∃ mm, min n 65536 = mm := ⟨_, rfl⟩
    obtain ⟨a, e, hc⟩ : ∃ a e, chkF bs mm 0 = (a, e) := ⟨_, _, rfl⟩
    refine (refchk_cap A n mm c bs a e w hn hlen h0 (by omega) (by omega) (by omega) hx hc).mono ?_
    rintro r w' ⟨h | ⟨-, h⟩, k⟩
    · exact ⟨⟨_, _, h⟩, k⟩
    · exact ⟨⟨_, _, h⟩, k⟩

end Go.Proofs.YtfomhdhiibcdfaaGreat.Tree
