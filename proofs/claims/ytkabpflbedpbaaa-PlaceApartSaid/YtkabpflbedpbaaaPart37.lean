/- The law: whatever is placed one behind the other stands apart. -/
import Derived.Test.YtkabpflbedpbaaaPart35
import Derived.Test.YtkabpflbedpbaaaPart36
import Derived.Test.YtkabpflbedpbaaaPart15
import Derived.Test.YtkabpflbedpbaaaPart8
namespace Go.Proofs.Ytkabpflbedpbaaa.Place
open Go.RowKit Go.Sort Go.Proofs.Ytkabpflbedpbaaa.Rect Go.Proofs.Ytkabpflbedpbaaa.More Go.Proofs.Ytkabpflbedpbaaa.Shelf Go.Proofs.Ytkabpflbedpbaaa.Space
set_option linter.unusedVariables false
set_option linter.unusedSimpArgs false

/-- A float's rectangle in cells. -/
def encR : Enc Fl := ⟨4, fun f => [.int .i64 f.l, .int .i64 f.t, .int .i64 f.r, .int .i64 f.b], fun _ => rfl, fun x u h => by
  simp only [List.mem_cons, List.not_mem_nil, or_false] at h
  rcases h with h | h | h | h <;> (subst h; rfl), by omega⟩

theorem infoR : InfoE encR 40 52 32 :=
  ⟨Try.underlying52, .agg #[.int .i64 0, .int .i64 0, .int .i64 0, .int .i64 0], rfl, by kernel_rfl⟩

/-- A list of rectangles of one's own, a space, and blocks of one's own beside both. -/
def Placing (S : World → (Nat → Prop) → Addr → List Fl → Prop) (w wr : World) (p : Addr) (A : Option Addr) (k c : Nat) (os fs : List Fl) (L : Nat → Prop) : Prop :=
  MineE encR 40 wr w.heap.size A k c os ∧ Below w.heap.size w wr ∧ ∃ F, S wr F p fs ∧ (∀ j, F j → w.heap.size ≤ j) ∧ (∀ j, blk A = some j → ¬ F j) ∧ ∀ j, L j → ¬ F j ∧ j < wr.heap.size

section
variable {S : World → (Nat → Prop) → Addr → List Fl → Prop} {w wr w' : World} {p : Addr} {A : Option Addr} {k c : Nat} {os fs : List Fl} {L L' : Nat → Prop}

theorem Placing.under (h : Placing S w wr p A k c os fs L) : Below w.heap.size w wr := h.2.1
theorem Placing.mine (h : Placing S w wr p A k c os fs L) : MineE encR 40 wr w.heap.size A k c os := h.1

theorem placing_new {F : Nat → Prop} (h : S wr F p []) (hF : ∀ j, F j → w.heap.size ≤ j) (k : Below w.heap.size w wr) : Placing S w wr p none 0 0 [] [] (fun _ => False) :=
  ⟨noneE_mine encR 40 wr w.heap.size, k, F, h, hF, (fun j hj => by simp [blk] at hj), fun j hj => hj.elim⟩

theorem Placing.more (hO : SpaceOk S) (h : Placing S w wr p A k c os fs L) (kk : Below wr.heap.size wr w') (hL : ∀ j, L' j → L j ∨ (wr.heap.size ≤ j ∧ j < w'.heap.size)) : Placing S w w' p A k c os fs L' := by
  obtain ⟨h1, h2, F, h3, h4, h5, h6⟩ := h
  refine ⟨h1.below kk, thru h2 kk, F, thruS hO h3 kk, h4, h5, fun j hj => ?_⟩
  rcases hL j hj with e | ⟨e1, e2⟩
  · exact ⟨(h6 j e).1, Nat.lt_of_lt_of_le (h6 j e).2 kk.size⟩
  · exact ⟨fun q => by have := hO.lt _ _ _ _ h3 j q; omega, e2⟩
theorem Placing.below (hO : SpaceOk S) (h : Placing S w wr p A k c os fs L) (kk : Below wr.heap.size wr w') : Placing S w w' p A k c os fs L := h.more hO kk fun _ q => .inl q

theorem mineR_but {G : Nat → Prop} (h : MineE encR 40 wr w.heap.size A k c os) (kk : But G wr w') (hG : ∀ j, blk A = some j → ¬ G j) : MineE encR 40 w' w.heap.size A k c os := by
  refine ⟨h.1, ?_⟩
  rcases h.2 with ⟨e1, e2⟩ | ⟨g, cap, cur, e, q1, q2, q3⟩
  · exact .inl ⟨e1, e2⟩
  · refine .inr ⟨g, cap, cur, e, q1, ?_, q3⟩
    rw [kk.block g (lt_of_block q2) (hG g (by injection e with e1; rw [e1]; rfl))]
    exact q2

theorem Placing.puts (hO : SpaceOk S) (hP : PlaceOk S) (h : Placing S w wr p A k c os fs L) (x : Wt) (hlen : fs.length < 1000) (h49 : fs.all near49 = true) (hr : RightW x) :
    Calls Try.prog 24 #[.pointer (some p), x.v] wr fun r w' => r = .returned (Fl.box (placed fs x)) ∧ Placing S w w' p A k c os (fs ++ [placed fs x]) L ∧ ∀ j, L j → w'.heap[j]? = wr.heap[j]? := by
  obtain ⟨h1, h2, F, h3, h4, h5, h6⟩ := h
  refine (hP.put wr F p fs x h3 hlen h49 hr).mono ?_
  rintro r w' ⟨rfl, ⟨F', g1, g2⟩, g3⟩
  have hs := h2.size
  have hg := g3.size
  refine ⟨rfl, ⟨mineR_but h1 g3 h5, h2.trans (g3.below hs h4), F', g1, fun j hj => (g2 j hj).elim (h4 j) (fun e => by omega), fun j hj q => (g2 j q).elim (h5 j hj) (fun e => by have := (h1.lt j hj).2; omega), fun j hj => ⟨fun q => (g2 j q).elim (h6 j hj).1 (fun e => by have := (h6 j hj).2; omega), by have := (h6 j hj).2; omega⟩⟩, fun j hj => g3.block j (h6 j hj).2 (h6 j hj).1⟩

theorem Placing.bottom (hO : SpaceOk S) (h : Placing S w wr p A k c os fs L) (cl : Int) (h49 : fs.all near49 = true) (hc : 0 ≤ cl ∧ cl ≤ 3) :
    Calls Try.prog 23 #[.pointer (some p), .int .i64 cl] wr fun r w' => r = .returned (.tuple #[.int .i64 (botS fs cl).1, .bool (botS fs cl).2]) ∧ Below wr.heap.size wr w' := by
  obtain ⟨h1, h2, F, h3, -⟩ := h
  exact hO.bottom wr F p fs cl h3 (near49_near h49) hc

theorem Placing.floats (hO : SpaceOk S) (h : Placing S w wr p A k c os fs L) (h49 : fs.all near49 = true) :
    Calls Try.prog 21 #[.pointer (some p)] wr fun r w' => (∃ A c, r = .returned (.slice A fs.length c)) ∧ Below wr.heap.size wr w' := by
  obtain ⟨h1, h2, F, h3, -⟩ := h
  refine (hO.floats wr F p fs h3 (near49_near h49)).mono ?_
  rintro r w' ⟨⟨A, c, e, -⟩, kk⟩
  exact ⟨⟨A, c, e⟩, kk⟩

theorem Placing.append (hO : SpaceOk S) {A1 : Option Addr} {c1 : Nat} {o : Fl} (h : Placing S w wr p A k c os fs L) (g : AppendedE encR 40 wr w.heap.size A k os [o] 1 A1 c1 w') : Placing S w w' p A1 (k + 1) c1 (os ++ [o]) fs (fun _ => False) := by
  obtain ⟨h1, h2, F, h3, h4, h5, h6⟩ := h
  have hb : But (fun j => blk A = some j) wr w' := ⟨g.2.1.os, g.2.1.tape, g.2.1.output, g.2.1.size, fun j hj hn => g.2.1.block j hj (fun e => hn e.symm)⟩
  refine ⟨g.1, AppendedE.below g h1 h2 (Nat.le_refl _) h2.size, F, hO.keep _ _ _ _ _ _ h3 hb (fun j hj e => h5 j e hj), h4, fun j hj q => ?_, fun _ q => q.elim⟩
  rcases g.2.2 with e | e
  · rw [e] at hj; exact h5 j hj q
  · rw [e] at hj
    injection hj with hj
    have := hO.lt _ _ _ _ h3 j q
    omega

end

section
variable {S : World → (Nat → Prop) → Addr → List Fl → Prop}

set_option maxRecDepth 100000 in
set_option maxHeartbeats 1000000 in
theorem apart_few (hO : SpaceOk S) (hP : PlaceOk S) (A : Option Addr) (n c : Nat) (w : World) (hn : ¬ (n : Int) ≤ 30) :
    Calls Try.prog 5 #[.slice A n c] w fun e w' => e = .returned (.bool true) ∧ Below w.heap.size w w' := by
  have HNew := Lib.hid (hO.new w)
  have hn2 : (30 : Int) < (n : Int) := by omega
  clear hn
  go_enter Try.func5, Try.ntmps5
  go_upto_region 3 with (first
    | (go_at_call 22; refine HNew.out.mono ?_; rintro e w1 ⟨⟨p, F, rfl, hL, hF⟩, k1⟩; have K1 := Lib.hid k1; clear hL hF k1)
    | (go_at_call 11; refine (qspeaks hO hP _).mono ?_; rintro e w2 ⟨rfl, k2⟩; have K2 := Lib.hid (thru K1.out k2); clear k2))
  go_wp2_with (first
    | (go_at_call 11; refine (qspeaks hO hP _).mono ?_; rintro e w9 ⟨rfl, k9⟩; have K9 := Lib.hid (thru K2.out k9); clear k9))
  go_ret
  exact ⟨rfl, K9.out⟩

set_option maxRecDepth 100000 in
set_option maxHeartbeats 4000000 in
theorem apart_yes (hO : SpaceOk S) (hP : PlaceOk S) (A : Option Addr) (n c : Nat) (xs : List Wt) (w : World) (hn : n = xs.length) (hlen : n ≤ 30) (hx : Wants w w.heap.size A xs) :
    Calls Try.prog 5 #[.slice A n c] w fun e w' => e = .returned (.bool true) ∧ Below w.heap.size w w' := by
  have HNew := Lib.hid (hO.new w)
  have HX := Lib.hid hx
  have HN := Lib.hid (⟨hn, hlen⟩ : n = xs.length ∧ n ≤ 30)
  have hn2 : ¬ (30 : Int) < (n : Int) := by omega
  clear hx hn hlen
  go_enter Try.func5, Try.ntmps5
  go_upto_region 4 with (first
    | (go_at_call 22; refine HNew.out.mono ?_; rintro e w1 ⟨⟨p, F, rfl, hL, hF⟩, k1⟩; have S1 := Lib.hid (placing_new hL hF k1 : Placing S w w1 p none 0 0 [] [] (fun _ => False)); clear hL hF k1)
    | (go_at_call 11; refine (qspeaks hO hP _).mono ?_; rintro e w2 ⟨rfl, k2⟩; have S2 := Lib.hid (S1.out.below hO k2); clear k2))
  clear S1 HNew hn2
  go_wp2_with fail
  go_loopw [4, 5, 28] (fun s t i wr => ∃ (k : Nat) (A' : Option Addr) (c' : Nat) (top : Int) (fs : List Fl), k ≤ n ∧ i = .int .i64 (k : Int) ∧ s = .slice A' k c' ∧ t = .int .i64 top ∧ Hid (fs.length = k ∧ Low k fs ∧ (0 < k → ∃ f ∈ fs, f.t = top) ∧ Placing S w wr p A' k c' fs fs (fun _ => False))) (fun _ _ i _ => n - (intOf i).toNat)
  case atStart => exact ⟨0, none, 0, 0, [], Nat.zero_le _, rfl, rfl, rfl, Lib.hid ⟨rfl, (show Low 0 [] from fun f hf => by cases hf), fun h => by omega, S2.out⟩⟩
  case round =>
    clear S2
    obtain ⟨k, A', c', top, fs, hk, rfl, rfl, rfl, H⟩ := hrel
    by_cases hlt : k < n
    · have hki : (k : Int) < (n : Int) := by omega
      have hk0 : ¬ (k : Int) < 0 := by omega
      obtain ⟨x, hf⟩ : ∃ x, xs[k]? = some x := ⟨_, List.getElem?_eq_getElem (by rw [← HN.out.1]; exact hlt)⟩
      obtain ⟨ad, rfl, hab, d0, d1, d2, d3, d4, d5, d6⟩ := (HX.out.thru H.out.2.2.2.under) k x hf
      clear hf
      go_upto_region 9 with fail
      clear d0 d1 d2 d3 d4 d5 d6 hab
      generalize hW5 : World.alloc wr _ = W5
      obtain ⟨b7, hb7⟩ : ∃ b7, wr.heap.size = b7 := ⟨_, rfl⟩
      have k5 : Below wr.heap.size wr W5 := by rw [← hW5]; exact ba1 _ _
      have v7 : Wb W5 b7 x := by rw [← hW5, ← hb7]; exact heap_alloc_new wr _
      have S5 := Lib.hid (⟨H.out.2.2.2.more hO k5 (L' := fun j => j = b7) (fun j hj => .inr (by have := v7.lt; omega)), v7⟩ : Placing S w W5 p A' k c' fs fs (fun j => j = b7) ∧ Wb W5 b7 x)
      rw [hb7]
      have HL := Lib.hid (⟨H.out.1, H.out.2.1, H.out.2.2.1⟩ : fs.length = k ∧ Low k fs ∧ (0 < k → ∃ f ∈ fs, f.t = top))
      clear hW5 hb7 k5 v7 H
      obtain ⟨c0, c1, c2, c3, c4, c5, c6⟩ := S5.out.2.at'
      obtain ⟨rv, hrv⟩ : ∃ rv, rightW x = rv := ⟨_, rfl⟩
      have HRi := Lib.hid (fun w => right_is x rv hrv w)
      cases rv with
      | false =>
        go_wp2_with (first
          | (go_at_call 12; refine (HRi.out _).mono ?_; rintro e w6 ⟨rfl, k6⟩; have K6 := Lib.hid (thru S5.out.1.under k6); clear k6))
        go_ret
        exact ⟨rfl, K6.out⟩
      | true =>
        have HR := Lib.hid (rightW_iff.1 hrv)
        clear hrv
        by_cases e1 : 1099511627776 < x.y
        · go_wp2_with (first
            | (go_at_call 12; refine (HRi.out _).mono ?_; rintro e w6 ⟨rfl, k6⟩; have K6 := Lib.hid (thru S5.out.1.under k6); clear c0 c1 c2 c3 c4 c5 c6; obtain ⟨c0, c1, c2, c3, c4, c5, c6⟩ := S5.out.2.at'.below k6; clear k6))
          go_ret
          exact ⟨rfl, K6.out⟩
        · by_cases e2 : 1099511627776 < x.ht
          · go_wp2_with (first
              | (go_at_call 12; refine (HRi.out _).mono ?_; rintro e w6 ⟨rfl, k6⟩; have K6 := Lib.hid (thru S5.out.1.under k6); clear c0 c1 c2 c3 c4 c5 c6; obtain ⟨c0, c1, c2, c3, c4, c5, c6⟩ := S5.out.2.at'.below k6; clear k6))
            go_ret
            exact ⟨rfl, K6.out⟩
          · by_cases e3 : x.ht < 0
            · go_wp2_with (first
                | (go_at_call 12; refine (HRi.out _).mono ?_; rintro e w6 ⟨rfl, k6⟩; have K6 := Lib.hid (thru S5.out.1.under k6); clear c0 c1 c2 c3 c4 c5 c6; obtain ⟨c0, c1, c2, c3, c4, c5, c6⟩ := S5.out.2.at'.below k6; clear k6))
              go_ret
              exact ⟨rfl, K6.out⟩
            · by_cases e4 : x.y < -1099511627776
              · go_wp2_with (first
                  | (go_at_call 12; refine (HRi.out _).mono ?_; rintro e w6 ⟨rfl, k6⟩; have K6 := Lib.hid (thru S5.out.1.under k6); clear c0 c1 c2 c3 c4 c5 c6; obtain ⟨c0, c1, c2, c3, c4, c5, c6⟩ := S5.out.2.at'.below k6; clear k6))
                go_ret
                exact ⟨rfl, K6.out⟩
              · go_upto_region 11 with (first
                  | (go_at_call 12; refine (HRi.out _).mono ?_; rintro e w6 ⟨rfl, k6⟩; have S6 := Lib.hid (⟨S5.out.1.below hO k6, S5.out.2.below k6⟩ : Placing S w w6 p A' k c' fs fs (fun j => j = b7) ∧ Wb w6 b7 x); clear c0 c1 c2 c3 c4 c5 c6; obtain ⟨c0, c1, c2, c3, c4, c5, c6⟩ := S5.out.2.at'.below k6; clear k6))
                have hr := HR.out
                have h49 := low_near HL.out.2.1
                have hlow := low_next HL.out.2.1 (by have := HN.out.2; omega) hr (by omega) (by omega) (by omega) (by omega)
                have HBo := Lib.hid (fun w1 (h : Placing S w w1 p A' k c' fs fs (fun j => j = b7)) => h.bottom hO x.c h49 hr.cl)
                have HPu := Lib.hid (fun w1 (h : Placing S w w1 p A' k c' fs fs (fun j => j = b7)) => h.puts hO hP x (by have := HL.out.1; have := HN.out.2; omega) h49 hr)
                have HM := Lib.hid (fun o (ho : o ∈ fs) => apart_meet h49 hr ho (fx := findX fs x) (fy := findY fs x) rfl rfl)
                have g1 : 0 < k → ¬ findY fs x < top := fun hk => by
                  obtain ⟨f, hf, e⟩ := HL.out.2.2 hk
                  have := Int.le_trans (startQ_last (w := x) hf) (find_is h49 hr).1
                  omega
                have g2 : ¬ findY fs x < x.y := by have := Int.le_trans (startQ_ge fs x) (find_is h49 hr).1; omega
                have g3 : (botS fs x.c).2 = true → ¬ findY fs x < (botS fs x.c).1 := fun h => by have := apart_clear h49 hr h; omega
                have g4 : x.s = 1 → ¬ findX fs x < x.f := fun h => by have := apart_left h49 hr h; omega
                have g5 : x.s ≠ 1 → ¬ x.t < findX fs x + x.wd := fun h => by have := apart_right h49 hr h; omega
                have G := Lib.hid (⟨g1, g2, g3, g4, g5⟩ : (0 < k → ¬ findY fs x < top) ∧ ¬ findY fs x < x.y ∧ ((botS fs x.c).2 = true → ¬ findY fs x < (botS fs x.c).1) ∧ (x.s = 1 → ¬ findX fs x < x.f) ∧ (x.s ≠ 1 → ¬ x.t < findX fs x + x.wd))
                have HLO := Lib.hid hlow
                have HPL := Lib.hid (show ∃ f, placed fs x = f ∧ f.l = findX fs x ∧ f.t = findY fs x ∧ f.r = findX fs x + x.wd ∧ f.b = findY fs x + x.ht from ⟨_, rfl, rfl, rfl, rfl, rfl⟩)
                clear hr h49 hlow g1 g2 g3 g4 g5 e1 e2 e3 e4 HRi S5
                obtain ⟨f, hpf, q1, q2, q3, q4⟩ := HPL.out
                rw [hpf] at HPu HLO
                rw [← q1, ← q2] at HM
                rw [← q1, ← q2] at G
                rw [show f.l + x.wd = f.r by rw [q1, q3]] at G HM
                rw [show f.t + x.ht = f.b by rw [q2, q4]] at HM
                generalize (botS fs x.c).1 = by' at *
                generalize (botS fs x.c).2 = bo at *
                clear hpf q1 q2 q3 q4 HPL
                go_upto_region 12 with (first
                  | (go_at_call 23; refine (HBo.out _ S6.out.1).mono ?_; rintro e w7 ⟨rfl, k7⟩; have S7 := Lib.hid (⟨S6.out.1.below hO k7, S6.out.2.below k7⟩ : Placing S w w7 p A' k c' fs fs (fun j => j = b7) ∧ Wb w7 b7 x); clear c0 c1 c2 c3 c4 c5 c6; obtain ⟨c0, c1, c2, c3, c4, c5, c6⟩ := S6.out.2.at'.below k7; clear k7))
                go_upto_region 13 with (first
                  | (go_at_call 14; refine (wantOf_any x _).mono ?_; rintro e w8 ⟨rfl, k8⟩; have S8 := Lib.hid (⟨S7.out.1.below hO k8, S7.out.2.below k8⟩ : Placing S w w8 p A' k c' fs fs (fun j => j = b7) ∧ Wb w8 b7 x); clear k8)
                  | (go_at_call 24; refine (HPu.out _ S8.out.1).mono ?_; rintro e w9 ⟨rfl, hp9, hl9⟩; have S9 := Lib.hid (⟨hp9, (hl9 b7 rfl).trans S8.out.2⟩ : Placing S w w9 p A' k c' fs (fs ++ [f]) (fun j => j = b7) ∧ Wb w9 b7 x); clear hp9 hl9))
                clear c0 c1 c2 c3 c4 c5 c6
                generalize hWa : World.alloc w9 _ = Wa
                obtain ⟨b10, hb10⟩ : ∃ b10, w9.heap.size = b10 := ⟨_, rfl⟩
                have ka : Below w9.heap.size w9 Wa := by rw [← hWa]; exact ba1 _ _
                have r10 : R4 Wa b10 f.l f.t f.r f.b := by rw [← hWa, ← hb10]; exact R4.of_block (heap_alloc_new w9 _)
                have Sa := Lib.hid (⟨S9.out.1.below hO ka, S9.out.2.below ka, r10⟩ : Placing S w Wa p A' k c' fs (fs ++ [f]) (fun j => j = b7) ∧ Wb Wa b7 x ∧ R4 Wa b10 f.l f.t f.r f.b)
                rw [hb10]
                clear hWa hb10 ka r10 S6 S7 S8 S9 HBo HPu
                obtain ⟨c0, c1, c2, c3, c4, c5, c6⟩ := Sa.out.2.1.at'
                obtain ⟨r0, r1, r2, r3⟩ := Sa.out.2.2
                go_cut [90] (fun t wx => t = .bool false ∧ wx = Wa)
                case first => as_aux_lemma =>
                  obtain ⟨g1, g2, g3, -, -⟩ := G.out
                  by_cases hk1 : 0 < k
                  · have g1' := g1 hk1
                    have hki2 : (0 : Int) < (k : Int) := by omega
                    cases bo
                    · clear g3
                      go_wp2_with fail
                      go_meet
                      exact ⟨congrArg Value.bool (by simp <;> omega), rfl⟩
                    · have g3' := g3 rfl
                      clear g3
                      go_wp2_with fail
                      go_meet
                      exact ⟨congrArg Value.bool (by simp <;> omega), rfl⟩
                  · have hki2 : ¬ (0 : Int) < (k : Int) := by omega
                    cases bo
                    · clear g3
                      go_wp2_with fail
                      go_meet
                      exact ⟨congrArg Value.bool (by simp <;> omega), rfl⟩
                    · have g3' := g3 rfl
                      clear g3
                      go_wp2_with fail
                      go_meet
                      exact ⟨congrArg Value.bool (by simp <;> omega), rfl⟩
                case rest =>
                obtain ⟨rfl, rfl⟩ := hcut
                go_upto_region 16 with fail
                go_cut [114] (fun t wx => t = .bool false ∧ wx = wc)
                case first => as_aux_lemma =>
                  obtain ⟨-, -, -, g4, g5⟩ := G.out
                  rcases HR.out.sd with hs | hs
                  · have g4' := g4 hs
                    rw [hs] at c0
                    clear g4 g5
                    go_wp2_with fail
                    go_meet
                    exact ⟨congrArg Value.bool (by simp <;> omega), rfl⟩
                  · have g5' := g5 (by omega)
                    rw [hs] at c0
                    clear g4 g5
                    go_wp2_with fail
                    go_meet
                    exact ⟨congrArg Value.bool (by simp <;> omega), rfl⟩
                case rest =>
                obtain ⟨rfl, rfl⟩ := hcut
                clear c0 c1 c2 c3 c4 c5 c6 r0 r1 r2 r3 G
                obtain ⟨wo, hwo⟩ : ∃ y, y = wr := ⟨_, rfl⟩
                subst hwo
                go_wp2_with fail
                go_loopw [117] (fun i ws => ∃ j : Nat, j ≤ k ∧ i = .int .i64 (j : Int) ∧ Hid (Below wc.heap.size wc ws)) (fun i _ => k - (intOf i).toNat)
                case atStart => exact ⟨0, Nat.zero_le _, rfl, Lib.hid (Below.refl _ _)⟩
                case round =>
                  obtain ⟨j, hj, rfl, G⟩ := hrel
                  by_cases hlj : j < k
                  · have hji : (j : Int) < (k : Int) := by omega
                    have hj0 : ¬ (j : Int) < 0 := by omega
                    obtain ⟨o, ho⟩ : ∃ o, fs[j]? = some o := ⟨_, List.getElem?_eq_getElem (by rw [HL.out.1]; exact hlj)⟩
                    have P := Sa.out.1.below hO G.out
                    obtain ⟨g, rfl, -, hgl, -, -⟩ := P.mine.form (by omega)
                    have m0 : wr.cell? ⟨g, j * 4, none⟩ = some (.int .i64 o.l) := MineE.at P.mine j o ho 0 (by decide)
                    have m1 : wr.cell? ⟨g, j * 4 + 1, none⟩ = some (.int .i64 o.t) := MineE.at P.mine j o ho 1 (by decide)
                    have m2 : wr.cell? ⟨g, j * 4 + 2, none⟩ = some (.int .i64 o.r) := MineE.at P.mine j o ho 2 (by decide)
                    have m3 : wr.cell? ⟨g, j * 4 + 3, none⟩ = some (.int .i64 o.b) := MineE.at P.mine j o ho 3 (by decide)
                    have HMe := Lib.hid (fun w => meet_is o.l o.t o.r o.b f.l f.t f.r f.b false (HM.out o (List.mem_of_getElem? ho)) w)
                    clear P hgl ho
                    go_upto_region 21 with fail
                    clear m0 m1 m2 m3
                    generalize hWd : World.alloc wr _ = Wd
                    obtain ⟨b12, hb12⟩ : ∃ b12, wr.heap.size = b12 := ⟨_, rfl⟩
                    have kd : Below wr.heap.size wr Wd := by rw [← hWd]; exact ba1 _ _
                    have r12 : R4 Wd b12 o.l o.t o.r o.b := by rw [← hWd, ← hb12]; exact R4.of_block (heap_alloc_new wr _)
                    have Kd := Lib.hid (thru G.out kd)
                    rw [hb12]
                    clear hWd hb12 kd
                    obtain ⟨r0, r1, r2, r3⟩ := Sa.out.2.2.below Kd.out
                    obtain ⟨s0, s1, s2, s3⟩ := r12
                    go_wp2_with (first
                      | (go_at_call 25; refine (HMe.out _).mono ?_; rintro e we ⟨rfl, ke⟩; have Ke := Lib.hid (thru Kd.out ke); clear ke))
                    go_roundw
                    case rel => exact ⟨j + 1, by omega, by go_num, Ke⟩
                    case measure => simp [intOf]; omega
                  · obtain rfl : j = k := by omega
                    have P := Lib.hid (Sa.out.1.below hO G.out)
                    obtain ⟨r0, r1, r2, r3⟩ := Sa.out.2.2.below G.out
                    go_wp2_with (first
                      | (at_builtin; refine wpList_append_E (bytes := 32) (by omega) infoR _ rfl (.tmp 125) (.tmp 127) rfl w.heap.size A' j c' fs rfl (P.out.mine.alloc _) (some ⟨wr.heap.size, 0, none⟩) 1 1 [f] rfl (oneE_src encR wr f 40) (by have := HN.out.2; omega) (by have := P.out.under.size; simp; omega) ?_; intro A1 c1 W1 g1; have PA := Lib.hid ((P.out.below hO (ba1 wr _)).append hO g1); clear g1))
                    go_roundw
                    case rel => exact ⟨j + 1, A1, c1, f.t, fs ++ [f], by omega, by go_num, rfl, rfl, Lib.hid ⟨by rw [List.length_append, HL.out.1]; rfl, HLO.out, fun _ => ⟨f, by simp, rfl⟩, PA.out⟩⟩
                    case measure => simp [intOf]; omega
    · obtain rfl : k = n := by omega
      have HF := Lib.hid (H.out.2.2.2.floats hO (low_near H.out.2.1))
      rw [H.out.1] at HF
      have K := Lib.hid H.out.2.2.2.under
      clear H
      go_wp2_with (first
        | (go_at_call 21; refine HF.out.mono ?_; rintro e w8 ⟨⟨A8, c8, rfl⟩, k8⟩; have K8 := Lib.hid (thru K.out k8); clear k8))
      go_ret
      exact ⟨rfl, K8.out⟩

theorem apart_any (hO : SpaceOk S) (hP : PlaceOk S) (A : Option Addr) (n c : Nat) (xs : List Wt) (w : World) (hn : n = xs.length) (hx : Wants w w.heap.size A xs) :
    Calls Try.prog 5 #[.slice A n c] w fun e w' => e = .returned (.bool true) ∧ Below w.heap.size w w' := by
  by_cases h : (n : Int) ≤ 30
  · exact apart_yes hO hP A n c xs w hn (by omega) hx
  · exact apart_few hO hP A n c w h

end

end Go.Proofs.Ytkabpflbedpbaaa.Place
