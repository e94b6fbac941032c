/- Texts of this proof that follow each other, in one file. -/
import Derived.Test.YtfomhdhiibcdfaaGreatPart12
import Derived.Test.YtfomhdhiibcdfaaGreatPart17
import Derived.Test.YtfomhdhiibcdfaaGreatPart16
import Derived.Test.YtfomhdhiibcdfaaGreatPart14
/-! The contracts of the document's answers about a space. -/
namespace Go.Proofs.YtfomhdhiibcdfaaGreat.Space
open Go.RowKit Go.Sort Go.Proofs.YtfomhdhiibcdfaaGreat.Rect Go.Proofs.YtfomhdhiibcdfaaGreat.Shelf

set_option maxRecDepth 100000 in
set_option maxHeartbeats 600000 in
theorem cleared_is (c s : Int) (v : Bool) (hv : clrB c s = v) (w : World) :
    Calls Tryz.prog 50 #[.int .i64 c, .int .i64 s] w fun e w' => e = .returned (.bool v) ∧ Below w.heap.size w w' := by
  unfold clrB at hv
  by_cases h3 : (c == 3) = true
  · have e : v = true := by rw [← hv, h3]; rfl
    subst e
    clear hv
    go_enter Tryz.func50, Tryz.ntmps50
    go_wp2_with fail
    go_ret
    exact ⟨rfl, Below.refl _ _⟩
  · have h3' : (c == 3) = false := by simpa using h3
    by_cases h0 : (c != 0) = true
    · have e : v = (c == s) := by rw [← hv, h3', h0]; rfl
      obtain ⟨x, hx⟩ : ∃ x : Bool, (c == s) = x := ⟨_, rfl⟩
      rw [hx] at e
      subst e
      clear hv h3
      go_enter Tryz.func50, Tryz.ntmps50
      go_wp2_with fail
      go_ret
      exact ⟨rfl, Below.refl _ _⟩
    · have h0' : (c != 0) = false := by simpa using h0
      have e : v = false := by rw [← hv, h3', h0']; rfl
      subst e
      clear hv h3 h0
      go_enter Tryz.func50, Tryz.ntmps50
      go_wp2_with fail
      go_ret
      exact ⟨rfl, Below.refl _ _⟩

theorem refbottom_any (A : Option Addr) (n c : Nat) (fs : List Fl) (cl : Int) (w : World) (hn : n = fs.length) (hlen : n ≤ 1000000) (hx : Floats w w.heap.size A fs) :
    Calls Tryz.prog 28 #[.slice A n c, .int .i64 cl] w fun e w' => e = .returned (.tuple #[.int .i64 (botS fs cl).1, .bool (botS fs cl).2]) ∧ Below w.heap.size w w' := by
  have HX := Lib.hid hx
  have HN := Lib.hid hn
  clear hx hn
  go_enter Tryz.func28, Tryz.ntmps28
  go_wp2_with fail
  go_loopw [6, 7, 8] (fun s t i wr => ∃ k : Nat, k ≤ n ∧ i = .int .i64 (k : Int) ∧ s = .int .i64 (botS (fs.take k) cl).1 ∧ t = .bool (botS (fs.take k) cl).2 ∧ Hid (Below w.heap.size w wr)) (fun _ _ i _ => n - (intOf i).toNat)
  case atStart => exact ⟨0, Nat.zero_le _, rfl, rfl, rfl, Lib.hid (Below.refl _ _)⟩
  case round =>
    obtain ⟨k, hk, rfl, rfl, rfl, H⟩ := hrel
    obtain ⟨lv, ov, hlv⟩ : ∃ lv ov, botS (fs.take k) cl = (lv, ov) := ⟨_, _, rfl⟩
    rw [hlv]
    have HLV := Lib.hid hlv
    clear hlv
    by_cases hlt : k < n
    · have hki : (k : Int) < (n : Int) := by omega
      have hk0 : ¬ (k : Int) < 0 := by omega
      obtain ⟨f, hf⟩ : ∃ f, fs[k]? = some f := ⟨_, List.getElem?_eq_getElem (by rw [← HN.out]; exact hlt)⟩
      obtain ⟨ad, rfl, hab, d0, d1, d2, d3, d4⟩ := (HX.out.thru H.out) k f hf
      have hbl : (ad.add (k * 5)).block < wr.heap.size := by rw [block_of_add]; exact hab
      have HA0 := Lib.hid (fun w' (j : Below wr.heap.size wr w') => (AtF.below (f := f) ⟨d0, d1, d2, d3, d4⟩ hbl j))
      have HN1 := Lib.hid (botS_take hf cl)
      obtain ⟨cv, hcv⟩ : ∃ cv, clrB cl f.s = cv := ⟨_, rfl⟩
      have HCV := Lib.hid hcv
      have HCT := Lib.hid (fun w => cleared_is cl f.s cv hcv w)
      clear hf hcv
      cases cv
      · have HL := Lib.hid (show botS (fs.take (k + 1)) cl = (lv, ov) by rw [HN1.out, HLV.out]; unfold botStep; rw [HCV.out]; rfl)
        clear HLV HN1
        go_wp2_with (first
          | (go_at_call 50; refine (HCT.out _).mono ?_; rintro e w1 ⟨rfl, k1⟩; obtain ⟨d0, d1, d2, d3, d4⟩ := HA0.out _ k1; have K1 := Lib.hid k1; clear k1))
        go_roundw
        case rel => exact ⟨k + 1, by omega, by go_num, by rw [HL.out], by rw [HL.out], Lib.hid (thru H.out K1.out)⟩
        case measure => simp [intOf]; omega
      · cases ov
        · have HL := Lib.hid (show botS (fs.take (k + 1)) cl = (f.b, true) by rw [HN1.out, HLV.out]; unfold botStep; rw [HCV.out]; rfl)
          clear HLV HN1
          go_wp2_with (first
            | (go_at_call 50; refine (HCT.out _).mono ?_; rintro e w1 ⟨rfl, k1⟩; obtain ⟨d0, d1, d2, d3, d4⟩ := HA0.out _ k1; have K1 := Lib.hid k1; clear k1))
          go_roundw
          case rel => exact ⟨k + 1, by omega, by go_num, by rw [HL.out], by rw [HL.out], Lib.hid (thru H.out K1.out)⟩
          case measure => simp [intOf]; omega
        · by_cases hm : lv < f.b
          · have HL := Lib.hid (show botS (fs.take (k + 1)) cl = (f.b, true) by rw [HN1.out, HLV.out]; unfold botStep; rw [HCV.out, if_pos (by simp [hm])])
            clear HLV HN1
            go_wp2_with (first
              | (go_at_call 50; refine (HCT.out _).mono ?_; rintro e w1 ⟨rfl, k1⟩; obtain ⟨d0, d1, d2, d3, d4⟩ := HA0.out _ k1; have K1 := Lib.hid k1; clear k1))
            go_roundw
            case rel => exact ⟨k + 1, by omega, by go_num, by rw [HL.out], by rw [HL.out], Lib.hid (thru H.out K1.out)⟩
            case measure => simp [intOf]; omega
          · have HL := Lib.hid (show botS (fs.take (k + 1)) cl = (lv, true) by rw [HN1.out, HLV.out]; unfold botStep; rw [HCV.out, if_neg (by simp [hm])])
            clear HLV HN1
            go_wp2_with (first
              | (go_at_call 50; refine (HCT.out _).mono ?_; rintro e w1 ⟨rfl, k1⟩; obtain ⟨d0, d1, d2, d3, d4⟩ := HA0.out _ k1; have K1 := Lib.hid k1; clear k1))
            go_roundw
            case rel => exact ⟨k + 1, by omega, by go_num, by rw [HL.out], by rw [HL.out], Lib.hid (thru H.out K1.out)⟩
            case measure => simp [intOf]; omega
    · obtain rfl : k = n := by omega
      rw [List.take_of_length_le (by rw [← HN.out]; omega)] at HLV
      go_wp2_with fail
      exact bodyPost_ret (v := .tuple #[.int .i64 lv, .bool ov]) (by simp [results, Tryz.results28, go_sem]) rfl ⟨by rw [HLV.out], H.out⟩

end Go.Proofs.YtfomhdhiibcdfaaGreat.Space

/-! Looks as they lie in memory; which clears clear a look's sides, in the document's words. -/
namespace Go.Proofs.YtfomhdhiibcdfaaGreat.Ahead
open Go.RowKit Go.Sort Go.Proofs.YtfomhdhiibcdfaaGreat.More Go.Proofs.YtfomhdhiibcdfaaGreat.Record Go.Proofs.YtfomhdhiibcdfaaGreat.Script Go.Proofs.YtfomhdhiibcdfaaGreat.Tree Go.Proofs.YtfomhdhiibcdfaaGreat.Shelf Go.Proofs.YtfomhdhiibcdfaaGreat.Space Go.Proofs.YtfomhdhiibcdfaaGreat.Spot
set_option linter.unusedVariables false
set_option linter.unusedSimpArgs false

abbrev rlv (k : Rl) (A : Option Addr) (n c : Nat) : Value := .agg #[.int .i64 k.x.y, .slice A n c, .bool k.x.h, .bool k.x.s, .bool k.l, .bool k.r, .bool k.e]
abbrev rlrow (k : Rl) (A : Option Addr) (n c : Nat) : List Value := [.int .i64 k.x.y, .slice A n c, .bool k.x.h, .bool k.x.s, .bool k.l, .bool k.r, .bool k.e]
abbrev zeroRl : Rl := ⟨zeroRp, false, false, false⟩
def LkAt (w : World) (b : Nat) (k : Rl) (A : Option Addr) (n c : Nat) : Prop :=
  w.cell? ⟨b, 0, none⟩ = some (.int .i64 k.x.y) ∧ w.cell? ⟨b, 1, none⟩ = some (.slice A n c) ∧ w.cell? ⟨b, 2, none⟩ = some (.bool k.x.h) ∧ w.cell? ⟨b, 3, none⟩ = some (.bool k.x.s) ∧
  w.cell? ⟨b, 4, none⟩ = some (.bool k.l) ∧ w.cell? ⟨b, 5, none⟩ = some (.bool k.r) ∧ w.cell? ⟨b, 6, none⟩ = some (.bool k.e)
theorem lkat_of {w : World} {b : Nat} {k : Rl} {A : Option Addr} {n c : Nat} (h : Lies w b (rlrow k A n c)) : LkAt w b k A n c := ⟨h.at' 0, h.at' 1, h.at' 2, h.at' 3, h.at' 4, h.at' 5, h.at' 6⟩
def LkFr (w : World) (b : Nat) : Prop :=
  w.frozen? ⟨b, 0, none⟩ = false ∧ w.frozen? ⟨b, 1, none⟩ = false ∧ w.frozen? ⟨b, 2, none⟩ = false ∧ w.frozen? ⟨b, 3, none⟩ = false ∧ w.frozen? ⟨b, 4, none⟩ = false ∧ w.frozen? ⟨b, 5, none⟩ = false ∧ w.frozen? ⟨b, 6, none⟩ = false
theorem lkfr_of {w : World} {b : Nat} {xs : List Value} (h : Lies w b xs) : LkFr w b := ⟨h.frz 0, h.frz 1, h.frz 2, h.frz 3, h.frz 4, h.frz 5, h.frz 6⟩
theorem lies_seven {w : World} {b : Nat} {a0 a1 a2 a3 a4 a5 a6 : Value} (h : Lies w b [a0, a1, a2, a3, a4, a5, a6]) (v0 v1 v2 v3 v4 v5 v6 : Value) : Lies (((((((w.setCell ⟨b, 0, none⟩ v0).setCell ⟨b, 1, none⟩ v1).setCell ⟨b, 2, none⟩ v2).setCell ⟨b, 3, none⟩ v3).setCell ⟨b, 4, none⟩ v4).setCell ⟨b, 5, none⟩ v5).setCell ⟨b, 6, none⟩ v6) b [v0, v1, v2, v3, v4, v5, v6] :=
  ((((((h.set 0 v0 (by simp)).set 1 v1 (by simp)).set 2 v2 (by simp)).set 3 v3 (by simp)).set 4 v4 (by simp)).set 5 v5 (by simp)).set 6 v6 (by simp)
theorem save_seven (w : World) (b : Nat) (v0 v1 v2 v3 v4 v5 v6 : Value) : Save (fun k => k = b) w (((((((w.setCell ⟨b, 0, none⟩ v0).setCell ⟨b, 1, none⟩ v1).setCell ⟨b, 2, none⟩ v2).setCell ⟨b, 3, none⟩ v3).setCell ⟨b, 4, none⟩ v4).setCell ⟨b, 5, none⟩ v5).setCell ⟨b, 6, none⟩ v6) :=
  ((((((Save.set b 0 v0).onto 1 v1).onto 2 v2).onto 3 v3).onto 4 v4).onto 5 v5).onto 6 v6

/-- What Into leaves: a look with a list of margins of its own. -/
def GivesI (w : World) (k : Rl) (e : Ending) (w' : World) : Prop := (∃ A n c, e = .returned (rlv k A n c) ∧ Mine w' w.heap.size A n c k.x.ms) ∧ Below w.heap.size w w'
/-- What Past leaves: a look with such a list, or with the one that came in. -/
def GivesP (w : World) (A : Option Addr) (n c : Nat) (ms : List Int) (k : Rl) (e : Ending) (w' : World) : Prop := (∃ A' n' c', e = .returned (rlv k A' n' c') ∧ ((A' = A ∧ n' = n ∧ c' = c ∧ k.x.ms = ms) ∨ Mine w' w.heap.size A' n' c' k.x.ms)) ∧ Below w.heap.size w w'

/-- The boxes of a tree, as far as looks look at them. -/
structure Wood (bs : List Bx) : Prop where
  len : bs.length ≤ 100
  marg : Marg bs
  kind : ∀ i, i < bs.length → 1 ≤ (bs.getD i noB).k ∧ (bs.getD i noB).k ≤ 5
  clr : ∀ i, i < bs.length → 0 ≤ (bs.getD i noB).c ∧ (bs.getD i noB).c ≤ 3
  deep : ∀ k, k < bs.length → 0 ≤ dOf bs k ∧ dOf bs k ≤ 256
  hei : ∀ i, i < bs.length → -1 ≤ (bs.getD i noB).h
  side : ∀ i, i < bs.length → (bs.getD i noB).k = 2 → (bs.getD i noB).s = 1 ∨ (bs.getD i noB).s = 2
  shape : 0 < bs.length → Shape (dOf bs) bs.length

set_option maxHeartbeats 800000 in
theorem hrclears_any (cl : Int) (hc : 0 ≤ cl ∧ cl ≤ 3) (k : Rl) (A : Option Addr) (n c : Nat) (w : World) :
    Calls Tryz.prog 27 #[.int .i64 cl, rlv k A n c] w fun e w' => e = .returned (.bool (clrL cl k.l k.r)) ∧ Below w.heap.size w w' := by
  obtain ⟨⟨y, ms, h, s⟩, l, r, e⟩ := k
  have h4 : cl = 0 ∨ cl = 1 ∨ cl = 2 ∨ cl = 3 := by omega
  dsimp only
  rcases h4 with rfl | rfl | rfl | rfl <;> cases l <;> cases r
  all_goals
    go_enter Tryz.func27, Tryz.ntmps27
    go_wp2_with fail
    go_ret
    exact ⟨rfl, ba1 _ _⟩

theorem hrclears_is {cl : Int} (hc : 0 ≤ cl ∧ cl ≤ 3) {k : Rl} {v : Bool} (hv : clrL cl k.l k.r = v) (A : Option Addr) (n c : Nat) (w : World) :
    Calls Tryz.prog 27 #[.int .i64 cl, rlv k A n c] w fun e w' => e = .returned (.bool v) ∧ Below w.heap.size w w' := by
  subst hv; exact hrclears_any cl hc k A n c w

end Go.Proofs.YtfomhdhiibcdfaaGreat.Ahead
