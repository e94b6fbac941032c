/- What is asked of the program's spaces, whatever they look like; the law's Sides and Begin. -/
import Derived.Test.YtpfcefflcmeobaaSpacePRefs
import Derived.Test.YtpfcefflcmeobaaShelfSOk
import Derived.Test.YtpfcefflcmeobaaShelfSCut
import Derived.Test.YtpfcefflcmeobaaShelfSOrd
namespace Go.Proofs.Ytpfcefflcmeobaa.Space
open Go.RowKit Go.Sort Go.Proofs.Ytpfcefflcmeobaa.Rect Go.Proofs.Ytpfcefflcmeobaa.More Go.Proofs.Ytpfcefflcmeobaa.Shelf
set_option linter.unusedVariables false

/-- Where something is asked: from a row on, the tops below it. -/
def topsD (fs : List Fl) (y : Int) : List Int := y :: ((shelvesD fs).filter (fun x => decide (y < x.1))).map (·.1)

/-- Which one is the first where it is so; the last one, if none is. -/
def stopN (q : Int → Bool) : List Int → Nat
  | [] => 0
  | [_] => 0
  | x :: y :: xs => if q x then 0 else stopN q (y :: xs) + 1

theorem stopN_lt (q : Int → Bool) : ∀ xs : List Int, xs ≠ [] → stopN q xs < xs.length
  | [], h => absurd rfl h
  | [_], _ => by simp [stopN]
  | x :: y :: xs, _ => by
    have := stopN_lt q (y :: xs) (by simp)
    unfold stopN
    split <;> simp at * <;> omega

theorem stopN_not (q : Int → Bool) : ∀ (xs : List Int) (i : Nat) (z : Int), i < stopN q xs → xs[i]? = some z → q z = false
  | [], i, z, h, _ => by simp [stopN] at h
  | [_], i, z, h, _ => by simp [stopN] at h
  | x :: y :: xs, i, z, h, hz => by
    unfold stopN at h
    by_cases g : q x = true
    · rw [if_pos g] at h; omega
    · rw [if_neg g] at h
      cases i with
      | zero => simp at hz; rw [← hz]; simpa using g
      | succ i => exact stopN_not q (y :: xs) i z (by omega) (by simpa using hz)

theorem stopN_yes (q : Int → Bool) : ∀ (xs : List Int) (z : Int), xs[stopN q xs]? = some z → q z = true ∨ stopN q xs + 1 = xs.length
  | [], z, h => by simp at h
  | [_], z, h => .inr rfl
  | x :: y :: xs, z, h => by
    unfold stopN at h ⊢
    by_cases g : q x = true
    · rw [if_pos g] at h; left; simp at h; rw [← h]; exact g
    · rw [if_neg g] at h ⊢
      rcases stopN_yes q (y :: xs) z (by simpa using h) with e | e
      · exact .inl e
      · right; rw [e]; rfl

/-- Where it is; and who has been asked. -/
def atD (q : Int → Bool) (ts : List Int) : Int := ts.getD (stopN q ts) 0
def askL (q : Int → Bool) (ts : List Int) : List Int := ts.take (stopN q ts + 1)

/-- The contracts of the program's spaces: at p lies one, in the blocks F, that stands for these floats. -/
structure SpaceOk (S : World → (Nat → Prop) → Addr → List Fl → Prop) : Prop where
  keep : ∀ w w' F G p fs, S w F p fs → But G w w' → (∀ k, F k → ¬ G k) → S w' F p fs
  lt : ∀ w F p fs, S w F p fs → ∀ k, F k → k < w.heap.size
  new : ∀ w, Calls Try.prog 30 #[] w fun r w' => (∃ p F, r = .returned (.pointer (some p)) ∧ S w' F p [] ∧ ∀ k, F k → w.heap.size ≤ k) ∧ Below w.heap.size w w'
  put : ∀ w F p fs f, S w F p fs → fs.length < 1000 → fs.all nearF = true → nearF f = true → f.s = 1 ∨ f.s = 2 → Calls Try.prog 31 #[.pointer (some p), .int .i64 f.s, .agg #[.int .i64 f.l, .int .i64 f.t, .int .i64 f.r, .int .i64 f.b]] w fun r w' => (∃ v, r = .returned v) ∧ (∃ F', S w' F' p (fs ++ [f]) ∧ ∀ k, F' k → F k ∨ w.heap.size ≤ k) ∧ But F w w'
  last : ∀ w F p fs, S w F p fs → fs.all nearF = true → Calls Try.prog 12 #[.pointer (some p)] w fun r w' => r = .returned (.tuple #[.int .i64 (lastD fs), .bool (decide (0 < fs.length))]) ∧ Below w.heap.size w w'
  bottom : ∀ w F p fs (c : Int), S w F p fs → fs.all nearF = true → 0 ≤ c ∧ c ≤ 3 → Calls Try.prog 14 #[.pointer (some p), .int .i64 c] w fun r w' => r = .returned (.tuple #[.int .i64 (botS fs c).1, .bool (botS fs c).2]) ∧ Below w.heap.size w w'
  clear : ∀ w F p fs (c y : Int), S w F p fs → fs.all nearF = true → 0 ≤ c ∧ c ≤ 3 → Calls Try.prog 16 #[.pointer (some p), .int .i64 c, .int .i64 y] w fun r w' => r = .returned (.int .i64 (clearS fs c y)) ∧ Below w.heap.size w w'
  floats : ∀ w F p fs, S w F p fs → fs.all nearF = true → Calls Try.prog 18 #[.pointer (some p)] w fun r w' => (∃ A c, r = .returned (.slice A fs.length c) ∧ MineE encF 41 w' w.heap.size A fs.length c fs) ∧ Below w.heap.size w w'
  rows : ∀ (y h : Int) w, -2305843009213693952 ≤ y ∧ y ≤ 2305843009213693952 → h ≤ 2305843009213693952 → Calls Try.prog 20 #[.int .i64 y, .int .i64 h] w fun r w' => r = .returned (.agg #[.int .i64 y, .int .i64 (y + highZ h)]) ∧ Below w.heap.size w w'
  bounds : ∀ w F p fs (a z : Int), S w F p fs → fs.all nearF = true → -4503599627370496 ≤ a → z ≤ 4611686018427387904 → Calls Try.prog 24 #[.pointer (some p), .agg #[.int .i64 a, .int .i64 z]] w fun r w' => r = .returned (.agg #[.int .i64 (bandL fs a z), .int .i64 (bandR fs a z)]) ∧ Below w.heap.size w w'
  free : ∀ w F p fs (x y a z : Int), S w F p fs → fs.all nearF = true → -4503599627370496 ≤ a → z ≤ 4611686018427387904 → Calls Try.prog 25 #[.pointer (some p), .agg #[.int .i64 x, .int .i64 y], .agg #[.int .i64 a, .int .i64 z]] w fun r w' => r = .returned (.agg #[.int .i64 (max x (bandL fs a z)), .int .i64 (min y (bandR fs a z))]) ∧ Below w.heap.size w w'
  first : ∀ w F p fs (y : Int) (f : Nat) (cb : Array Value) (q : Int → Bool) (R : World → List Int → Prop), S w F p fs → fs.all nearF = true → inS y = true → (∀ args w, (callFunc f args).run Try.prog w = .ok (.enter f args) w) → R w [] → (∀ w1 w2 pre, R w1 pre → Below w1.heap.size w1 w2 → R w2 pre) → (∀ w1 pre z, S w1 F p fs → R w1 pre → inS z = true → pre.length ≤ 3000 → Calls Try.prog f (#[.int .i64 z] ++ cb) w1 fun e w' => e = .returned (.bool (q z)) ∧ S w' F p fs ∧ R w' (pre ++ [z])) → Calls Try.prog 27 #[.pointer (some p), .int .i64 y, .func (.func f) #[] cb] w fun r w' => r = .returned (.int .i64 (atD q (topsD fs y))) ∧ S w' F p fs ∧ R w' (askL q (topsD fs y))

/-- Is a float at the left or at the right? -/
def sideF (f : Fl) : Bool := f.s == 1 || f.s == 2

theorem sideF_iff {f : Fl} : sideF f = true ↔ f.s = 1 ∨ f.s = 2 := by unfold sideF; simp

theorem sides_take {fs : List Fl} {k : Nat} {f : Fl} (h : fs[k]? = some f) (ha : (fs.take k).all sideF = true) (hf : sideF f = true) : (fs.take (k + 1)).all sideF = true := by
  rw [List.take_add_one, h, List.all_append, ha]
  simp [hf]
theorem sides_not {fs : List Fl} {k : Nat} {f : Fl} (h : fs[k]? = some f) (hf : sideF f = false) : fs.all sideF = false := by
  rw [List.all_eq_false]
  exact ⟨f, List.mem_of_getElem? h, by rw [hf]; simp⟩

set_option maxRecDepth 100000 in
set_option maxHeartbeats 600000 in
theorem sides_is (A : Option Addr) (n c : Nat) (fs : List Fl) (v : Bool) (w : World) (hn : n = fs.length) (hlen : n ≤ 1000000) (hx : Floats w w.heap.size A fs) (hv : fs.all sideF = v) :
    Calls Try.prog 10 #[.slice A n c] w fun e w' => e = .returned (.bool v) ∧ Below w.heap.size w w' := by
  have HX := Lib.hid hx
  have HN := Lib.hid hn
  have HV := Lib.hid hv
  clear hx hn hv
  go_enter Try.func10, Try.ntmps10
  go_wp2_with fail
  go_loopw [7] (fun i wr => ∃ k : Nat, k ≤ n ∧ i = .int .i64 (k : Int) ∧ Hid ((fs.take k).all sideF = true ∧ Below w.heap.size w wr)) (fun i _ => n - (intOf i).toNat)
  case atStart => exact ⟨0, Nat.zero_le _, rfl, Lib.hid ⟨by simp, Below.refl _ _⟩⟩
  case round =>
    obtain ⟨k, hk, rfl, H⟩ := hrel
    by_cases hlt : k < n
    · have hki : (k : Int) < (n : Int) := by omega
      have hk0 : ¬ (k : Int) < 0 := by omega
      obtain ⟨f, hf⟩ : ∃ f, fs[k]? = some f := ⟨_, List.getElem?_eq_getElem (by rw [← HN.out]; exact hlt)⟩
      obtain ⟨ad, rfl, hab, d0, d1, d2, d3, d4⟩ := (HX.out.thru H.out.2) k f hf
      have HK := Lib.hid hf
      clear hf
      by_cases h1 : f.s = 1
      · have hb : (f.s != 1) = false := by simp [h1]
        have HS := Lib.hid (show sideF f = true from sideF_iff.2 (.inl h1))
        clear h1
        go_wp2_with fail
        go_roundw
        case rel => exact ⟨k + 1, by omega, by go_num, Lib.hid ⟨sides_take HK.out H.out.1 HS.out, thru H.out.2 (ba1 wr _)⟩⟩
        case measure => simp [intOf]; omega
      · have hb : (f.s != 1) = true := by simp [h1]
        by_cases h2 : f.s = 2
        · have hb2 : (f.s != 2) = false := by simp [h2]
          have HS := Lib.hid (show sideF f = true from sideF_iff.2 (.inr h2))
          clear h1 h2
          go_wp2_with fail
          go_roundw
          case rel => exact ⟨k + 1, by omega, by go_num, Lib.hid ⟨sides_take HK.out H.out.1 HS.out, thru H.out.2 (ba1 wr _)⟩⟩
          case measure => simp [intOf]; omega
        · have hb2 : (f.s != 2) = true := by simp [h2]
          have hvf : v = false := by rw [← HV.out]; exact sides_not HK.out (by unfold sideF; simp [h1, h2])
          subst hvf
          clear h1 h2
          go_wp2_with fail
          go_ret
          exact ⟨rfl, thru H.out.2 (ba1 wr _)⟩
    · obtain rfl : k = n := by omega
      have hall : v = true := by rw [← HV.out]; have := H.out.1; rwa [List.take_of_length_le (by rw [← HN.out]; omega)] at this
      subst hall
      go_wp2_with fail
      go_ret
      exact ⟨rfl, H.out.2⟩

section
variable {S : World → (Nat → Prop) → Addr → List Fl → Prop}

set_option maxRecDepth 100000 in
set_option maxHeartbeats 1000000 in
theorem pbegin_any (hO : SpaceOk S) (A : Option Addr) (n c : Nat) (fs : List Fl) (w : World) (hn : n = fs.length) (hlen : n ≤ 1000) (hx : Floats w w.heap.size A fs) (hs : fs.all nearF = true) (hsd : fs.all sideF = true) :
    Calls Try.prog 11 #[.slice A n c] w fun r w' => (∃ p F, r = .returned (.pointer (some p)) ∧ S w' F p fs ∧ ∀ k, F k → w.heap.size ≤ k) ∧ Below w.heap.size w w' := by
  have HX := Lib.hid hx
  have HN := Lib.hid hn
  have HS := Lib.hid hs
  have HSD := Lib.hid hsd
  have HNew := Lib.hid (hO.new w)
  clear hx hn hs hsd
  go_enter Try.func11, Try.ntmps11
  go_wp2_with (first
    | (go_at_call 30; refine HNew.out.mono ?_; rintro e w1 ⟨⟨p, F0, rfl, hL, hF⟩, k1⟩; have HL := Lib.hid (⟨hL, hF, k1⟩ : S w1 F0 p [] ∧ (∀ k, F0 k → w.heap.size ≤ k) ∧ Below w.heap.size w w1); clear hL hF k1))
  go_loopw [11] (fun i wr => ∃ k : Nat, k ≤ n ∧ i = .int .i64 (k : Int) ∧ Hid (∃ F, S wr F p (fs.take k) ∧ (∀ k, F k → w.heap.size ≤ k) ∧ Below w.heap.size w wr)) (fun i _ => n - (intOf i).toNat)
  case atStart => exact ⟨0, Nat.zero_le _, rfl, Lib.hid ⟨F0, by simpa using HL.out.1, HL.out.2⟩⟩
  case round =>
    clear HL
    obtain ⟨k, hk, rfl, H0⟩ := hrel
    obtain ⟨F, hF1, hF2, hF3⟩ := H0.out
    have H := Lib.hid (⟨hF1, hF2, hF3⟩ : S wr F p (fs.take k) ∧ (∀ k, F k → w.heap.size ≤ k) ∧ Below w.heap.size w wr)
    clear H0 hF1 hF2 hF3
    by_cases hlt : k < n
    · have hki : (k : Int) < (n : Int) := by omega
      have hk0 : ¬ (k : Int) < 0 := by omega
      obtain ⟨f, hf⟩ : ∃ f, fs[k]? = some f := ⟨_, List.getElem?_eq_getElem (by rw [← HN.out]; exact hlt)⟩
      obtain ⟨ad, rfl, hab, d0, d1, d2, d3, d4⟩ := (HX.out.thru H.out.2.2) k f hf
      have HK := Lib.hid hf
      have HFN := Lib.hid (List.all_eq_true.1 HS.out f (List.mem_of_getElem? hf))
      have HFS := Lib.hid (sideF_iff.1 (List.all_eq_true.1 HSD.out f (List.mem_of_getElem? hf)))
      have HTA := Lib.hid (show (fs.take k).all nearF = true from List.all_eq_true.2 fun g hg => List.all_eq_true.1 HS.out g (List.mem_of_mem_take hg))
      clear hf
      go_upto_region 7 with fail
      generalize hW : World.alloc wr _ = W
      obtain ⟨b5, hb⟩ : ∃ b5, wr.heap.size = b5 := ⟨_, rfl⟩
      have hbW : Below wr.heap.size wr W := by rw [← hW]; exact ba1 _ _
      have e0 : W.cell? ⟨b5, 0, none⟩ = some (.int .i64 f.s) := by rw [← hW, ← hb]; simp [go_sem]
      have e1 : W.cell? ⟨b5, 1, none⟩ = some (.int .i64 f.l) := by rw [← hW, ← hb]; simp [go_sem]
      have e2 : W.cell? ⟨b5, 2, none⟩ = some (.int .i64 f.t) := by rw [← hW, ← hb]; simp [go_sem]
      have e3 : W.cell? ⟨b5, 3, none⟩ = some (.int .i64 f.r) := by rw [← hW, ← hb]; simp [go_sem]
      have e4 : W.cell? ⟨b5, 4, none⟩ = some (.int .i64 f.b) := by rw [← hW, ← hb]; simp [go_sem]
      have hb5 : b5 < W.heap.size := block_lt_of_cell e0
      have LW := Lib.hid (hO.keep _ _ _ (fun _ => False) _ _ H.out.1 (But.of_below hbW) (fun _ _ h => h))
      have KW := Lib.hid (thru H.out.2.2 hbW)
      rw [hb]
      clear hW hb d0 d1 d2 d3 d4 hbW
      refine Hold.wp_region_hold [.val (.pointer (some p)), .val (.pointer (some ⟨b5, 0, none⟩)), .val (.int .i64 f.s), .val (.pointer (some ⟨b5, 1, none⟩)), .val (.agg #[.int .i64 f.l, .int .i64 f.t, .int .i64 f.r, .int .i64 f.b]), .val (.agg #[.int .i64 f.l, .int .i64 f.t, .int .i64 f.r, .int .i64 f.b])] (by kernel_rfl) (by kernel_rfl) (by kernel_rfl) ?_ ?_
      · simp only [Hold.fill, Hold.Leave.value]
        refine ⟨?_, ?_, ?_, ?_, ?_, ?_, trivial⟩
        · intro gg w' hw hk
          go_simp
          exact ⟨rfl, rfl⟩
        · intro gg w' hw hk
          go_simp
          exact ⟨rfl, rfl⟩
        · intro gg w' hw hk
          have q0 := (hw.cell (p := ⟨b5, 0, none⟩) hb5).trans e0
          go_simp
          exact ⟨rfl, rfl⟩
        · intro gg w' hw hk
          go_simp
          exact ⟨rfl, rfl⟩
        · intro gg w' hw hk
          have q1 := (hw.cell (p := ⟨b5, 1, none⟩) hb5).trans e1
          have q2 := (hw.cell (p := ⟨b5, 2, none⟩) hb5).trans e2
          have q3 := (hw.cell (p := ⟨b5, 3, none⟩) hb5).trans e3
          have q4 := (hw.cell (p := ⟨b5, 4, none⟩) hb5).trans e4
          go_simp
          exact ⟨rfl, rfl⟩
        · intro gg w' hw hk
          go_simp
          exact Hold.stays_call (of_any _ _ _ _ w')
      intro gg w2 k2 hgg
      clear hgg
      simp only [Hold.fill, Hold.Leave.value, List.length_cons, List.length_nil, List.drop_succ_cons, List.drop_zero]
      have LZ := Lib.hid (hO.keep _ _ _ (fun _ => False) _ _ LW.out (But.of_below k2) (fun _ _ h => h))
      have KZ := Lib.hid (thru KW.out k2)
      have HADD := Lib.hid (hO.put w2 F p (fs.take k) f LZ.out (by rw [List.length_take]; omega) HTA.out HFN.out HFS.out)
      clear e0 e1 e2 e3 e4 k2
      go_wp2_with (first
        | (go_at_call 31; refine HADD.out.mono ?_; rintro e w3 ⟨⟨v, rfl⟩, ⟨F3, hL3, hF3⟩, k3⟩; have HL3 := Lib.hid (⟨F3, hL3, (fun k q => (hF3 k q).elim (H.out.2.1 k) fun q => by have := KZ.out.size; omega), KZ.out.trans (k3.below KZ.out.size H.out.2.1)⟩ : ∃ F', S w3 F' p (fs.take k ++ [f]) ∧ (∀ k, F' k → w.heap.size ≤ k) ∧ Below w.heap.size w w3); clear hL3 hF3 k3))
      go_roundw
      case rel => exact ⟨k + 1, by omega, by go_num, Lib.hid (by rw [List.take_add_one, HK.out]; exact HL3.out)⟩
      case measure => simp [intOf]; omega
    · obtain rfl : k = n := by omega
      have HE := Lib.hid (show S wr F p fs by have := H.out.1; rwa [List.take_of_length_le (by rw [← HN.out]; omega)] at this)
      go_wp2_with fail
      go_ret
      exact ⟨⟨p, F, rfl, HE.out, H.out.2.1⟩, H.out.2.2⟩

end

end Go.Proofs.Ytpfcefflcmeobaa.Space
