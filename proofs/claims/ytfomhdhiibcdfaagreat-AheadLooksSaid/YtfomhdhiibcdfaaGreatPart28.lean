/- Texts of this proof that follow each other, in one file. -/
import Derived.Test.YtfomhdhiibcdfaaGreatPart27
import Derived.Test.YtfomhdhiibcdfaaGreatPart23
import Derived.Test.YtfomhdhiibcdfaaGreatPart5
import Derived.Test.YtfomhdhiibcdfaaGreatPart18
/-! Lists of floats of one's own; what is appended of a list that came in. -/
namespace Go.Proofs.YtfomhdhiibcdfaaGreat.Shelf
open Go.RowKit Go.Sort Go.Proofs.YtfomhdhiibcdfaaGreat.Rect Go.Proofs.YtfomhdhiibcdfaaGreat.More
set_option linter.unusedVariables false

def encF : Enc Fl := ⟨5, cellsFl, fun _ => rfl, fun x u h => by
  simp only [cellsFl, List.mem_cons, List.not_mem_nil, or_false] at h
  rcases h with h | h | h | h | h <;> (subst h; rfl), by omega⟩

theorem infoF : InfoE encF 57 23 40 :=
  ⟨Tryz.underlying23, .agg #[.int .i64 0, .int .i64 0, .int .i64 0, .int .i64 0, .int .i64 0], rfl, by kernel_rfl⟩

theorem step_append_E {α : Type} {E : Enc α} {T TS : TypeId} {bytes : Nat} (hb2 : bytes ≤ 10000) (hT : InfoE E T TS bytes) (w : World) {ops : Array Oper} {o : Oper} {a : Act} {K : Act → World → Prop} {Q : Exit → Act → World → Prop} {F : Prop} (hgd : o.guard = none) (s x : Operand)
    (ho : o.op = .call { callee := .builtin .append, args := #[s, x], argTypes := #[TS, TS] })
    (B : Nat) (A : Option Addr) (n c : Nat) (xs : List α) (hs : a.eval s = .slice A n c) (hown : MineE E T w B A n c xs) (A2 : Option Addr) (m c2 : Nat) (ys : List α) (hx : a.eval x = .slice A2 m c2) (hsrc : SrcE E w A2 m c2 ys)
    (hlen : n + m ≤ 1000000) (hB : B ≤ w.heap.size)
    (h : ∀ A' c' w', AppendedE E T w B A n xs ys m A' c' w' → K (a.put o.dst (.slice A' (n + m) c')) w') :
    if Region.wanted o (yielded ops a.tmps) = true then Oper.wp Tryz.prog o a w K Q else F := by
  have hw : Region.wanted o (yielded ops a.tmps) = true := by simp [Region.wanted, hgd]
  rw [if_pos hw]
  obtain ⟨A', c', w', hr, h2⟩ := run_append_E E hb2 hT o.type w B A n c xs hown A2 m c2 ys hsrc hlen hB
  unfold Oper.wp execOp
  simp only [ho, resolve, invoke, builtin, Sem.run_bind, Sem.run_pure, Result.andThen_ok, List.map_toArray, List.map_cons, List.map_nil, hs, hx, hr]
  exact h A' c' w' h2

theorem floats_cell {w : World} {B : Nat} {ad : Addr} {fs : List Fl} (h : Floats w B (some ad) fs) (j : Nat) (u : Value) (hu : (fs.flatMap encF.cells)[j]? = some u) : w.cell? (ad.add j) = some u := by
  have hlt := (List.getElem?_eq_some_iff.1 hu).1
  rw [encF.flat_len] at hlt
  have h5 : encF.size = 5 := rfl
  rw [h5] at hlt
  obtain ⟨f, hf⟩ : ∃ f, fs[j / 5]? = some f := ⟨_, List.getElem?_eq_getElem (by omega)⟩
  have hr : j % 5 < 5 := Nat.mod_lt _ (by omega)
  have h1 := encF.flat_at fs (j / 5) f hf (j % 5) hr
  rw [h5, Nat.mul_comm, Nat.div_add_mod, hu] at h1
  obtain ⟨ad', e, hb, c0, c1, c2, c3, c4⟩ := h (j / 5) f hf
  injection e with e
  subst e
  have hj : j = j / 5 * 5 + j % 5 := by omega
  generalize j / 5 = q at *
  generalize j % 5 = r at *
  subst hj
  have hadd : ∀ i, 0 < i → ad.add (q * 5 + i) = ⟨(ad.add (q * 5)).block, (ad.add (q * 5)).off + i, none⟩ := fun i hi => by
    rw [← Addr.add_add]
    obtain ⟨i', rfl⟩ : ∃ i', i = i' + 1 := ⟨i - 1, by omega⟩
    simp [Addr.add]
  match r, hr with
  | 0, _ => rw [Nat.add_zero, c0]; exact h1.symm
  | 1, _ => rw [hadd 1 (by omega), c1]; exact h1.symm
  | 2, _ => rw [hadd 2 (by omega), c2]; exact h1.symm
  | 3, _ => rw [hadd 3 (by omega), c3]; exact h1.symm
  | 4, _ => rw [hadd 4 (by omega), c4]; exact h1.symm

theorem src_front {w : World} {B : Nat} {ad : Addr} {fs : List Fl} {n c k : Nat} (h : Floats w B (some ad) fs) (hn : n = fs.length) (hk : k ≤ n) : SrcE encF w (some ad) k c (fs.take k) := by
  refine ⟨by rw [List.length_take]; omega, fun e => (by cases e), fun j u hu => ⟨ad, rfl, floats_cell h j u ?_⟩⟩
  have e : (fs.flatMap encF.cells) = (fs.take k).flatMap encF.cells ++ (fs.drop k).flatMap encF.cells := by rw [← List.flatMap_append, List.take_append_drop]
  rw [e, List.getElem?_append_left (List.getElem?_eq_some_iff.1 hu).1]
  exact hu

theorem src_back {w : World} {B : Nat} {ad : Addr} {fs : List Fl} {n c k : Nat} (h : Floats w B (some ad) fs) (hn : n = fs.length) (hk : k ≤ n) (hc : n ≤ c) {A1 : Addr} (hA1 : (if c = k then ad else ad.add (k * 5)) = A1) : SrcE encF w (some A1) (n - k) (c - k) (fs.drop k) := by
  refine ⟨by rw [List.length_drop]; omega, fun e => (by cases e), fun j u hu => ⟨A1, rfl, ?_⟩⟩
  have hlt := (List.getElem?_eq_some_iff.1 hu).1
  rw [encF.flat_len, List.length_drop] at hlt
  have h5 : encF.size = 5 := rfl
  rw [h5] at hlt
  rw [← hA1, if_neg (by omega), Addr.add_add]
  refine floats_cell h _ u ?_
  have e : (fs.flatMap encF.cells) = (fs.take k).flatMap encF.cells ++ (fs.drop k).flatMap encF.cells := by rw [← List.flatMap_append, List.take_append_drop]
  have hl : ((fs.take k).flatMap encF.cells).length = k * 5 := by rw [encF.flat_len, List.length_take, Nat.min_eq_left (by omega)]; rfl
  rw [e, List.getElem?_append_right (by omega), hl, Nat.add_sub_cancel_left]
  exact hu

theorem floats_mine {w : World} {B : Nat} {A : Option Addr} {n c : Nat} {fs : List Fl} (h : MineE encF 57 w B A n c fs) : Floats w w.heap.size A fs := fun k f hk => by
  have hn : 0 < n := by have := MineE.len h; have := (List.getElem?_eq_some_iff.1 hk).1; omega
  obtain ⟨g, rfl, -, hg, -, -⟩ := MineE.form h hn
  refine ⟨_, rfl, hg, atF_of fun j v hv => ?_⟩
  have hj : j < 5 := (List.getElem?_eq_some_iff.1 hv).1
  rw [Addr.add_add, Addr.add_lit, Nat.zero_add]
  exact (MineE.at h k f hk j hj).trans hv

theorem floats_take {w : World} {B : Nat} {A : Option Addr} {fs : List Fl} (h : Floats w B A fs) (k : Nat) : Floats w B A (fs.take k) := fun i f hi => by
  rw [List.getElem?_take] at hi
  split at hi
  · exact h i f hi
  · cases hi

end Go.Proofs.YtfomhdhiibcdfaaGreat.Shelf

/-! What is asked of the program's spaces, whatever they look like; the law's Sides and Begin. -/
namespace Go.Proofs.YtfomhdhiibcdfaaGreat.Space
open Go.RowKit Go.Sort Go.Proofs.YtfomhdhiibcdfaaGreat.Rect Go.Proofs.YtfomhdhiibcdfaaGreat.More Go.Proofs.YtfomhdhiibcdfaaGreat.Shelf
set_option linter.unusedVariables false

/-- Where something is asked: from a row on, the tops below it. -/
def topsD (fs : List Fl) (y : Int) : List Int := y :: ((shelvesD fs).filter (fun x => decide (y < x.1))).map (·.1)

/-- Which one is the first where it is so; the last one, if none is. -/
def stopN (q : Int → Bool) : List Int → Nat
  | [] => 0
  | [_] => 0
  | x :: y :: xs => if q x then 0 else stopN q (y :: xs) + 1

theorem stopN_lt (q : Int → Bool) : ∀ xs : List Int, xs ≠ [] → stopN q xs < xs.length
  | [], h => absurd rfl h
  | [_], _ => by simp [stopN]
  | x :: y :: xs, _ => by
    have := stopN_lt q (y :: xs) (by simp)
    unfold stopN
    split <;> simp at * <;> omega

theorem stopN_not (q : Int → Bool) : ∀ (xs : List Int) (i : Nat) (z : Int), i < stopN q xs → xs[i]? = some z → q z = false
  | [], i, z, h, _ => by simp [stopN] at h
  | [_], i, z, h, _ => by simp [stopN] at h
  | x :: y :: xs, i, z, h, hz => by
    unfold stopN at h
    by_cases g : q x = true
    · rw [if_pos g] at h; omega
    · rw [if_neg g] at h
      cases i with
      | zero => simp at hz; rw [← hz]; simpa using g
      | succ i => exact stopN_not q (y :: xs) i z (by omega) (by simpa using hz)

theorem stopN_yes (q : Int → Bool) : ∀ (xs : List Int) (z : Int), xs[stopN q xs]? = some z → q z = true ∨ stopN q xs + 1 = xs.length
  | [], z, h => by simp at h
  | [_], z, h => .inr rfl
  | x :: y :: xs, z, h => by
    unfold stopN at h ⊢
    by_cases g : q x = true
    · rw [if_pos g] at h; left; simp at h; rw [← h]; exact g
    · rw [if_neg g] at h ⊢
      rcases stopN_yes q (y :: xs) z (by simpa using h) with e | e
      · exact .inl e
      · right; rw [e]; rfl

/-- Where it is; and who has been asked. -/
def atD (q : Int → Bool) (ts : List Int) : Int := ts.getD (stopN q ts) 0
def askL (q : Int → Bool) (ts : List Int) : List Int := ts.take (stopN q ts + 1)

/-- The contracts of the program's spaces: at p lies one, in the blocks F, that stands for these floats. -/
structure SpaceOk (S : World → (Nat → Prop) → Addr → List Fl → Prop) : Prop where
  keep : ∀ w w' F G p fs, S w F p fs → But G w w' → (∀ k, F k → ¬ G k) → S w' F p fs
  lt : ∀ w F p fs, S w F p fs → ∀ k, F k → k < w.heap.size
  new : ∀ w, Calls Tryz.prog 19 #[] w fun r w' => (∃ p F, r = .returned (.pointer (some p)) ∧ S w' F p [] ∧ ∀ k, F k → w.heap.size ≤ k) ∧ Below w.heap.size w w'
  put : ∀ w F p fs f, S w F p fs → fs.length < 1000 → fs.all nearF = true → nearF f = true → f.s = 1 ∨ f.s = 2 → Calls Tryz.prog 35 #[.pointer (some p), .int .i64 f.s, .agg #[.int .i64 f.l, .int .i64 f.t, .int .i64 f.r, .int .i64 f.b]] w fun r w' => (∃ v, r = .returned v) ∧ (∃ F', S w' F' p (fs ++ [f]) ∧ ∀ k, F' k → F k ∨ w.heap.size ≤ k) ∧ But F w w'
  bottom : ∀ w F p fs (c : Int), S w F p fs → fs.all nearF = true → 0 ≤ c ∧ c ≤ 3 → Calls Tryz.prog 48 #[.pointer (some p), .int .i64 c] w fun r w' => r = .returned (.tuple #[.int .i64 (botS fs c).1, .bool (botS fs c).2]) ∧ Below w.heap.size w w'
  floats : ∀ w F p fs, S w F p fs → fs.all nearF = true → Calls Tryz.prog 12 #[.pointer (some p)] w fun r w' => (∃ A c, r = .returned (.slice A fs.length c) ∧ MineE encF 84 w' w.heap.size A fs.length c fs) ∧ Below w.heap.size w w'

/-- Is a float at the left or at the right? -/
def sideF (f : Fl) : Bool := f.s == 1 || f.s == 2

theorem sideF_iff {f : Fl} : sideF f = true ↔ f.s = 1 ∨ f.s = 2 := by unfold sideF; simp

theorem sides_take {fs : List Fl} {k : Nat} {f : Fl} (h : fs[k]? = some f) (ha : (fs.take k).all sideF = true) (hf : sideF f = true) : (fs.take (k + 1)).all sideF = true := by
  rw [List.take_add_one, h, List.all_append, ha]
  simp [hf]
theorem sides_not {fs : List Fl} {k : Nat} {f : Fl} (h : fs[k]? = some f) (hf : sideF f = false) : fs.all sideF = false := by
  rw [List.all_eq_false]
  exact ⟨f, List.mem_of_getElem? h, by rw [hf]; simp⟩

set_option maxRecDepth 100000 in
set_option maxHeartbeats 600000 in
theorem sides_is (A : Option Addr) (n c : Nat) (fs : List Fl) (v : Bool) (w : World) (hn : n = fs.length) (hlen : n ≤ 1000000) (hx : Floats w w.heap.size A fs) (hv : fs.all sideF = v) :
    Calls Tryz.prog 14 #[.slice A n c] w fun e w' => e = .returned (.bool v) ∧ Below w.heap.size w w' := by
  have HX := Lib.hid hx
  have HN := Lib.hid hn
  have HV := Lib.hid hv
  clear hx hn hv
  go_enter Tryz.func14, Tryz.ntmps14
  go_wp2_with fail
  go_loopw [7] (fun i wr => ∃ k : Nat, k ≤ n ∧ i = .int .i64 (k : Int) ∧ Hid ((fs.take k).all sideF = true ∧ Below w.heap.size w wr)) (fun i _ => n - (intOf i).toNat)
  case atStart => exact ⟨0, Nat.zero_le _, rfl, Lib.hid ⟨by simp, Below.refl _ _⟩⟩
  case round =>
    obtain ⟨k, hk, rfl, H⟩ := hrel
    by_cases hlt : k < n
    · have hki : (k : Int) < (n : Int) := by omega
      have hk0 : ¬ (k : Int) < 0 := by omega
      obtain ⟨f, hf⟩ : ∃ f, fs[k]? = some f := ⟨_, List.getElem?_eq_getElem (by rw [← HN.out]; exact hlt)⟩
      obtain ⟨ad, rfl, hab, d0, d1, d2, d3, d4⟩ := (HX.out.thru H.out.2) k f hf
      have HK := Lib.hid hf
      clear hf
      by_cases h1 : f.s = 1
      · have hb : (f.s != 1) = false := by simp [h1]
        have HS := Lib.hid (show sideF f = true from sideF_iff.2 (.inl h1))
        clear h1
        go_wp2_with fail
        go_roundw
        case rel => exact ⟨k + 1, by omega, by go_num, Lib.hid ⟨sides_take HK.out H.out.1 HS.out, thru H.out.2 (ba1 wr _)⟩⟩
        case measure => simp [intOf]; omega
      · have hb : (f.s != 1) = true := by simp [h1]
        by_cases h2 : f.s = 2
        · have hb2 : (f.s != 2) = false := by simp [h2]
          have HS := Lib.hid (show sideF f = true from sideF_iff.2 (.inr h2))
          clear h1 h2
          go_wp2_with fail
          go_roundw
          case rel => exact ⟨k + 1, by omega, by go_num, Lib.hid ⟨sides_take HK.out H.out.1 HS.out, thru H.out.2 (ba1 wr _)⟩⟩
          case measure => simp [intOf]; omega
        · have hb2 : (f.s != 2) = true := by simp [h2]
          have hvf : v = false := by rw [← HV.out]; exact sides_not HK.out (by unfold sideF; simp [h1, h2])
          subst hvf
          clear h1 h2
          go_wp2_with fail
          go_ret
          exact ⟨rfl, thru H.out.2 (ba1 wr _)⟩
    · obtain rfl : k = n := by omega
      have hall : v = true := by rw [← HV.out]; have := H.out.1; rwa [List.take_of_length_le (by rw [← HN.out]; omega)] at this
      subst hall
      go_wp2_with fail
      go_ret
      exact ⟨rfl, H.out.2⟩

section
variable {S : World → (Nat → Prop) → Addr → List Fl → Prop}

set_option maxRecDepth 100000 in
set_option maxHeartbeats 1000000 in
theorem pbegin_any (hO : SpaceOk S) (A : Option Addr) (n c : Nat) (fs : List Fl) (w : World) (hn : n = fs.length) (hlen : n ≤ 1000) (hx : Floats w w.heap.size A fs) (hs : fs.all nearF = true) (hsd : fs.all sideF = true) :
    Calls Tryz.prog 17 #[.slice A n c] w fun r w' => (∃ p F, r = .returned (.pointer (some p)) ∧ S w' F p fs ∧ ∀ k, F k → w.heap.size ≤ k) ∧ Below w.heap.size w w' := by
  have HX := Lib.hid hx
  have HN := Lib.hid hn
  have HS := Lib.hid hs
  have HSD := Lib.hid hsd
  have HNew := Lib.hid (hO.new w)
  clear hx hn hs hsd
  go_enter Tryz.func17, Tryz.ntmps17
  go_wp2_with (first
    | (go_at_call 19; refine HNew.out.mono ?_; rintro e w1 ⟨⟨p, F0, rfl, hL, hF⟩, k1⟩; have HL := Lib.hid (⟨hL, hF, k1⟩ : S w1 F0 p [] ∧ (∀ k, F0 k → w.heap.size ≤ k) ∧ Below w.heap.size w w1); clear hL hF k1))
  go_loopw [11] (fun i wr => ∃ k : Nat, k ≤ n ∧ i = .int .i64 (k : Int) ∧ Hid (∃ F, S wr F p (fs.take k) ∧ (∀ k, F k → w.heap.size ≤ k) ∧ Below w.heap.size w wr)) (fun i _ => n - (intOf i).toNat)
  case atStart => exact ⟨0, Nat.zero_le _, rfl, Lib.hid ⟨F0, by simpa using HL.out.1, HL.out.2⟩⟩
  case round =>
    clear HL
    obtain ⟨k, hk, rfl, H0⟩ := hrel
    obtain ⟨F, hF1, hF2, hF3⟩ := H0.out
    have H := Lib.hid (⟨hF1, hF2, hF3⟩ : S wr F p (fs.take k) ∧ (∀ k, F k → w.heap.size ≤ k) ∧ Below w.heap.size w wr)
    clear H0 hF1 hF2 hF3
    by_cases hlt : k < n
    · have hki : (k : Int) < (n : Int) := by omega
      have hk0 : ¬ (k : Int) < 0 := by omega
      obtain ⟨f, hf⟩ : ∃ f, fs[k]? = some f := ⟨_, List.getElem?_eq_getElem (by rw [← HN.out]; exact hlt)⟩
      obtain ⟨ad, rfl, hab, d0, d1, d2, d3, d4⟩ := (HX.out.thru H.out.2.2) k f hf
      have HK := Lib.hid hf
      have HFN := Lib.hid (List.all_eq_true.1 HS.out f (List.mem_of_getElem? hf))
      have HFS := Lib.hid (sideF_iff.1 (List.all_eq_true.1 HSD.out f (List.mem_of_getElem? hf)))
      have HTA := Lib.hid (show (fs.take k).all nearF = true from List.all_eq_true.2 fun g hg => List.all_eq_true.1 HS.out g (List.mem_of_mem_take hg))
      clear hf
      go_upto_region 7 with fail
      generalize hW : World.alloc wr _ = W
      obtain ⟨b5, hb⟩ : ∃ b5, wr.heap.size = b5 := ⟨_, rfl⟩
      have hbW : Below wr.heap.size wr W := by rw [← hW]; exact ba1 _ _
      have e0 : W.cell? ⟨b5, 0, none⟩ = some (.int .i64 f.s) := by rw [← hW, ← hb]; simp [go_sem]
      have e1 : W.cell? ⟨b5, 1, none⟩ = some (.int .i64 f.l) := by rw [← hW, ← hb]; simp [go_sem]
      have e2 : W.cell? ⟨b5, 2, none⟩ = some (.int .i64 f.t) := by rw [← hW, ← hb]; simp [go_sem]
      have e3 : W.cell? ⟨b5, 3, none⟩ = some (.int .i64 f.r) := by rw [← hW, ← hb]; simp [go_sem]
      have e4 : W.cell? ⟨b5, 4, none⟩ = some (.int .i64 f.b) := by rw [← hW, ← hb]; simp [go_sem]
      have hb5 : b5 < W.heap.size := block_lt_of_cell e0
      have LW := Lib.hid (hO.keep _ _ _ (fun _ => False) _ _ H.out.1 (But.of_below hbW) (fun _ _ h => h))
      have KW := Lib.hid (thru H.out.2.2 hbW)
      rw [hb]
      clear hW hb d0 d1 d2 d3 d4 hbW
      refine Hold.wp_region_hold [.val (.pointer (some p)), .val (.pointer (some ⟨b5, 0, none⟩)), .val (.int .i64 f.s), .val (.pointer (some ⟨b5, 1, none⟩)), .val (.agg #[.int .i64 f.l, .int .i64 f.t, .int .i64 f.r, .int .i64 f.b]), .val (.agg #[.int .i64 f.l, .int .i64 f.t, .int .i64 f.r, .int .i64 f.b])] (by kernel_rfl) (by kernel_rfl) (by kernel_rfl) ?_ ?_
      · simp only [Hold.fill, Hold.Leave.value]
        refine ⟨?_, ?_, ?_, ?_, ?_, ?_, trivial⟩
        · intro gg w' hw hk
          go_simp
          exact ⟨rfl, rfl⟩
        · intro gg w' hw hk
          go_simp
          exact ⟨rfl, rfl⟩
        · intro gg w' hw hk
          have q0 := (hw.cell (p := ⟨b5, 0, none⟩) hb5).trans e0
          go_simp
          exact ⟨rfl, rfl⟩
        · intro gg w' hw hk
          go_simp
          exact ⟨rfl, rfl⟩
        · intro gg w' hw hk
          have q1 := (hw.cell (p := ⟨b5, 1, none⟩) hb5).trans e1
          have q2 := (hw.cell (p := ⟨b5, 2, none⟩) hb5).trans e2
          have q3 := (hw.cell (p := ⟨b5, 3, none⟩) hb5).trans e3
          have q4 := (hw.cell (p := ⟨b5, 4, none⟩) hb5).trans e4
          go_simp
          exact ⟨rfl, rfl⟩
        · intro gg w' hw hk
          go_simp
          exact Hold.stays_call (of_any _ _ _ _ w')
      intro gg w2 k2 hgg
      clear hgg
      simp only [Hold.fill, Hold.Leave.value, List.length_cons, List.length_nil, List.drop_succ_cons, List.drop_zero]
      have LZ := Lib.hid (hO.keep _ _ _ (fun _ => False) _ _ LW.out (But.of_below k2) (fun _ _ h => h))
      have KZ := Lib.hid (thru KW.out k2)
      have HADD := Lib.hid (hO.put w2 F p (fs.take k) f LZ.out (by rw [List.length_take]; omega) HTA.out HFN.out HFS.out)
      clear e0 e1 e2 e3 e4 k2
      go_wp2_with (first
        | (go_at_call 35; refine HADD.out.mono ?_; rintro e w3 ⟨⟨v, rfl⟩, ⟨F3, hL3, hF3⟩, k3⟩; have HL3 := Lib.hid (⟨F3, hL3, (fun k q => (hF3 k q).elim (H.out.2.1 k) fun q => by have := KZ.out.size; omega), KZ.out.trans (k3.below KZ.out.size H.out.2.1)⟩ : ∃ F', S w3 F' p (fs.take k ++ [f]) ∧ (∀ k, F' k → w.heap.size ≤ k) ∧ Below w.heap.size w w3); clear hL3 hF3 k3))
      go_roundw
      case rel => exact ⟨k + 1, by omega, by go_num, Lib.hid (by rw [List.take_add_one, HK.out]; exact HL3.out)⟩
      case measure => simp [intOf]; omega
    · obtain rfl : k = n := by omega
      have HE := Lib.hid (show S wr F p fs by have := H.out.1; rwa [List.take_of_length_le (by rw [← HN.out]; omega)] at this)
      go_wp2_with fail
      go_ret
      exact ⟨⟨p, F, rfl, HE.out, H.out.2.1⟩, H.out.2.2⟩

end

end Go.Proofs.YtfomhdhiibcdfaaGreat.Space
