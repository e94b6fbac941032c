/- Texts of this proof that follow each other, in one file. -/
import Derived.Test.YtdibdfalahjmbaaPart12
import Derived.Test.YtdibdfalahjmbaaPart8
import Derived.Test.YtdibdfalahjmbaaPart4
import Derived.Test.YtdibdfalahjmbaaPart6
import Derived.Test.YtdibdfalahjmbaaPart9
/-! Lists of floats of one's own; what is appended of a list that came in. -/
namespace Go.Proofs.Ytdibdfalahjmbaa.Shelf
open Go.RowKit Go.Sort Go.Proofs.Ytdibdfalahjmbaa.Rect Go.Proofs.Ytdibdfalahjmbaa.More
set_option linter.unusedVariables false

def encF : Enc Fl := ⟨5, cellsFl, fun _ => rfl, fun x u h => by
  simp only [cellsFl, List.mem_cons, List.not_mem_nil, or_false] at h
  rcases h with h | h | h | h | h <;> (subst h; rfl), by omega⟩

theorem infoF : InfoE encF 87 22 40 :=
  ⟨Try.underlying22, .agg #[.int .i64 0, .int .i64 0, .int .i64 0, .int .i64 0, .int .i64 0], rfl, by kernel_rfl⟩

theorem step_append_E {α : Type} {E : Enc α} {T TS : TypeId} {bytes : Nat} (hb2 : bytes ≤ 10000) (hT : InfoE E T TS bytes) (w : World) {ops : Array Oper} {o : Oper} {a : Act} {K : Act → World → Prop} {Q : Exit → Act → World → Prop} {F : Prop} (hgd : o.guard = none) (s x : Operand)
    (ho : o.op = .call { callee := .builtin .append, args := #[s, x], argTypes := #[TS, TS] })
    (B : Nat) (A : Option Addr) (n c : Nat) (xs : List α) (hs : a.eval s = .slice A n c) (hown : MineE E T w B A n c xs) (A2 : Option Addr) (m c2 : Nat) (ys : List α) (hx : a.eval x = .slice A2 m c2) (hsrc : SrcE E w A2 m c2 ys)
    (hlen : n + m ≤ 1000000) (hB : B ≤ w.heap.size)
    (h : ∀ A' c' w', AppendedE E T w B A n xs ys m A' c' w' → K (a.put o.dst (.slice A' (n + m) c')) w') :
    if Region.wanted o (yielded ops a.tmps) = true then Oper.wp Try.prog o a w K Q else F := by
  have hw : Region.wanted o (yielded ops a.tmps) = true := by simp [Region.wanted, hgd]
  rw [if_pos hw]
  obtain ⟨A', c', w', hr, h2⟩ := run_append_E E hb2 hT o.type w B A n c xs hown A2 m c2 ys hsrc hlen hB
  unfold Oper.wp execOp
  simp only [ho, resolve, invoke, builtin, Sem.run_bind, Sem.run_pure, Result.andThen_ok, List.map_toArray, List.map_cons, List.map_nil, hs, hx, hr]
  exact h A' c' w' h2

theorem floats_cell {w : World} {B : Nat} {ad : Addr} {fs : List Fl} (h : Floats w B (some ad) fs) (j : Nat) (u : Value) (hu : (fs.flatMap encF.cells)[j]? = some u) : w.cell? (ad.add j) = some u := by
  have hlt := (List.getElem?_eq_some_iff.1 hu).1
  rw [encF.flat_len] at hlt
  have h5 : encF.size = 5 := rfl
  rw [h5] at hlt
  obtain ⟨f, hf⟩ : ∃ f, fs[j / 5]? = some f := ⟨_, List.getElem?_eq_getElem (by omega)⟩
  have hr : j % 5 < 5 := Nat.mod_lt _ (by omega)
  have h1 := encF.flat_at fs (j / 5) f hf (j % 5) hr
  rw [h5, Nat.mul_comm, Nat.div_add_mod, hu] at h1
  obtain ⟨ad', e, hb, c0, c1, c2, c3, c4⟩ := h (j / 5) f hf
  injection e with e
  subst e
  have hj : j = j / 5 * 5 + j % 5 := by omega
  generalize j / 5 = q at *
  generalize j % 5 = r at *
  subst hj
  have hadd : ∀ i, 0 < i → ad.add (q * 5 + i) = ⟨(ad.add (q * 5)).block, (ad.add (q * 5)).off + i, none⟩ := fun i hi => by
    rw [← Addr.add_add]
    obtain ⟨i', rfl⟩ : ∃ i', i = i' + 1 := ⟨i - 1, by omega⟩
    simp [Addr.add]
  match r, hr with
  | 0, _ => rw [Nat.add_zero, c0]; exact h1.symm
  | 1, _ => rw [hadd 1 (by omega), c1]; exact h1.symm
  | 2, _ => rw [hadd 2 (by omega), c2]; exact h1.symm
  | 3, _ => rw [hadd 3 (by omega), c3]; exact h1.symm
  | 4, _ => rw [hadd 4 (by omega), c4]; exact h1.symm

theorem src_front {w : World} {B : Nat} {ad : Addr} {fs : List Fl} {n c k : Nat} (h : Floats w B (some ad) fs) (hn : n = fs.length) (hk : k ≤ n) : SrcE encF w (some ad) k c (fs.take k) := by
  refine ⟨by rw [List.length_take]; omega, fun e => (by cases e), fun j u hu => ⟨ad, rfl, floats_cell h j u ?_⟩⟩
  have e : (fs.flatMap encF.cells) = (fs.take k).flatMap encF.cells ++ (fs.drop k).flatMap encF.cells := by rw [← List.flatMap_append, List.take_append_drop]
  rw [e, List.getElem?_append_left (List.getElem?_eq_some_iff.1 hu).1]
  exact hu

theorem src_back {w : World} {B : Nat} {ad : Addr} {fs : List Fl} {n c k : Nat} (h : Floats w B (some ad) fs) (hn : n = fs.length) (hk : k ≤ n) (hc : n ≤ c) {A1 : Addr} (hA1 : (if c = k then ad else ad.add (k * 5)) = A1) : SrcE encF w (some A1) (n - k) (c - k) (fs.drop k) := by
  refine ⟨by rw [List.length_drop]; omega, fun e => (by cases e), fun j u hu => ⟨A1, rfl, ?_⟩⟩
  have hlt := (List.getElem?_eq_some_iff.1 hu).1
  rw [encF.flat_len, List.length_drop] at hlt
  have h5 : encF.size = 5 := rfl
  rw [h5] at hlt
  rw [← hA1, if_neg (by omega), Addr.add_add]
  refine floats_cell h _ u ?_
  have e : (fs.flatMap encF.cells) = (fs.take k).flatMap encF.cells ++ (fs.drop k).flatMap encF.cells := by rw [← List.flatMap_append, List.take_append_drop]
  have hl : ((fs.take k).flatMap encF.cells).length = k * 5 := by rw [encF.flat_len, List.length_take, Nat.min_eq_left (by omega)]; rfl
  rw [e, List.getElem?_append_right (by omega), hl, Nat.add_sub_cancel_left]
  exact hu

theorem floats_mine {w : World} {B : Nat} {A : Option Addr} {n c : Nat} {fs : List Fl} (h : MineE encF 87 w B A n c fs) : Floats w w.heap.size A fs := fun k f hk => by
  have hn : 0 < n := by have := MineE.len h; have := (List.getElem?_eq_some_iff.1 hk).1; omega
  obtain ⟨g, rfl, -, hg, -, -⟩ := MineE.form h hn
  refine ⟨_, rfl, hg, atF_of fun j v hv => ?_⟩
  have hj : j < 5 := (List.getElem?_eq_some_iff.1 hv).1
  rw [Addr.add_add, Addr.add_lit, Nat.zero_add]
  exact (MineE.at h k f hk j hj).trans hv

theorem floats_take {w : World} {B : Nat} {A : Option Addr} {fs : List Fl} (h : Floats w B A fs) (k : Nat) : Floats w B A (fs.take k) := fun i f hi => by
  rw [List.getElem?_take] at hi
  split at hi
  · exact h i f hi
  · cases hi

end Go.Proofs.Ytdibdfalahjmbaa.Shelf

/-! What is asked of the program's spaces, whatever they look like; the law's Sides and Begin. -/
namespace Go.Proofs.Ytdibdfalahjmbaa.Space
open Go.RowKit Go.Sort Go.Proofs.Ytdibdfalahjmbaa.Rect Go.Proofs.Ytdibdfalahjmbaa.More Go.Proofs.Ytdibdfalahjmbaa.Shelf
set_option linter.unusedVariables false

/-- Where something is asked: from a row on, the tops below it. -/
def topsD (fs : List Fl) (y : Int) : List Int := y :: ((shelvesD fs).filter (fun x => decide (y < x.1))).map (·.1)

/-- Which one is the first where it is so; the last one, if none is. -/
def stopN (q : Int → Bool) : List Int → Nat
  | [] => 0
  | [_] => 0
  | x :: y :: xs => if q x then 0 else stopN q (y :: xs) + 1

theorem stopN_lt (q : Int → Bool) : ∀ xs : List Int, xs ≠ [] → stopN q xs < xs.length
  | [], h => absurd rfl h
  | [_], _ => by simp [stopN]
  | x :: y :: xs, _ => by
    have := stopN_lt q (y :: xs) (by simp)
    unfold stopN
    split <;> simp at * <;> omega

theorem stopN_not (q : Int → Bool) : ∀ (xs : List Int) (i : Nat) (z : Int), i < stopN q xs → xs[i]? = some z → q z = false
  | [], i, z, h, _ => by simp [stopN] at h
  | [_], i, z, h, _ => by simp [stopN] at h
  | x :: y :: xs, i, z, h, hz => by
    unfold stopN at h
    by_cases g : q x = true
    · rw [if_pos g] at h; omega
    · rw [if_neg g] at h
      cases i with
      | zero => simp at hz; rw [← hz]; simpa using g
      | succ i => exact stopN_not q (y :: xs) i z (by omega) (by simpa using hz)

theorem stopN_yes (q : Int → Bool) : ∀ (xs : List Int) (z : Int), xs[stopN q xs]? = some z → q z = true ∨ stopN q xs + 1 = xs.length
  | [], z, h => by simp at h
  | [_], z, h => .inr rfl
  | x :: y :: xs, z, h => by
    unfold stopN at h ⊢
    by_cases g : q x = true
    · rw [if_pos g] at h; left; simp at h; rw [← h]; exact g
    · rw [if_neg g] at h ⊢
      rcases stopN_yes q (y :: xs) z (by simpa using h) with e | e
      · exact .inl e
      · right; rw [e]; rfl

/-- Where it is; and who has been asked. -/
def atD (q : Int → Bool) (ts : List Int) : Int := ts.getD (stopN q ts) 0
def askL (q : Int → Bool) (ts : List Int) : List Int := ts.take (stopN q ts + 1)

/-- The contracts of the program's spaces: at p lies one, in the blocks F, that stands for these floats. -/
structure SpaceOk (S : World → (Nat → Prop) → Addr → List Fl → Prop) : Prop where
  keep : ∀ w w' F G p fs, S w F p fs → But G w w' → (∀ k, F k → ¬ G k) → S w' F p fs
  lt : ∀ w F p fs, S w F p fs → ∀ k, F k → k < w.heap.size
  new : ∀ w, Calls Try.prog 19 #[] w fun r w' => (∃ p F, r = .returned (.pointer (some p)) ∧ S w' F p [] ∧ ∀ k, F k → w.heap.size ≤ k) ∧ Below w.heap.size w w'
  put : ∀ w F p fs f, S w F p fs → fs.length < 1000 → fs.all nearF = true → nearF f = true → f.s = 1 ∨ f.s = 2 → Calls Try.prog 31 #[.pointer (some p), .int .i64 f.s, .agg #[.int .i64 f.l, .int .i64 f.t, .int .i64 f.r, .int .i64 f.b]] w fun r w' => (∃ v, r = .returned v) ∧ (∃ F', S w' F' p (fs ++ [f]) ∧ ∀ k, F' k → F k ∨ w.heap.size ≤ k) ∧ But F w w'
  last : ∀ w F p fs, S w F p fs → fs.all nearF = true → Calls Try.prog 60 #[.pointer (some p)] w fun r w' => r = .returned (.tuple #[.int .i64 (lastD fs), .bool (decide (0 < fs.length))]) ∧ Below w.heap.size w w'
  bottom : ∀ w F p fs (c : Int), S w F p fs → fs.all nearF = true → 0 ≤ c ∧ c ≤ 3 → Calls Try.prog 72 #[.pointer (some p), .int .i64 c] w fun r w' => r = .returned (.tuple #[.int .i64 (botS fs c).1, .bool (botS fs c).2]) ∧ Below w.heap.size w w'
  clear : ∀ w F p fs (c y : Int), S w F p fs → fs.all nearF = true → 0 ≤ c ∧ c ≤ 3 → Calls Try.prog 61 #[.pointer (some p), .int .i64 c, .int .i64 y] w fun r w' => r = .returned (.int .i64 (clearS fs c y)) ∧ Below w.heap.size w w'
  floats : ∀ w F p fs, S w F p fs → fs.all nearF = true → Calls Try.prog 12 #[.pointer (some p)] w fun r w' => (∃ A c, r = .returned (.slice A fs.length c) ∧ MineE encF 43 w' w.heap.size A fs.length c fs) ∧ Below w.heap.size w w'
  rows : ∀ (y h : Int) w, -2305843009213693952 ≤ y ∧ y ≤ 2305843009213693952 → h ≤ 2305843009213693952 → Calls Try.prog 63 #[.int .i64 y, .int .i64 h] w fun r w' => r = .returned (.agg #[.int .i64 y, .int .i64 (y + highZ h)]) ∧ Below w.heap.size w w'
  bounds : ∀ w F p fs (a z : Int), S w F p fs → fs.all nearF = true → -4503599627370496 ≤ a → z ≤ 4611686018427387904 → Calls Try.prog 62 #[.pointer (some p), .agg #[.int .i64 a, .int .i64 z]] w fun r w' => r = .returned (.agg #[.int .i64 (bandL fs a z), .int .i64 (bandR fs a z)]) ∧ Below w.heap.size w w'
  free : ∀ w F p fs (x y a z : Int), S w F p fs → fs.all nearF = true → -4503599627370496 ≤ a → z ≤ 4611686018427387904 → Calls Try.prog 70 #[.pointer (some p), .agg #[.int .i64 x, .int .i64 y], .agg #[.int .i64 a, .int .i64 z]] w fun r w' => r = .returned (.agg #[.int .i64 (max x (bandL fs a z)), .int .i64 (min y (bandR fs a z))]) ∧ Below w.heap.size w w'
  first : ∀ w F p fs (y : Int) (f : Nat) (cb : Array Value) (q : Int → Bool) (R : World → List Int → Prop), S w F p fs → fs.all nearF = true → inS y = true → (∀ args w, (callFunc f args).run Try.prog w = .ok (.enter f args) w) → R w [] → (∀ w1 w2 pre, R w1 pre → Below w1.heap.size w1 w2 → R w2 pre) → (∀ w1 pre z, S w1 F p fs → R w1 pre → inS z = true → pre.length ≤ 3000 → Calls Try.prog f (#[.int .i64 z] ++ cb) w1 fun e w' => e = .returned (.bool (q z)) ∧ S w' F p fs ∧ R w' (pre ++ [z])) → Calls Try.prog 47 #[.pointer (some p), .int .i64 y, .func (.func f) #[] cb] w fun r w' => r = .returned (.int .i64 (atD q (topsD fs y))) ∧ S w' F p fs ∧ R w' (askL q (topsD fs y))
  firstV : ∀ w F p fs (y : Int) (f : Nat) (a : Value) (q : Int → Bool) (R : World → List Int → Prop), S w F p fs → fs.all nearF = true → inS y = true → (∀ args w, (callFunc f args).run Try.prog w = .ok (.enter f args) w) → R w [] → (∀ w1 w2 pre, R w1 pre → Below w1.heap.size w1 w2 → R w2 pre) → (∀ w1 pre z, S w1 F p fs → R w1 pre → inS z = true → pre.length ≤ 3000 → Calls Try.prog f #[a, .int .i64 z] w1 fun e w' => e = .returned (.bool (q z)) ∧ S w' F p fs ∧ R w' (pre ++ [z])) → Calls Try.prog 47 #[.pointer (some p), .int .i64 y, .func (.func f) #[a] #[]] w fun r w' => r = .returned (.int .i64 (atD q (topsD fs y))) ∧ S w' F p fs ∧ R w' (askL q (topsD fs y))
  firstG : ∀ w F p fs (y : Int) (f : Nat) (ca cb : Array Value) (q : Int → Bool) (R : World → List Int → Prop), S w F p fs → fs.all nearF = true → inS y = true → (∀ args w, (callFunc f args).run Try.prog w = .ok (.enter f args) w) → R w [] → (∀ w1 w2 pre, R w1 pre → Below w1.heap.size w1 w2 → R w2 pre) → (∀ w1 pre z, S w1 F p fs → R w1 pre → inS z = true → pre.length ≤ 3000 → (∀ u ∈ pre, u < z) ∧ y ≤ z → Calls Try.prog f (ca ++ #[.int .i64 z] ++ cb) w1 fun e w' => e = .returned (.bool (q z)) ∧ S w' F p fs ∧ R w' (pre ++ [z])) → Calls Try.prog 47 #[.pointer (some p), .int .i64 y, .func (.func f) ca cb] w fun r w' => r = .returned (.int .i64 (atD q (topsD fs y))) ∧ S w' F p fs ∧ R w' (askL q (topsD fs y))

/-- Is a float at the left or at the right? -/
def sideF (f : Fl) : Bool := f.s == 1 || f.s == 2

theorem sideF_iff {f : Fl} : sideF f = true ↔ f.s = 1 ∨ f.s = 2 := by unfold sideF; simp

theorem sides_take {fs : List Fl} {k : Nat} {f : Fl} (h : fs[k]? = some f) (ha : (fs.take k).all sideF = true) (hf : sideF f = true) : (fs.take (k + 1)).all sideF = true := by
  rw [List.take_add_one, h, List.all_append, ha]
  simp [hf]
theorem sides_not {fs : List Fl} {k : Nat} {f : Fl} (h : fs[k]? = some f) (hf : sideF f = false) : fs.all sideF = false := by
  rw [List.all_eq_false]
  exact ⟨f, List.mem_of_getElem? h, by rw [hf]; simp⟩

section
variable {S : World → (Nat → Prop) → Addr → List Fl → Prop}

set_option maxRecDepth 100000 in
set_option maxHeartbeats 1000000 in
theorem pbegin_any (hO : SpaceOk S) (A : Option Addr) (n c : Nat) (fs : List Fl) (w : World) (hn : n = fs.length) (hlen : n ≤ 1000) (hx : Floats w w.heap.size A fs) (hs : fs.all nearF = true) (hsd : fs.all sideF = true) :
    Calls Try.prog 18 #[.slice A n c] w fun r w' => (∃ p F, r = .returned (.pointer (some p)) ∧ S w' F p fs ∧ ∀ k, F k → w.heap.size ≤ k) ∧ Below w.heap.size w w' := by
  have HX := Lib.hid hx
  have HN := Lib.hid hn
  have HS := Lib.hid hs
  have HSD := Lib.hid hsd
  have HNew := Lib.hid (hO.new w)
  clear hx hn hs hsd
  go_enter Try.func18, Try.ntmps18
  go_wp2_with (first
    | (go_at_call 19; refine HNew.out.mono ?_; rintro e w1 ⟨⟨p, F0, rfl, hL, hF⟩, k1⟩; have HL := Lib.hid (⟨hL, hF, k1⟩ : S w1 F0 p [] ∧ (∀ k, F0 k → w.heap.size ≤ k) ∧ Below w.heap.size w w1); clear hL hF k1))
  go_loopw [11] (fun i wr => ∃ k : Nat, k ≤ n ∧ i = .int .i64 (k : Int) ∧ Hid (∃ F, S wr F p (fs.take k) ∧ (∀ k, F k → w.heap.size ≤ k) ∧ Below w.heap.size w wr)) (fun i _ => n - (intOf i).toNat)
  case atStart => exact ⟨0, Nat.zero_le _, rfl, Lib.hid ⟨F0, by simpa using HL.out.1, HL.out.2⟩⟩
  case round =>
    clear HL
    obtain ⟨k, hk, rfl, H0⟩ := hrel
    obtain ⟨F, hF1, hF2, hF3⟩ := H0.out
    have H := Lib.hid (⟨hF1, hF2, hF3⟩ : S wr F p (fs.take k) ∧ (∀ k, F k → w.heap.size ≤ k) ∧ Below w.heap.size w wr)
    clear H0 hF1 hF2 hF3
    by_cases hlt : k < n
    · have hki : (k : Int) < (n : Int) := by omega
      have hk0 : ¬ (k : Int) < 0 := by omega
      obtain ⟨f, hf⟩ : ∃ f, fs[k]? = some f := ⟨_, List.getElem?_eq_getElem (by rw [← HN.out]; exact hlt)⟩
      obtain ⟨ad, rfl, hab, d0, d1, d2, d3, d4⟩ := (HX.out.thru H.out.2.2) k f hf
      have HK := Lib.hid hf
      have HFN := Lib.hid (List.all_eq_true.1 HS.out f (List.mem_of_getElem? hf))
      have HFS := Lib.hid (sideF_iff.1 (List.all_eq_true.1 HSD.out f (List.mem_of_getElem? hf)))
      have HTA := Lib.hid (show (fs.take k).all nearF = true from List.all_eq_true.2 fun g hg => List.all_eq_true.1 HS.out g (List.mem_of_mem_take hg))
      clear hf
      go_upto_region 7 with fail
      generalize hW : World.alloc wr _ = W
      obtain ⟨b5, hb⟩ : ∃ b5, wr.heap.size = b5 := ⟨_, rfl⟩
      have hbW : Below wr.heap.size wr W := by rw [← hW]; exact ba1 _ _
      have e0 : W.cell? ⟨b5, 0, none⟩ = some (.int .i64 f.s) := by rw [← hW, ← hb]; simp [go_sem]
      have e1 : W.cell? ⟨b5, 1, none⟩ = some (.int .i64 f.l) := by rw [← hW, ← hb]; simp [go_sem]
      have e2 : W.cell? ⟨b5, 2, none⟩ = some (.int .i64 f.t) := by rw [← hW, ← hb]; simp [go_sem]
      have e3 : W.cell? ⟨b5, 3, none⟩ = some (.int .i64 f.r) := by rw [← hW, ← hb]; simp [go_sem]
      have e4 : W.cell? ⟨b5, 4, none⟩ = some (.int .i64 f.b) := by rw [← hW, ← hb]; simp [go_sem]
      have hb5 : b5 < W.heap.size := block_lt_of_cell e0
      have LW := Lib.hid (hO.keep _ _ _ (fun _ => False) _ _ H.out.1 (But.of_below hbW) (fun _ _ h => h))
      have KW := Lib.hid (thru H.out.2.2 hbW)
      rw [hb]
      clear hW hb d0 d1 d2 d3 d4 hbW
      refine Hold.wp_region_hold [.val (.pointer (some p)), .val (.pointer (some ⟨b5, 0, none⟩)), .val (.int .i64 f.s), .val (.pointer (some ⟨b5, 1, none⟩)), .val (.agg #[.int .i64 f.l, .int .i64 f.t, .int .i64 f.r, .int .i64 f.b]), .val (.agg #[.int .i64 f.l, .int .i64 f.t, .int .i64 f.r, .int .i64 f.b])] (by kernel_rfl) (by kernel_rfl) (by kernel_rfl) ?_ ?_
      · simp only [Hold.fill, Hold.Leave.value]
        refine ⟨?_, ?_, ?_, ?_, ?_, ?_, trivial⟩
        · intro gg w' hw hk
          go_simp
          exact ⟨rfl, rfl⟩
        · intro gg w' hw hk
          go_simp
          exact ⟨rfl, rfl⟩
        · intro gg w' hw hk
          have q0 := (hw.cell (p := ⟨b5, 0, none⟩) hb5).trans e0
          go_simp
          exact ⟨rfl, rfl⟩
        · intro gg w' hw hk
          go_simp
          exact ⟨rfl, rfl⟩
        · intro gg w' hw hk
          have q1 := (hw.cell (p := ⟨b5, 1, none⟩) hb5).trans e1
          have q2 := (hw.cell (p := ⟨b5, 2, none⟩) hb5).trans e2
          have q3 := (hw.cell (p := ⟨b5, 3, none⟩) hb5).trans e3
          have q4 := (hw.cell (p := ⟨b5, 4, none⟩) hb5).trans e4
          go_simp
          exact ⟨rfl, rfl⟩
        · intro gg w' hw hk
          go_simp
          exact Hold.stays_call (of_any _ _ _ _ w')
      intro gg w2 k2 hgg
      clear hgg
      simp only [Hold.fill, Hold.Leave.value, List.length_cons, List.length_nil, List.drop_succ_cons, List.drop_zero]
      have LZ := Lib.hid (hO.keep _ _ _ (fun _ => False) _ _ LW.out (But.of_below k2) (fun _ _ h => h))
      have KZ := Lib.hid (thru KW.out k2)
      have HADD := Lib.hid (hO.put w2 F p (fs.take k) f LZ.out (by rw [List.length_take]; omega) HTA.out HFN.out HFS.out)
      clear e0 e1 e2 e3 e4 k2
      go_wp2_with (first
        | (go_at_call 31; refine HADD.out.mono ?_; rintro e w3 ⟨⟨v, rfl⟩, ⟨F3, hL3, hF3⟩, k3⟩; have HL3 := Lib.hid (⟨F3, hL3, (fun k q => (hF3 k q).elim (H.out.2.1 k) fun q => by have := KZ.out.size; omega), KZ.out.trans (k3.below KZ.out.size H.out.2.1)⟩ : ∃ F', S w3 F' p (fs.take k ++ [f]) ∧ (∀ k, F' k → w.heap.size ≤ k) ∧ Below w.heap.size w w3); clear hL3 hF3 k3))
      go_roundw
      case rel => exact ⟨k + 1, by omega, by go_num, Lib.hid (by rw [List.take_add_one, HK.out]; exact HL3.out)⟩
      case measure => simp [intOf]; omega
    · obtain rfl : k = n := by omega
      have HE := Lib.hid (show S wr F p fs by have := H.out.1; rwa [List.take_of_length_le (by rw [← HN.out]; omega)] at this)
      go_wp2_with fail
      go_ret
      exact ⟨⟨p, F, rfl, HE.out, H.out.2.1⟩, H.out.2.2⟩

end

end Go.Proofs.Ytdibdfalahjmbaa.Space

/-! Bands, shelf by shelf. No program is in it. -/
namespace Go.Proofs.Ytdibdfalahjmbaa.Shelf
set_option linter.unusedVariables false

theorem band_const {fs : List Fl} {l r : Int} : ∀ (d : Nat) (lo hi : Int), (hi - lo).toNat = d + 1 → (∀ y, lo ≤ y → y < hi → bndF fs y = (l, r)) → bandL fs lo hi = l ∧ bandR fs lo hi = r
  | 0, lo, hi, hd, h => by
    obtain rfl : hi = lo + 1 := by omega
    have := h lo (Int.le_refl _) (by omega)
    unfold bndF at this
    injection this with h1 h2
    exact ⟨h1, h2⟩
  | d + 1, lo, hi, hd, h => by
    obtain ⟨h1, h2⟩ := band_const d (lo + 1) hi (by omega) (fun y hy1 hy2 => h y (by omega) hy2)
    have h0 := h lo (Int.le_refl _) (by omega)
    unfold bndF at h0
    injection h0 with h3 h4
    rw [bandL_split fs (show lo ≤ lo + 1 by omega) (show lo + 1 ≤ hi by omega), bandR_split fs (show lo ≤ lo + 1 by omega) (show lo + 1 ≤ hi by omega), h1, h2, h3, h4]
    omega

theorem dw_same {β : Type} {F : Int → β} {xs : List (Int × β)} {a y : Int} {i : Nat} {x : Int × β} (h : DW F a xs) (hx : xs[i]? = some x) (hy : x.1 ≤ y) (hn : ∀ z, xs[i + 1]? = some z → y < z.1) : F y = x.2 := by
  have e := at_split hx
  rw [e] at h
  have h1 := ((dw_split _ a x _).1 h).2
  have hd : ∀ z r, xs.drop (i + 1) = z :: r → y < z.1 := fun z r e2 => hn z (by
    have := List.getElem?_drop (xs := xs) (i := i + 1) (j := 0)
    rw [e2] at this
    simpa using this.symm)
  obtain ⟨t, b⟩ := x
  cases hr : xs.drop (i + 1) with
  | nil => rw [hr] at h1; exact h1.2 y hy
  | cons z r =>
    obtain ⟨z1, z2⟩ := z
    have h3 := hd _ _ hr
    rw [hr] at h1
    exact h1.2.2.1 y hy h3

/-- Where the rows from a up to z that the shelves ahead of a place have end. -/
def eB (xs : List (Int × (Int × Int))) (a z : Int) (i : Nat) : Int := match xs[i]? with
  | none => z
  | some x => max a (min z x.1)

section
variable {fs : List Fl} {xs : List (Int × (Int × Int))} {a z : Int} {o1 o2 : Nat}

theorem thr_above {y : Int} {k i : Nat} {x : Int × (Int × Int)} (h : Thr xs y k) (hx : xs[i]? = some x) (hi : k ≤ i) : y < x.1 := by
  have := h.2 i x hx
  rw [show decide (k ≤ i) = true by simp [hi]] at this
  exact of_decide_eq_true this
theorem thr_under {y : Int} {k i : Nat} {x : Int × (Int × Int)} (h : Thr xs y k) (hx : xs[i]? = some x) (hi : i < k) : x.1 ≤ y := by
  have := h.2 i x hx
  rw [show decide (k ≤ i) = false by simp; omega] at this
  have := of_decide_eq_false this
  omega

theorem thr_mono (hd : DW (bndF fs) (-far) xs) (h1 : Thr xs a (o1 + 1)) (h2 : Thr xs (z - 1) (o2 + 1)) (haz : a < z) : o1 ≤ o2 := by
  rcases Nat.lt_or_ge o2 o1 with e | e
  · obtain ⟨x, hx⟩ : ∃ x, xs[o1]? = some x := ⟨_, List.getElem?_eq_getElem (by have := h1.1; omega)⟩
    have := thr_under h1 hx (by omega)
    have := thr_above h2 hx (by omega)
    omega
  · exact e

theorem eB_start (hd : DW (bndF fs) (-far) xs) (h1 : Thr xs a (o1 + 1)) (haz : a < z) : eB xs a z o1 = a := by
  obtain ⟨x, hx⟩ : ∃ x, xs[o1]? = some x := ⟨_, List.getElem?_eq_getElem (by have := h1.1; omega)⟩
  have := thr_under h1 hx (by omega)
  unfold eB
  rw [hx]
  dsimp only
  omega

theorem eB_end (h2 : Thr xs (z - 1) (o2 + 1)) (haz : a < z) : eB xs a z (o2 + 1) = z := by
  unfold eB
  cases hx : xs[o2 + 1]? with
  | none => rfl
  | some x =>
    have := thr_above h2 hx (Nat.le_refl _)
    dsimp only
    omega

/-- One shelf more. -/
theorem eB_step (hd : DW (bndF fs) (-far) xs) (h1 : Thr xs a (o1 + 1)) (h2 : Thr xs (z - 1) (o2 + 1)) (haz : a < z) {i : Nat} (hi1 : o1 ≤ i) (hi2 : i ≤ o2) {x : Int × (Int × Int)} (hx : xs[i]? = some x) :
    bandL fs a (eB xs a z (i + 1)) = max (bandL fs a (eB xs a z i)) x.2.1 ∧ bandR fs a (eB xs a z (i + 1)) = min (bandR fs a (eB xs a z i)) x.2.2 := by
  have hxz := thr_under h2 hx (by omega)
  have e0 : eB xs a z i = max a x.1 := by
    unfold eB; rw [hx]; dsimp only; omega
  have e1 : max a x.1 < eB xs a z (i + 1) ∧ ∀ y, y < eB xs a z (i + 1) → ∀ x', xs[i + 1]? = some x' → y < x'.1 := by
    unfold eB
    cases hx' : xs[i + 1]? with
    | none => exact ⟨by dsimp only; omega, fun y _ x' e => by cases e⟩
    | some x' =>
      have ha := thr_above h1 hx' (by omega)
      have hr : x.1 < x'.1 := by
        have e := at_split hx
        have hd' := hd
        rw [e] at hd'
        have h3 := ((dw_split _ _ x _).1 hd').2
        have h4 : xs.drop (i + 1) = x' :: xs.drop (i + 2) := by
          obtain ⟨q1, q2⟩ := List.getElem?_eq_some_iff.1 hx'
          rw [List.drop_eq_getElem_cons q1, q2]
        rw [h4] at h3
        obtain ⟨t, b⟩ := x
        obtain ⟨t', b'⟩ := x'
        exact h3.2.1
      refine ⟨by dsimp only; omega, fun y hy x'' e => ?_⟩
      injection e with e
      subst e
      dsimp only at hy
      omega
  have hc := band_const (fs := fs) (l := x.2.1) (r := x.2.2) ((eB xs a z (i + 1) - eB xs a z i).toNat - 1) (eB xs a z i) (eB xs a z (i + 1)) (by rw [e0]; omega) (fun y hy1 hy2 => by
    have := dw_same hd hx (y := y) (by rw [e0] at hy1; omega) (fun z' hz' => e1.2 y hy2 z' hz')
    rw [this])
  rw [bandL_split fs (show a ≤ eB xs a z i by rw [e0]; omega) (show eB xs a z i ≤ eB xs a z (i + 1) by rw [e0]; omega), bandR_split fs (show a ≤ eB xs a z i by rw [e0]; omega) (show eB xs a z i ≤ eB xs a z (i + 1) by rw [e0]; omega), hc.1, hc.2]
  exact ⟨rfl, rfl⟩

end

end Go.Proofs.Ytdibdfalahjmbaa.Shelf

/-! Where something is first so: between the tops it cannot become so. -/
namespace Go.Proofs.Ytdibdfalahjmbaa.Space
open Go.Proofs.Ytdibdfalahjmbaa.Shelf

theorem bnd_between {fs : List Fl} (hn : Near fs) {z0 x : Int} (h0 : -far ≤ z0) (hno : ∀ s ∈ shelvesD fs, z0 < s.1 → x < s.1) (r : Int) (h1 : z0 ≤ r) (h2 : r ≤ x) : bndF fs r = bndF fs z0 := by
  have hd := (draws_dw _ _ (shelvesD_draws hn)).1
  obtain ⟨k, hk⟩ := thr_of hd z0
  have hp := thr_pos hd h0 hk
  obtain ⟨o, rfl⟩ : ∃ o, k = o + 1 := ⟨k - 1, by omega⟩
  obtain ⟨s, hs⟩ : ∃ s, (shelvesD fs)[o]? = some s := ⟨_, List.getElem?_eq_getElem (by have := hk.1; omega)⟩
  have hle := thr_under hk hs (Nat.lt_succ_self o)
  have key : ∀ q, z0 ≤ q → q ≤ x → bndF fs q = s.2 := fun q q1 q2 => dw_same hd hs (by omega) (fun z hz => by
    have h3 := thr_above hk hz (Nat.le_refl _)
    have h4 := hno z (List.mem_of_getElem? hz) h3
    omega)
  rw [key r h1 h2, key z0 (Int.le_refl _) (by omega)]

theorem band_covers {fs : List Fl} {z0 x h : Int} (hc : ∀ r, z0 ≤ r → r ≤ x → bndF fs r = bndF fs z0) (hzx : z0 ≤ x) (hh : 1 ≤ h) : bandL fs z0 (z0 + h) ≤ bandL fs x (x + h) ∧ bandR fs x (x + h) ≤ bandR fs z0 (z0 + h) := by
  obtain ⟨l, r, hlr⟩ : ∃ l r, bndF fs z0 = (l, r) := ⟨_, _, rfl⟩
  have hx := hc x hzx (Int.le_refl _)
  rw [hlr] at hx
  have hxl : bandL fs x (x + 1) = l := congrArg Prod.fst hx
  have hxr : bandR fs x (x + 1) = r := congrArg Prod.snd hx
  by_cases hcase : z0 + h ≤ x
  · obtain ⟨e1, e2⟩ := band_const (fs := fs) (l := l) (r := r) (h - 1).toNat z0 (z0 + h) (by omega) (fun q q1 q2 => by rw [hc q q1 (by omega), hlr])
    rw [e1, e2, bandL_split fs (a := x) (m := x + 1) (z := x + h) (by omega) (by omega), bandR_split fs (a := x) (m := x + 1) (z := x + h) (by omega) (by omega), hxl, hxr]
    omega
  · have s1 := bandL_split fs (a := z0) (m := x) (z := z0 + h) hzx (by omega)
    have s2 := bandR_split fs (a := z0) (m := x) (z := z0 + h) hzx (by omega)
    have s3 := bandL_split fs (a := x) (m := z0 + h) (z := x + h) (by omega) (by omega)
    have s4 := bandR_split fs (a := x) (m := z0 + h) (z := x + h) (by omega) (by omega)
    have s5 := bandL_split fs (a := x) (m := x + 1) (z := z0 + h) (by omega) (by omega)
    have s6 := bandR_split fs (a := x) (m := x + 1) (z := z0 + h) (by omega) (by omega)
    by_cases he : z0 = x
    · subst he; omega
    · obtain ⟨e1, e2⟩ := band_const (fs := fs) (l := l) (r := r) (x - z0 - 1).toNat z0 x (by omega) (fun q q1 q2 => by rw [hc q q1 (by omega), hlr])
      rw [e1] at s1
      rw [e2] at s2
      rw [hxl] at s5
      rw [hxr] at s6
      omega

theorem shelves_rise {fs : List Fl} (hn : Near fs) : ((shelvesD fs).map (·.1)).Pairwise (· < ·) := by
  rw [List.pairwise_iff_getElem]
  intro i j hi hj hij
  rw [List.length_map] at hi hj
  rw [List.getElem_map, List.getElem_map]
  have h1 := (shelvesD_pair hn (List.getElem?_eq_getElem hi) (List.getElem?_eq_getElem (show i + 1 < (shelvesD fs).length by omega))).1
  have h2 := draws_rise (shelvesD_draws hn) (j - (i + 1)) (i + 1) _ _ (List.getElem?_eq_getElem (show i + 1 < (shelvesD fs).length by omega)) (by rw [show i + 1 + (j - (i + 1)) = j by omega]; exact List.getElem?_eq_getElem hj)
  omega

theorem tops_filter (fs : List Fl) (y : Int) : ((shelvesD fs).filter (fun x => decide (y < x.1))).map (·.1) = ((shelvesD fs).map (·.1)).filter (fun e => decide (y < e)) := by
  rw [List.filter_map]
  rfl

theorem tops_rise {fs : List Fl} (hn : Near fs) (y : Int) : (topsD fs y).Pairwise (· < ·) := by
  unfold topsD
  rw [tops_filter, List.pairwise_cons]
  refine ⟨fun e he => by simpa using (List.mem_filter.1 he).2, (shelves_rise hn).filter _⟩

theorem tops_has {fs : List Fl} {y : Int} {s : Int × (Int × Int)} (hs : s ∈ shelvesD fs) (h : y < s.1) : s.1 ∈ topsD fs y := by
  unfold topsD
  exact List.mem_cons_of_mem _ (List.mem_map.2 ⟨s, List.mem_filter.2 ⟨hs, by simpa using h⟩, rfl⟩)

/-- In a list that rises, a number between the first one and another one lies between two neighbours. -/
theorem between (ts : List Int) (x : Int) : ∀ (N : Nat) (a b : Int), ts[0]? = some a → ts[N]? = some b → a ≤ x → x < b → ∃ i z0 z1, i < N ∧ ts[i]? = some z0 ∧ ts[i + 1]? = some z1 ∧ z0 ≤ x ∧ x < z1
  | 0, a, b, ha, hb, h1, h2 => by rw [ha] at hb; injection hb with e; omega
  | N + 1, a, b, ha, hb, h1, h2 => by
    obtain ⟨c, hc⟩ : ∃ c, ts[N]? = some c := by
      have := (List.getElem?_eq_some_iff.1 hb).1
      exact ⟨_, List.getElem?_eq_getElem (by omega)⟩
    by_cases h : c ≤ x
    · exact ⟨N, c, b, Nat.lt_succ_self _, hc, hb, h, h2⟩
    · obtain ⟨i, z0, z1, q1, q2⟩ := between ts x N a c ha hc h1 (by omega)
      exact ⟨i, z0, z1, by omega, q2⟩

theorem rise_at {ts : List Int} (h : ts.Pairwise (· < ·)) {i j : Nat} {a b : Int} (ha : ts[i]? = some a) (hb : ts[j]? = some b) (hij : i < j) : a < b := by
  obtain ⟨h1, e1⟩ := List.getElem?_eq_some_iff.1 ha
  obtain ⟨h2, e2⟩ := List.getElem?_eq_some_iff.1 hb
  rw [← e1, ← e2]
  exact (List.pairwise_iff_getElem.1 h) i j h1 h2 hij

/-- What is so somewhere on a shelf is so higher up on it: then between two tops nothing becomes so. -/
theorem first_none {fs : List Fl} (hn : Near fs) {y : Int} (hy : -far ≤ y) (q : Int → Bool)
    (hq : ∀ z0 x, z0 ≤ x → (∀ r, z0 ≤ r → r ≤ x → bndF fs r = bndF fs z0) → q x = true → q z0 = true) (x : Int) (h1 : y ≤ x) (h2 : x < atD q (topsD fs y)) : q x = false := by
  have hr := tops_rise hn y
  have hlt := stopN_lt q (topsD fs y) (by unfold topsD; simp)
  have hat : (topsD fs y)[stopN q (topsD fs y)]? = some (atD q (topsD fs y)) := by
    unfold atD
    rw [List.getD_eq_getElem?_getD, List.getElem?_eq_getElem hlt]
    rfl
  obtain ⟨i, z0, z1, g1, g2, g3, g4, g5⟩ := between (topsD fs y) x _ y _ rfl hat h1 h2
  have hz := stopN_not q _ i z0 g1 g2
  have hyz : y ≤ z0 := by
    rcases Nat.eq_zero_or_pos i with e | e
    · subst e; rw [show (topsD fs y)[0]? = some y from rfl] at g2; injection g2 with e; omega
    · exact Int.le_of_lt (rise_at hr (show (topsD fs y)[0]? = some y from rfl) g2 e)
  cases hx : q x with
  | false => rfl
  | true =>
    have := hq z0 x g4 (bnd_between hn (by omega) (fun s hs hlt => by
      obtain ⟨j, hj⟩ := List.getElem?_of_mem (tops_has hs (show y < s.1 by omega))
      rcases Nat.lt_trichotomy j (i + 1) with e | e | e
      · rcases Nat.lt_or_ge j i with e2 | e2
        · have := rise_at hr hj g2 e2; omega
        · obtain rfl : j = i := by omega
          rw [g2] at hj; injection hj with e3; omega
      · subst e; rw [g3] at hj; injection hj with e3; omega
      · have := rise_at hr g3 hj e; omega)) hx
    rw [hz] at this
    cases this

end Go.Proofs.Ytdibdfalahjmbaa.Space

/-! Where a float goes, in numbers: what the document says of a want. No program is in it. -/
namespace Go.Proofs.Ytdibdfalahjmbaa.Place
open Go.Proofs.Ytdibdfalahjmbaa.Shelf Go.Proofs.Ytdibdfalahjmbaa.Space
set_option linter.unusedVariables false

/-- A want: its side, its clear, its columns, its width, its height, its place. -/
structure Wt where
  s : Int
  c : Int
  f : Int
  t : Int
  wd : Int
  ht : Int
  y : Int

/-- Its numbers as a list, and whether they are right. -/
def Wt.nums (w : Wt) : List Int := [w.f, w.t, w.wd, w.ht, w.y]
def inW (x : Int) : Bool := decide (-281474976710656 ≤ x) && decide (x ≤ 281474976710656)
theorem inW_iff {x : Int} : inW x = true ↔ -281474976710656 ≤ x ∧ x ≤ 281474976710656 := by unfold inW; simp
def rightW (w : Wt) : Bool := w.nums.all inW && ((w.s == 1 || w.s == 2) && decide (0 ≤ w.c) && decide (w.c ≤ 3) && decide (w.f ≤ w.t))

structure RightW (w : Wt) : Prop where
  f1 : -281474976710656 ≤ w.f
  f2 : w.f ≤ 281474976710656
  t1 : -281474976710656 ≤ w.t
  t2 : w.t ≤ 281474976710656
  wd1 : -281474976710656 ≤ w.wd
  wd2 : w.wd ≤ 281474976710656
  ht1 : -281474976710656 ≤ w.ht
  ht2 : w.ht ≤ 281474976710656
  y1 : -281474976710656 ≤ w.y
  y2 : w.y ≤ 281474976710656
  sd : w.s = 1 ∨ w.s = 2
  cl : 0 ≤ w.c ∧ w.c ≤ 3
  ft : w.f ≤ w.t

theorem rightW_iff {w : Wt} : rightW w = true ↔ RightW w := by
  unfold rightW Wt.nums
  simp only [List.all_cons, List.all_nil, Bool.and_true, Bool.and_eq_true, Bool.or_eq_true, inW_iff, beq_iff_eq, decide_eq_true_eq]
  constructor
  · rintro ⟨⟨⟨a1, a2⟩, ⟨b1, b2⟩, ⟨c1, c2⟩, ⟨d1, d2⟩, e1, e2⟩, ⟨⟨g, h1⟩, h2⟩, k⟩
    exact ⟨a1, a2, b1, b2, c1, c2, d1, d2, e1, e2, g, ⟨h1, h2⟩, k⟩
  · rintro ⟨a1, a2, b1, b2, c1, c2, d1, d2, e1, e2, g, ⟨h1, h2⟩, k⟩
    exact ⟨⟨⟨a1, a2⟩, ⟨b1, b2⟩, ⟨c1, c2⟩, ⟨d1, d2⟩, e1, e2⟩, ⟨⟨g, h1⟩, h2⟩, k⟩

/-- Floats that stand from -2^49 to 2^49, at a side. -/
def in49 (x : Int) : Bool := decide (-562949953421312 ≤ x) && decide (x ≤ 562949953421312)
theorem in49_iff {x : Int} : in49 x = true ↔ -562949953421312 ≤ x ∧ x ≤ 562949953421312 := by unfold in49; simp
def near49 (f : Fl) : Bool := [f.l, f.t, f.r, f.b].all in49 && sideF f

structure Near49 (f : Fl) : Prop where
  l1 : -562949953421312 ≤ f.l
  l2 : f.l ≤ 562949953421312
  t1 : -562949953421312 ≤ f.t
  t2 : f.t ≤ 562949953421312
  r1 : -562949953421312 ≤ f.r
  r2 : f.r ≤ 562949953421312
  b1 : -562949953421312 ≤ f.b
  b2 : f.b ≤ 562949953421312
  sd : f.s = 1 ∨ f.s = 2

theorem near49_iff {f : Fl} : near49 f = true ↔ Near49 f := by
  unfold near49
  simp only [List.all_cons, List.all_nil, Bool.and_true, Bool.and_eq_true, in49_iff, sideF_iff]
  constructor
  · rintro ⟨⟨⟨a1, a2⟩, ⟨b1, b2⟩, ⟨c1, c2⟩, d1, d2⟩, g⟩
    exact ⟨a1, a2, b1, b2, c1, c2, d1, d2, g⟩
  · rintro ⟨a1, a2, b1, b2, c1, c2, d1, d2, g⟩
    exact ⟨⟨⟨a1, a2⟩, ⟨b1, b2⟩, ⟨c1, c2⟩, d1, d2⟩, g⟩

theorem near49_all {fs : List Fl} (h : fs.all near49 = true) : ∀ f ∈ fs, Near49 f := fun f hf => near49_iff.1 (List.all_eq_true.1 h f hf)
theorem near49_near {fs : List Fl} (h : fs.all near49 = true) : fs.all nearF = true := by
  rw [List.all_eq_true]
  intro f hf
  obtain ⟨a1, a2, b1, b2, c1, c2, d1, d2, g⟩ := near49_all h f hf
  unfold nearF
  simp only [List.all_cons, List.all_nil, Bool.and_true, Bool.and_eq_true, inS_iff]
  omega
theorem near49_side {fs : List Fl} (h : fs.all near49 = true) : fs.all sideF = true := by
  rw [List.all_eq_true]
  intro f hf
  exact sideF_iff.2 (near49_all h f hf).sd

/-- The bands of near floats. -/
theorem bandL_49 {fs : List Fl} (h : fs.all near49 = true) (a z : Int) : bandL fs a z ≤ 562949953421312 ∧ -4503599627370496 ≤ bandL fs a z := by
  refine ⟨bandL_le.2 ⟨by unfold far; omega, fun f hf _ => (near49_all h f hf).r2⟩, ?_⟩
  have := (bandL_le.1 (Int.le_refl (bandL fs a z))).1
  unfold far at this; exact this
theorem bandR_49 {fs : List Fl} (h : fs.all near49 = true) (a z : Int) : -562949953421312 ≤ bandR fs a z ∧ bandR fs a z ≤ 4503599627370496 := by
  refine ⟨le_bandR.2 ⟨by unfold far; omega, fun f hf _ => (near49_all h f hf).l1⟩, ?_⟩
  have := (le_bandR.1 (Int.le_refl (bandR fs a z))).1
  unfold far at this; exact this

/-- May it stand between these bounds; where. -/
def okN (w : Wt) (L R : Int) : Bool :=
  decide (w.wd ≤ min w.t R - max w.f L) || (decide (w.t - w.f < w.wd) && (if w.s = 1 then decide (max w.f L = w.f) && decide (w.f + w.wd ≤ R) else decide (min w.t R = w.t) && decide (L ≤ w.t - w.wd)))
def edgeN (w : Wt) (L R : Int) : Int := if w.s = 1 then max w.f L else min w.t R - w.wd

theorem okN_iff {w : Wt} {L R : Int} : okN w L R = true ↔ w.wd ≤ min w.t R - max w.f L ∨ w.t - w.f < w.wd ∧ ((w.s = 1 ∧ L ≤ w.f ∧ w.f + w.wd ≤ R) ∨ (w.s ≠ 1 ∧ w.t ≤ R ∧ L ≤ w.t - w.wd)) := by
  unfold okN
  by_cases h : w.s = 1
  · rw [if_pos h]
    simp only [Bool.or_eq_true, Bool.and_eq_true, decide_eq_true_eq]
    omega
  · rw [if_neg h]
    simp only [Bool.or_eq_true, Bool.and_eq_true, decide_eq_true_eq]
    omega

theorem okN_more {w : Wt} {L R L' R' : Int} (h1 : L' ≤ L) (h2 : R ≤ R') (h : okN w L R = true) : okN w L' R' = true := by
  rw [okN_iff] at *
  omega

/-- May it stand at a height; its left edge there. -/
def okQ (fs : List Fl) (w : Wt) (y : Int) : Bool := okN w (bandL fs y (y + highZ w.ht)) (bandR fs y (y + highZ w.ht))
def edgeQ (fs : List Fl) (w : Wt) (y : Int) : Int := edgeN w (bandL fs y (y + highZ w.ht)) (bandR fs y (y + highZ w.ht))
def atQ (fs : List Fl) (w : Wt) (y : Int) : Int := if okQ fs w y then edgeQ fs w y else 0

/-- Where it starts. -/
def startQ (fs : List Fl) (w : Wt) : Int := if decide (0 < fs.length) && decide (clearS fs w.c w.y < lastD fs) then lastD fs else clearS fs w.c w.y

theorem startQ_last {fs : List Fl} {w : Wt} {f : Fl} (hf : f ∈ fs) : f.t ≤ startQ fs w := by
  have h1 := lastD_ge fs f hf
  have h2 : 0 < fs.length := List.length_pos_of_mem hf
  unfold startQ
  rw [decide_eq_true h2, Bool.true_and]
  split
  · exact h1
  · next h => simp at h; omega
theorem startQ_clear (fs : List Fl) (w : Wt) : clearS fs w.c w.y ≤ startQ fs w := by
  unfold startQ
  split
  · next h => simp at h; omega
  · exact Int.le_refl _
theorem startQ_ge (fs : List Fl) (w : Wt) : w.y ≤ startQ fs w := Int.le_trans (clearS_ge fs w.c w.y) (startQ_clear fs w)
theorem startQ_is (fs : List Fl) (w : Wt) : startQ fs w = w.y ∨ ∃ f ∈ fs, f.t = startQ fs w ∨ f.b = startQ fs w := by
  unfold startQ
  split
  · next h =>
    simp at h
    obtain ⟨f, hf, e⟩ := lastD_mem fs (by intro e; rw [e] at h; simp at h)
    exact .inr ⟨f, hf, .inl e⟩
  · rcases (clearS_is fs w.c w.y).1 with e | ⟨f, hf, e⟩
    · exact .inl e
    · exact .inr ⟨f, (List.mem_filter.1 hf).1, .inr e⟩
theorem startQ_le {fs : List Fl} {w : Wt} {z : Int} (h1 : clearS fs w.c w.y ≤ z) (h2 : ∀ f ∈ fs, f.t ≤ z) : startQ fs w ≤ z := by
  unfold startQ
  split
  · next h =>
    simp at h
    obtain ⟨f, hf, e⟩ := lastD_mem fs (by intro e; rw [e] at h; simp at h)
    have := h2 f hf
    omega
  · exact h1

theorem clearS_max (fs : List Fl) (c y t : Int) : clearS fs c (max y t) = max (clearS fs c y) t := by
  unfold clearS
  cases (botS fs c).2
  · simp
  · simp only [Bool.true_and, decide_eq_true_eq]
    split <;> split <;> omega

theorem start_prog (fs : List Fl) (w : Wt) : startQ fs w = if decide (0 < fs.length) then clearS fs w.c (max w.y (lastD fs)) else clearS fs w.c w.y := by
  unfold startQ
  by_cases h : 0 < fs.length
  · rw [decide_eq_true h, if_pos rfl, clearS_max]
    simp only [Bool.true_and, decide_eq_true_eq]
    split <;> omega
  · rw [decide_eq_false h]; simp

theorem startQ_49 {fs : List Fl} {w : Wt} (h : fs.all near49 = true) (hw : RightW w) : -562949953421312 ≤ startQ fs w ∧ startQ fs w ≤ 562949953421312 := by
  have h1 := startQ_ge fs w
  have := hw.y1
  have := hw.y2
  refine ⟨by omega, ?_⟩
  rcases startQ_is fs w with e | ⟨f, hf, e | e⟩
  · omega
  · have := (near49_all h f hf).t2; omega
  · have := (near49_all h f hf).b2; omega

/-- From where all floats have begun on, the first row tells for all. -/
theorem hit_first {side y h : Int} {f : Fl} (hy : f.t ≤ y) (hh : 1 ≤ h) : hitF side y (y + h) f = hitF side y (y + 1) f := by
  rw [Bool.eq_iff_iff, hitF_iff, hitF_iff]
  constructor
  · rintro ⟨a, b, c, d, e⟩; exact ⟨a, b, by omega, d, by omega⟩
  · rintro ⟨a, b, c, d, e⟩; exact ⟨a, b, by omega, d, by omega⟩
theorem bandL_first {fs : List Fl} {y h : Int} (hy : ∀ f ∈ fs, f.t ≤ y) (hh : 1 ≤ h) : bandL fs y (y + h) = bandL fs y (y + 1) :=
  eq_of_le fun v => by
    rw [bandL_le, bandL_le]
    exact ⟨fun ⟨a, b⟩ => ⟨a, fun f hf q => b f hf (by rw [hit_first (hy f hf) hh]; exact q)⟩, fun ⟨a, b⟩ => ⟨a, fun f hf q => b f hf (by rw [← hit_first (hy f hf) hh]; exact q)⟩⟩
theorem bandR_first {fs : List Fl} {y h : Int} (hy : ∀ f ∈ fs, f.t ≤ y) (hh : 1 ≤ h) : bandR fs y (y + h) = bandR fs y (y + 1) :=
  eq_of_ge fun v => by
    rw [le_bandR, le_bandR]
    exact ⟨fun ⟨a, b⟩ => ⟨a, fun f hf q => b f hf (by rw [hit_first (hy f hf) hh]; exact q)⟩, fun ⟨a, b⟩ => ⟨a, fun f hf q => b f hf (by rw [← hit_first (hy f hf) hh]; exact q)⟩⟩

/-- The same want, one row high. -/
def flat (w : Wt) : Wt := { w with ht := 1 }
theorem start_flat (fs : List Fl) (w : Wt) : startQ fs (flat w) = startQ fs w := rfl
theorem right_flat {w : Wt} (h : RightW w) : RightW (flat w) := ⟨h.f1, h.f2, h.t1, h.t2, h.wd1, h.wd2, show (-281474976710656 : Int) ≤ 1 by decide, show (1 : Int) ≤ 281474976710656 by decide, h.y1, h.y2, h.sd, h.cl, h.ft⟩

theorem ok_flat {fs : List Fl} {w : Wt} {y : Int} (hy : startQ fs w ≤ y) : okQ fs w y = okQ fs (flat w) y := by
  have ha : ∀ f ∈ fs, f.t ≤ y := fun f hf => Int.le_trans (startQ_last hf) hy
  unfold okQ
  rw [bandL_first ha (highZ_pos w.ht), bandR_first ha (highZ_pos w.ht)]
  rfl
theorem edge_flat {fs : List Fl} {w : Wt} {y : Int} (hy : startQ fs w ≤ y) : edgeQ fs w y = edgeQ fs (flat w) y := by
  have ha : ∀ f ∈ fs, f.t ≤ y := fun f hf => Int.le_trans (startQ_last hf) hy
  unfold edgeQ
  rw [bandL_first ha (highZ_pos w.ht), bandR_first ha (highZ_pos w.ht)]
  rfl

/-- Farther down there is no less room. -/
theorem ok_down {fs : List Fl} {w : Wt} {y z : Int} (hy : startQ fs w ≤ y) (hz : y ≤ z) (h : okQ fs w y = true) : okQ fs w z = true := by
  rw [ok_flat hy] at h
  rw [ok_flat (Int.le_trans hy hz)]
  have ha : ∀ f ∈ fs, f.t ≤ y := fun f hf => Int.le_trans (startQ_last hf) hy
  refine okN_more ?_ ?_ h
  · rw [bandL_le]
    refine ⟨(bandL_le.1 (Int.le_refl _)).1, fun f hf q => (bandL_le.1 (Int.le_refl _)).2 f hf ?_⟩
    rw [show highZ (flat w).ht = 1 from rfl, hitF_iff] at q ⊢
    have := ha f hf
    exact ⟨q.1, q.2.1, by omega, by have := q.2.2.2.1; omega, by omega⟩
  · rw [le_bandR]
    refine ⟨(le_bandR.1 (Int.le_refl _)).1, fun f hf q => (le_bandR.1 (Int.le_refl _)).2 f hf ?_⟩
    rw [show highZ (flat w).ht = 1 from rfl, hitF_iff] at q ⊢
    have := ha f hf
    exact ⟨q.1, q.2.1, by omega, by have := q.2.2.2.1; omega, by omega⟩

/-- Where nothing is any more it may stand. -/
theorem ok_free {fs : List Fl} {w : Wt} {y : Int} (hw : RightW w) (h : bndF fs y = (-far, far)) : okQ fs (flat w) y = true := by
  unfold okQ
  have e1 : bandL fs y (y + highZ (flat w).ht) = -far := congrArg Prod.fst h
  have e2 : bandR fs y (y + highZ (flat w).ht) = far := congrArg Prod.snd h
  rw [e1, e2, okN_iff]
  obtain ⟨f1, f2, t1, t2, wd1, wd2, ht1, ht2, y1, y2, sd, cl, ft⟩ := hw
  show w.wd ≤ _ ∨ _
  unfold far flat
  simp only
  omega

/-- What is in a row tells whether it may stand there. -/
theorem ok_row {fs : List Fl} {w : Wt} {y z : Int} (h : bndF fs y = bndF fs z) : okQ fs (flat w) y = okQ fs (flat w) z := by
  unfold okQ
  have e1 : bandL fs y (y + highZ (flat w).ht) = bandL fs z (z + highZ (flat w).ht) := congrArg Prod.fst h
  have e2 : bandR fs y (y + highZ (flat w).ht) = bandR fs z (z + highZ (flat w).ht) := congrArg Prod.snd h
  rw [e1, e2]

/-- It stands at the highest place where it may. -/
def Finds (fs : List Fl) (w : Wt) (y : Int) : Prop := startQ fs w ≤ y ∧ okQ fs w y = true ∧ ∀ z, startQ fs w ≤ z → z < y → okQ fs w z = false

theorem finds_one {fs : List Fl} {w : Wt} {y z : Int} (h : Finds fs w y) (k : Finds fs w z) : y = z := by
  rcases Int.lt_trichotomy y z with g | g | g
  · have := k.2.2 y h.1 g; rw [h.2.1] at this; cases this
  · exact g
  · have := h.2.2 z k.1 g; rw [k.2.1] at this; cases this
theorem finds_le {fs : List Fl} {w : Wt} {y z : Int} (h : Finds fs w y) (h1 : startQ fs w ≤ z) (h2 : okQ fs w z = true) : y ≤ z := by
  by_cases g : z < y
  · have := h.2.2 z h1 g; rw [h2] at this; cases this
  · omega

/-- The place; the left edge there. -/
def findY (fs : List Fl) (w : Wt) : Int := atD (okQ fs (flat w)) (topsD fs (startQ fs w))
def findX (fs : List Fl) (w : Wt) : Int := edgeQ fs (flat w) (findY fs w)

theorem atD_at (q : Int → Bool) (fs : List Fl) (y : Int) : (topsD fs y)[stopN q (topsD fs y)]? = some (atD q (topsD fs y)) := by
  have hlt := stopN_lt q (topsD fs y) (by unfold topsD; simp)
  unfold atD
  rw [List.getD_eq_getElem?_getD, List.getElem?_eq_getElem hlt]
  rfl

theorem tops_ge {fs : List Fl} {y z : Int} (h : z ∈ topsD fs y) : y ≤ z := by
  unfold topsD at h
  rcases List.mem_cons.1 h with e | e
  · omega
  · obtain ⟨s, hs, rfl⟩ := List.mem_map.1 e
    have := (List.mem_filter.1 hs).2
    simp at this
    omega

theorem find_is {fs : List Fl} {w : Wt} (h : fs.all near49 = true) (hw : RightW w) : Finds fs w (findY fs w) := by
  have hn := near_of (near49_near h)
  have hs := startQ_49 h hw
  have hat := atD_at (okQ fs (flat w)) fs (startQ fs w)
  have hge : startQ fs w ≤ findY fs w := tops_ge (List.mem_of_getElem? hat)
  refine ⟨hge, ?_, fun z h1 h2 => ?_⟩
  · rw [ok_flat hge]
    rcases stopN_yes _ _ _ hat with e | e
    · exact e
    · refine ok_free hw ?_
      have hbig : bndF fs (max (findY fs w) 562949953421312) = (-far, far) := bnd_free fun f hf _ => .inr (by have := (near49_all h f hf).b2; omega)
      rw [← hbig]
      symm
      refine bnd_between hn (by unfold far; omega) (fun s hs' hlt => ?_) _ (by omega) (Int.le_refl _)
      exfalso
      obtain ⟨j, hj⟩ := List.getElem?_of_mem (tops_has hs' (show startQ fs w < s.1 by omega))
      have hr := tops_rise hn (startQ fs w)
      have hjl := (List.getElem?_eq_some_iff.1 hj).1
      rcases Nat.lt_or_ge j (stopN (okQ fs (flat w)) (topsD fs (startQ fs w))) with g | g
      · have := rise_at hr hj hat g
        unfold findY at hlt
        omega
      · have e2 : j = stopN (okQ fs (flat w)) (topsD fs (startQ fs w)) := by omega
        rw [e2, hat] at hj
        injection hj with e3
        unfold findY at hlt
        omega
  · rw [ok_flat h1]
    refine first_none hn (by unfold far; omega) _ (fun z0 x g1 g2 g3 => ?_) z h1 h2
    rw [← ok_row (g2 x g1 (Int.le_refl _))]
    exact g3

theorem findX_is {fs : List Fl} {w : Wt} (h : fs.all near49 = true) (hw : RightW w) : findX fs w = edgeQ fs w (findY fs w) := (edge_flat (find_is h hw).1).symm

/-- Numbers of what is found. -/
theorem findY_49 {fs : List Fl} {w : Wt} (h : fs.all near49 = true) (hw : RightW w) : -562949953421312 ≤ findY fs w ∧ findY fs w ≤ 562949953421312 := by
  have hf := find_is h hw
  have hs := startQ_49 h hw
  have h1 := hf.1
  refine ⟨by omega, finds_le hf hs.2 ?_⟩
  rw [ok_flat hs.2]
  exact ok_free hw (bnd_free fun f hf _ => .inr (near49_all h f hf).b2)

theorem edgeN_49 {w : Wt} {L R : Int} (hw : RightW w) (hL : L ≤ 562949953421312) (hR : -562949953421312 ≤ R) (hok : okN w L R = true) : -562949953421312 ≤ edgeN w L R ∧ edgeN w L R ≤ 562949953421312 ∧ -562949953421312 ≤ edgeN w L R + w.wd ∧ edgeN w L R + w.wd ≤ 562949953421312 := by
  obtain ⟨f1, f2, t1, t2, wd1, wd2, ht1, ht2, y1, y2, sd, cl, ft⟩ := hw
  rw [okN_iff] at hok
  unfold edgeN
  by_cases e : w.s = 1
  · rw [if_pos e]; omega
  · rw [if_neg e]; omega

theorem find_49 {fs : List Fl} {w : Wt} (h : fs.all near49 = true) (hw : RightW w) : -562949953421312 ≤ findX fs w ∧ findX fs w ≤ 562949953421312 ∧ -562949953421312 ≤ findX fs w + w.wd ∧ findX fs w + w.wd ≤ 562949953421312 := by
  rw [findX_is h hw]
  exact edgeN_49 hw (bandL_49 h _ _).1 (bandR_49 h _ _).1 (find_is h hw).2.1

/-- The float that it becomes. -/
def placed (fs : List Fl) (w : Wt) : Fl := ⟨w.s, findX fs w, findY fs w, findX fs w + w.wd, findY fs w + w.ht⟩

theorem placed_near {fs : List Fl} {w : Wt} (h : fs.all near49 = true) (hw : RightW w) : nearF (placed fs w) = true := by
  have h1 := find_49 h hw
  have h2 := findY_49 h hw
  have := hw.ht1
  have := hw.ht2
  unfold nearF placed
  simp only [List.all_cons, List.all_nil, Bool.and_true, Bool.and_eq_true, inS_iff]
  omega

end Go.Proofs.Ytdibdfalahjmbaa.Place
