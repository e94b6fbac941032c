/- Texts of this proof that follow each other, in one file. -/
import Derived.Test.YtnmfgcdenngpfaaPart8
import Derived.Test.YtnmfgcdenngpfaaPart1
import Derived.Laws.OwnMore
import Derived.ProofKit
import Derived.OpenShut
import Derived.Carry
import Derived.Deep.Slices
/-! How wide boxes are, and where their contents begin, by the boxes around. No program is in it. -/
namespace Go.Proofs.Ytnmfgcdenngpfaa.Width
open Go.Proofs.Ytnmfgcdenngpfaa.Record Go.Proofs.Ytnmfgcdenngpfaa.Script Go.Proofs.Ytnmfgcdenngpfaa.Tree

def sideZ (b : Bx) : Int := b.m1 + b.m3 + b.e1 + b.e3
/-- The content width in a content that is x wide. -/
def conZ (b : Bx) (x : Int) : Int := if 0 ≤ b.w then b.w else if x - sideZ b < 0 then 0 else x - sideZ b
def borZ (b : Bx) (x : Int) : Int := x + b.e1 + b.e3
def marZ (b : Bx) (x : Int) : Int := x + sideZ b

/-- How wide a box's content is in a list. -/
def widD (bs : List Bx) (i : Nat) : Int :=
  if _h : 0 ≤ par (dOf bs) i then conZ (bs.getD i noB) (widD bs (par (dOf bs) i).toNat) else (bs.getD i noB).w
termination_by i
decreasing_by have := par_bounds (dOf bs) i; omega

/-- Does a box's content begin at 0? -/
def selfB (b : Bx) : Bool := decide (b.k = 5) || openB b.k

/-- Where a box's content begins. -/
def lefD (bs : List Bx) (i : Nat) : Int :=
  if selfB (bs.getD i noB) then 0
  else if _h : 0 ≤ par (dOf bs) i then lefD bs (par (dOf bs) i).toNat + (bs.getD i noB).m3 + (bs.getD i noB).e3 else 0
termination_by i
decreasing_by have := par_bounds (dOf bs) i; omega

theorem widD_top {bs : List Bx} {i : Nat} (h : par (dOf bs) i < 0) : widD bs i = (bs.getD i noB).w := by
  rw [widD, dif_neg (by omega)]
theorem widD_in {bs : List Bx} {i p : Nat} (h : par (dOf bs) i = (p : Int)) : widD bs i = conZ (bs.getD i noB) (widD bs p) := by
  rw [widD, dif_pos (by omega)]
  rw [h, Int.toNat_natCast]
theorem lefD_self {bs : List Bx} {i : Nat} (h : selfB (bs.getD i noB) = true) : lefD bs i = 0 := by
  rw [lefD, if_pos h]
theorem lefD_in {bs : List Bx} {i p : Nat} (h : selfB (bs.getD i noB) = false) (hp : par (dOf bs) i = (p : Int)) : lefD bs i = lefD bs p + (bs.getD i noB).m3 + (bs.getD i noB).e3 := by
  rw [lefD, if_neg (by rw [h]; exact Bool.false_ne_true), dif_pos (by omega)]
  rw [hp, Int.toNat_natCast]

theorem lefD_none {bs : List Bx} {i : Nat} (h : selfB (bs.getD i noB) = false) (hp : par (dOf bs) i < 0) : lefD bs i = 0 := by
  rw [lefD, if_neg (by rw [h]; exact Bool.false_ne_true), dif_neg (by omega)]

/-- Margins and edges of a box that may be. -/
structure Small (b : Bx) : Prop where
  w : -268435456 ≤ b.w ∧ b.w ≤ 268435456
  m1 : -268435456 ≤ b.m1 ∧ b.m1 ≤ 268435456
  m3 : -268435456 ≤ b.m3 ∧ b.m3 ≤ 268435456
  e1 : -268435456 ≤ b.e1 ∧ b.e1 ≤ 268435456
  e3 : -268435456 ≤ b.e3 ∧ b.e3 ≤ 268435456

theorem small_of {b : Bx} (h : pickN (brokenOf b) = 0) : Small b := by
  have hg := (good_iff b).1 h
  have h1 := hg.wh
  have h2 := hg.m
  have h3 := hg.e
  simp only [List.any_cons, List.any_nil, Bool.or_false, Bool.or_eq_false_iff] at h1 h2 h3
  unfold bigB at h1 h2 h3
  exact ⟨bey_no.1 h1.1, bey_no.1 h2.2.1, bey_no.1 h2.2.2.2, bey_no.1 h3.2.1, bey_no.1 h3.2.2.2⟩

theorem sideZ_bound {b : Bx} (h : Small b) : -1073741824 ≤ sideZ b ∧ sideZ b ≤ 1073741824 := by
  have h1 := h.m1
  have h2 := h.m3
  have h3 := h.e1
  have h4 := h.e3
  unfold sideZ
  omega

theorem conZ_bound {b : Bx} (h : Small b) {x m : Int} (h1 : 268435456 ≤ m) (h0 : x ≤ m) : 0 ≤ conZ b x ∧ conZ b x ≤ m + 1073741824 := by
  have h2 := h.w
  have h3 := sideZ_bound h
  unfold conZ
  split
  · omega
  · split <;> omega

theorem fine_root {bs : List Bx} {m : Nat} (h : Fine bs m) (hm : 0 < m) : (bs.getD 0 noB).k = 3 ∧ 0 ≤ (bs.getD 0 noB).w := by
  have h0 := h 0 hm
  have hc := h.check hm
  have hb := badAt_root (v := rootB (bs.getD 0 noB)) rfl hc rfl
  rw [h0] at hb
  have hr : rootB (bs.getD 0 noB) = true := by
    cases hv : rootB (bs.getD 0 noB)
    · rw [hv] at hb; simp at hb
    · rfl
  unfold rootB at hr
  simp only [Bool.and_eq_true, beq_iff_eq, Bool.not_eq_true', decide_eq_false_iff_not] at hr
  exact ⟨hr.1.1.1.2, by omega⟩

/-- Of a fine list: what is wide, and where it begins, are numbers that aren't great. -/
theorem wide_bound {bs : List Bx} {n : Nat} (hs : Shape (dOf bs) n) (hf : Fine bs n) : ∀ m i, i < m → i < n → 0 ≤ widD bs i ∧ widD bs i ≤ ((i : Int) + 1) * 1073741824 := by
  intro m
  induction m with
  | zero => intro i h; omega
  | succ m ih =>
    intro i h hi
    have hsm := small_of (hf.check hi)
    rcases Nat.eq_zero_or_pos i with h0 | h0
    · subst h0
      have hp := par_bounds (dOf bs) 0
      rw [widD_top (by omega)]
      have := hsm.w
      have := (fine_root hf hi).2
      omega
    · obtain ⟨p, hp0, hp, -, -⟩ := hs.parent i h0 hi
      have hpi : par (dOf bs) i = (p : Int) := hp0
      have := ih p (by omega) (by omega)
      rw [widD_in hpi]
      have h5 := conZ_bound hsm (x := widD bs p) (m := ((p : Int) + 1) * 1073741824) (by omega) this.2
      omega

theorem left_bound {bs : List Bx} {n : Nat} (hs : Shape (dOf bs) n) (hf : Fine bs n) : ∀ m i, i < m → i < n → -(((i : Int) + 1) * 1073741824) ≤ lefD bs i ∧ lefD bs i ≤ ((i : Int) + 1) * 1073741824 := by
  intro m
  induction m with
  | zero => intro i h; omega
  | succ m ih =>
    intro i h hi
    have hsm := small_of (hf.check hi)
    cases hv : selfB (bs.getD i noB)
    · rcases Nat.eq_zero_or_pos i with h0 | h0
      · subst h0
        unfold selfB openB at hv
        rw [(fine_root hf hi).1] at hv
        exact absurd hv (by decide)
      · obtain ⟨p, hp0, hp, -, -⟩ := hs.parent i h0 hi
        have hpi : par (dOf bs) i = (p : Int) := hp0
        have := ih p (by omega) (by omega)
        rw [lefD_in hv hpi]
        have h2 := hsm.m3
        have h3 := hsm.e3
        omega
    · rw [lefD_self hv]; omega

end Go.Proofs.Ytnmfgcdenngpfaa.Width

/-! The contracts of the document's own answers of one box: how wide it is, with and without edges and margins. -/
namespace Go.Proofs.Ytnmfgcdenngpfaa.Width
open Go.RowKit Go.Sort Go.Proofs.Ytnmfgcdenngpfaa.Record Go.Proofs.Ytnmfgcdenngpfaa.Script Go.Proofs.Ytnmfgcdenngpfaa.Tree

def okX (x : Int) : Bool := decide (-35184372088832 ≤ x) && decide (x ≤ 35184372088832)

theorem okX_iff {x : Int} : okX x = true ↔ -35184372088832 ≤ x ∧ x ≤ 35184372088832 := by
  unfold okX; simp

theorem refsmall_is (x : Int) (v : Bool) (hv : okX x = v) (w : World) : Calls Try.prog 9 #[.int .i64 x] w fun e w' => e = .returned (.bool v) ∧ Below w.heap.size w w' := by
  unfold okX at hv
  obtain ⟨a, ha⟩ : ∃ a : Bool, decide (-35184372088832 ≤ x) = a := ⟨_, rfl⟩
  obtain ⟨b, hb⟩ : ∃ b : Bool, decide (x ≤ 35184372088832) = b := ⟨_, rfl⟩
  rw [ha, hb] at hv
  have HV := Lib.hid hv
  clear hv
  cases a
  · go_enter Try.func9, Try.ntmps9
    go_wp2_with fail
    go_ret
    exact ⟨by rw [← HV.out]; rfl, Below.refl _ _⟩
  · cases b
    all_goals
      go_enter Try.func9, Try.ntmps9
      go_wp2_with fail
      go_ret
      exact ⟨by rw [← HV.out]; rfl, Below.refl _ _⟩

set_option maxHeartbeats 1000000 in
theorem refsides_any (b : Bx) (h : Small b) (w : World) : Calls Try.prog 27 #[b.v] w fun e w' => e = .returned (.int .i64 (sideZ b)) ∧ Below w.heap.size w w' := by
  have h1 := h.m1
  have h2 := h.m3
  have h3 := h.e1
  have h4 := h.e3
  have a1 : IntKind.i64.wrap (b.m1 + b.m3) = b.m1 + b.m3 := IntWalk.i64_in _ (by omega)
  have a2 : IntKind.i64.wrap (b.m1 + b.m3 + b.e1) = b.m1 + b.m3 + b.e1 := IntWalk.i64_in _ (by omega)
  have a3 : IntKind.i64.wrap (b.m1 + b.m3 + b.e1 + b.e3) = sideZ b := IntWalk.i64_in _ (by omega)
  clear h1 h2 h3 h4 h
  go_enter Try.func27, Try.ntmps27
  go_wp2_with fail
  go_ret
  exact ⟨rfl, ba1 _ _⟩

set_option maxHeartbeats 1000000 in
theorem refcon_any (b : Bx) (h : Small b) (x : Int) (hx : -70368744177664 ≤ x ∧ x ≤ 70368744177664) (w : World) : Calls Try.prog 12 #[b.v, .int .i64 x] w fun e w' => e = .returned (.int .i64 (conZ b x)) ∧ Below w.heap.size w w' := by
  have HS := Lib.hid (fun w => refsides_any b h w)
  obtain ⟨y, hy⟩ : ∃ y, sideZ b = y := ⟨_, rfl⟩
  have hb := sideZ_bound h
  have a1 : IntKind.i64.wrap (x - y) = x - y := IntWalk.i64_in _ (by omega)
  have hv : conZ b x = if 0 ≤ b.w then b.w else if x - y < 0 then 0 else x - y := by unfold conZ; rw [hy]
  rw [hv]
  rw [hy] at HS
  clear h hx hb hy hv
  by_cases c1 : 0 ≤ b.w
  · rw [if_pos c1]
    clear HS a1
    go_enter Try.func12, Try.ntmps12
    go_wp2_with fail
    go_ret
    exact ⟨rfl, ba1 _ _⟩
  · rw [if_neg c1]
    by_cases c2 : x - y < 0
    · rw [if_pos c2]
      go_enter Try.func12, Try.ntmps12
      go_wp2_with (first
        | (go_at_call 27; refine (HS.out _).mono ?_; rintro e w1 ⟨rfl, k1⟩; have K1 := Lib.hid (thru (ba1 w _) k1); clear k1))
      go_ret
      exact ⟨rfl, K1.out⟩
    · rw [if_neg c2]
      go_enter Try.func12, Try.ntmps12
      go_upto_region 4 with (first
        | (go_at_call 27; refine (HS.out _).mono ?_; rintro e w1 ⟨rfl, k1⟩; have K1 := Lib.hid (thru (ba1 w _) k1); obtain ⟨hc, hf⟩ := bcell k1; clear k1))
      go_wp2_with (first
        | (go_at_call 27; refine (HS.out _).mono ?_; rintro e w2 ⟨rfl, k2⟩; have K2 := Lib.hid (thru K1.out k2); clear k2))
      go_ret
      exact ⟨rfl, K2.out⟩

set_option maxHeartbeats 1000000 in
theorem refbor_any (b : Bx) (h : Small b) (x : Int) (hx : -70368744177664 ≤ x ∧ x ≤ 70368744177664) (w : World) : Calls Try.prog 14 #[b.v, .int .i64 x] w fun e w' => e = .returned (.int .i64 (borZ b x)) ∧ Below w.heap.size w w' := by
  have h3 := h.e1
  have h4 := h.e3
  have a1 : IntKind.i64.wrap (x + b.e1) = x + b.e1 := IntWalk.i64_in _ (by omega)
  have a2 : IntKind.i64.wrap (x + b.e1 + b.e3) = borZ b x := IntWalk.i64_in _ (by omega)
  clear h h3 h4 hx
  go_enter Try.func14, Try.ntmps14
  go_wp2_with fail
  go_ret
  exact ⟨rfl, ba1 _ _⟩

set_option maxHeartbeats 1000000 in
theorem refmar_any (b : Bx) (h : Small b) (x : Int) (hx : -70368744177664 ≤ x ∧ x ≤ 70368744177664) (w : World) : Calls Try.prog 16 #[b.v, .int .i64 x] w fun e w' => e = .returned (.int .i64 (marZ b x)) ∧ Below w.heap.size w w' := by
  have HS := Lib.hid (fun w => refsides_any b h w)
  have hb := sideZ_bound h
  have a1 : IntKind.i64.wrap (x + sideZ b) = marZ b x := IntWalk.i64_in _ (by omega)
  clear h hx hb
  go_enter Try.func16, Try.ntmps16
  go_wp2_with (first
    | (go_at_call 27; refine (HS.out _).mono ?_; rintro e w1 ⟨rfl, k1⟩; have K1 := Lib.hid (thru (ba1 w _) k1); clear k1))
  go_ret
  exact ⟨rfl, K1.out⟩

end Go.Proofs.Ytnmfgcdenngpfaa.Width

/-! Lists of one's own of whatever lies in several cells (structs of numbers): read, appended to, and turned in place. -/
namespace Go.Proofs.Ytnmfgcdenngpfaa.More
open Go.RowKit

/-- How the values of a kind lie in cells. -/
structure Enc (α : Type) where
  size : Nat
  cells : α → List Value
  len : ∀ a, (cells a).length = size
  one : ∀ a, ∀ u ∈ cells a, u.oneCell' = true
  pos : 0 < size

section
variable {α : Type} (E : Enc α)

theorem Enc.flat_len (xs : List α) : (xs.flatMap E.cells).length = xs.length * E.size := by
  induction xs with
  | nil => simp
  | cons x xs ih => simp only [List.flatMap_cons, List.length_append, E.len, ih, List.length_cons, Nat.add_mul, Nat.one_mul]; omega

theorem Enc.flat_at (xs : List α) : ∀ (k : Nat) (a : α), xs[k]? = some a → ∀ j, j < E.size → (xs.flatMap E.cells)[k * E.size + j]? = (E.cells a)[j]? := by
  induction xs with
  | nil => intro k a h; simp at h
  | cons x xs ih =>
    intro k a h j hj
    rw [List.flatMap_cons]
    cases k with
    | zero =>
      obtain rfl : x = a := by simpa using h
      rw [Nat.zero_mul, Nat.zero_add, List.getElem?_append_left (by rw [E.len]; exact hj)]
    | succ k =>
      have e : (k + 1) * E.size + j - E.size = k * E.size + j := by rw [Nat.add_mul, Nat.one_mul]; omega
      rw [List.getElem?_append_right (by rw [E.len, Nat.add_mul, Nat.one_mul]; omega), E.len, e]
      exact ih k a (by simpa using h) j hj

theorem Enc.flat_set (xs : List α) : ∀ (k : Nat) (a a' : α) (j : Nat) (u : Value), xs[k]? = some a → j < E.size → E.cells a' = (E.cells a).set j u → (xs.flatMap E.cells).set (k * E.size + j) u = (xs.set k a').flatMap E.cells := by
  induction xs with
  | nil => intro k a a' j u h; simp at h
  | cons x xs ih =>
    intro k a a' j u h hj hc
    cases k with
    | zero =>
      obtain rfl : x = a := by simpa using h
      rw [List.flatMap_cons, Nat.zero_mul, Nat.zero_add, List.set_append_left _ _ (by rw [E.len]; exact hj), List.set_cons_zero, List.flatMap_cons, hc]
    | succ k =>
      have e : (k + 1) * E.size + j - E.size = k * E.size + j := by rw [Nat.add_mul, Nat.one_mul]; omega
      rw [List.flatMap_cons, List.set_append_right _ _ (by rw [E.len, Nat.add_mul, Nat.one_mul]; omega), E.len, e, List.set_cons_succ, List.flatMap_cons]
      congr 1
      exact ih k a a' j u (by simpa using h) hj hc

theorem Enc.flat_cells (xs : List α) : ∀ u ∈ xs.flatMap E.cells, u.oneCell' = true := by
  intro u hu
  rw [List.mem_flatMap] at hu
  obtain ⟨a, _, h⟩ := hu
  exact E.one a u h

/-- A slice of one's own. -/
def MineE (T : TypeId) (w : World) (B : Nat) (A : Option Addr) (n c : Nat) (xs : List α) : Prop :=
  w.ownsRow B T E.size (.slice A n c) n (xs.flatMap E.cells)

theorem shapeE {T : TypeId} {w : World} {B : Nat} {s : Nat} {v : Value} {n : Nat} {xs : List Value} (h : w.ownsRow B T s v n xs) : ∃ A c, v = .slice A n c := by
  rcases h.2 with ⟨rfl, rfl⟩ | ⟨g, cap, cur, rfl, _⟩
  · exact ⟨none, 0, rfl⟩
  · exact ⟨_, _, rfl⟩

section
variable {E} {T : TypeId} {w w' : World} {B : Nat} {A : Option Addr} {n c : Nat} {xs : List α}

theorem MineE.len (h : MineE E T w B A n c xs) : xs.length = n := by
  have := h.1
  rw [E.flat_len] at this
  exact Nat.eq_of_mul_eq_mul_right E.pos this

theorem MineE.lt (h : MineE E T w B A n c xs) : ∀ k, blk A = some k → B ≤ k ∧ k < w.heap.size := by
  intro k hk
  exact World.ownsRow.lt h k (by rw [ownBlock_blk]; exact hk)

theorem MineE.mono {C : Nat} (h : MineE E T w B A n c xs) (hC : C ≤ B) : MineE E T w C A n c xs := by
  refine ⟨h.1, ?_⟩
  rcases h.2 with h | ⟨g, cap, cur, e, hb, r⟩
  · exact .inl h
  · exact .inr ⟨g, cap, cur, e, by omega, r⟩

theorem MineE.kept {row : Option Nat} (h : MineE E T w B A n c xs) (hg : w.grownBy w' row) (hne : ∀ k, blk A = some k → row ≠ some k) : MineE E T w' B A n c xs := by
  refine World.ownsRow.kept h hg ?_
  rw [ownBlock_blk]
  cases hb : blk A with
  | none => exact .inl rfl
  | some k => exact .inr fun e => hne k hb e.symm

theorem MineE.below (h : MineE E T w B A n c xs) (hb : Below w.heap.size w w') : MineE E T w' B A n c xs :=
  h.kept (grown_of_below hb) (fun k _ e => by cases e)

theorem MineE.alloc (h : MineE E T w B A n c xs) (o : Obj) : MineE E T (w.alloc o) B A n c xs := World.ownsRow.alloc h o
theorem MineE.drew (h : MineE E T w B A n c xs) : MineE E T w.drew B A n c xs := h

/-- Where a list lies that has something. -/
theorem MineE.form (h : MineE E T w B A n c xs) (hn : 0 < n) : ∃ g, A = some ⟨g, 0, none⟩ ∧ B ≤ g ∧ g < w.heap.size ∧ n ≤ c ∧ c ≤ maxLen := by
  rcases h.2 with ⟨_, h0⟩ | ⟨g, cap, cur, e, hb, hg, hc, hm, _⟩
  · omega
  · injection e with e1 e2 e3
    subst e1 e3
    exact ⟨g, rfl, hb, (Array.getElem?_eq_some_iff.1 hg).1, hc, hm⟩

theorem MineE.at {g : Nat} (h : MineE E T w B (some ⟨g, 0, none⟩) n c xs) (k : Nat) (a : α) (ha : xs[k]? = some a) (j : Nat) (hj : j < E.size) : w.cell? ⟨g, k * E.size + j, none⟩ = (E.cells a)[j]? := by
  have hl := h.len
  have hk := (List.getElem?_eq_some_iff.1 ha).1
  have h1 : k * E.size + j < n * E.size := by
    have h2 : (k + 1) * E.size ≤ n * E.size := Nat.mul_le_mul_right _ (by omega)
    rw [Nat.add_mul, Nat.one_mul] at h2
    omega
  rw [World.ownsRow.cellAt h _ h1, E.flat_at xs k a ha j hj]

theorem MineE.frozen {g : Nat} (h : MineE E T w B (some ⟨g, 0, none⟩) n c xs) (j : Nat) : w.frozen? ⟨g, j, none⟩ = false := World.ownsRow.frozenAt h j

/-- One cell of one of them is turned. -/
theorem MineE.stored {g : Nat} (h : MineE E T w B (some ⟨g, 0, none⟩) n c xs) (k : Nat) (a a' : α) (ha : xs[k]? = some a) (j : Nat) (hj : j < E.size) (u : Value) (hc : E.cells a' = (E.cells a).set j u) :
    MineE E T (w.setCell ⟨g, k * E.size + j, none⟩ u) B (some ⟨g, 0, none⟩) n c (xs.set k a') ∧ w.grownBy (w.setCell ⟨g, k * E.size + j, none⟩ u) (some g) := by
  obtain ⟨h1, h2⟩ := World.ownsRow.stored h (k * E.size + j) u
  refine ⟨?_, h2⟩
  unfold MineE
  rw [← E.flat_set xs k a a' j u ha hj hc]
  exact h1

end

/-- What is appended: m of them, of a slice, nil or not. -/
def SrcE (w : World) (A : Option Addr) (m c : Nat) (ys : List α) : Prop :=
  ys.length = m ∧ (A = none → c = 0) ∧ ∀ j u, (ys.flatMap E.cells)[j]? = some u → ∃ ad : Addr, A = some ad ∧ w.cell? (ad.add j) = some u

/-- What the model knows of a type. -/
def InfoE (T TS : TypeId) (bytes : Nat) : Prop :=
  Try.prog.underlying TS = some (.slice T) ∧ ∃ z : Value, z.cells.size = E.size ∧ (Try.prog.info? T).map (fun i => (i.zero, i.size, i.bytes)) = some (some z, E.size, bytes)

/-- What an append leaves. -/
def AppendedE (T : TypeId) (w : World) (B : Nat) (A : Option Addr) (n : Nat) (xs ys : List α) (m : Nat) (A' : Option Addr) (c' : Nat) (w' : World) : Prop :=
  MineE E T w' B A' (n + m) c' (xs ++ ys) ∧ w.grownBy w' (blk A) ∧ (blk A' = blk A ∨ blk A' = some w.heap.size)

theorem run_append_E {T TS : TypeId} {bytes : Nat} (hb2 : bytes ≤ 10000) (hT : InfoE E T TS bytes) (ty : TypeId) (w : World) (B : Nat) (A : Option Addr) (n c : Nat) (xs : List α) (hown : MineE E T w B A n c xs) (A2 : Option Addr) (m c2 : Nat) (ys : List α) (hs : SrcE E w A2 m c2 ys)
    (hlen : n + m ≤ 1000000) (hB : B ≤ w.heap.size) :
    ∃ A' c' w', (Builtin.append_ #[TS, TS] ty #[.slice A n c, .slice A2 m c2]).run Try.prog w = .ok (.slice A' (n + m) c') w' ∧ AppendedE E T w B A n xs ys m A' c' w' := by
  obtain ⟨hu, z, hzc, hinfo⟩ := hT
  obtain ⟨i0, hi0, hz0, hz1, hz2⟩ := info_parts hinfo
  obtain ⟨h1, h2, h3⟩ := hs
  cases A2 with
  | none =>
    have hm : m = 0 := by
      rcases Nat.eq_zero_or_pos m with h | h
      · exact h
      · cases ys with
        | nil => simp at h1; omega
        | cons y ys =>
          have hp := E.pos
          have hl := E.len y
          obtain ⟨ad, e, _⟩ := h3 0 ((E.cells y)[0]'(by omega)) (by rw [List.flatMap_cons, List.getElem?_append_left (by omega)]; simp)
          cases e
    subst hm
    have hy : ys = [] := List.eq_nil_of_length_eq_zero h1
    subst hy
    obtain rfl := h2 rfl
    exact ⟨A, c, w, run_append_owned_none (P := Try.prog) w B TS ty T i0 E.size hu hi0 _ n _ hown, by simpa [MineE] using hown, World.grownBy.refl w _, .inl rfl⟩
  | some ad =>
    have hcells : ∀ j u, (ys.flatMap E.cells)[j]? = some u → w.cell? (ad.add j) = some u := by
      intro j u hu
      obtain ⟨ad', e, hc⟩ := h3 j u hu
      obtain rfl := Option.some.inj e
      exact hc
    have hbn : (n + m) * bytes ≤ 1000000 * 10000 := Nat.mul_le_mul hlen hb2
    obtain ⟨v', w', hrun, g2, g3, _, g5⟩ := run_append_own_at (P := Try.prog) w B TS ty T i0 z E.size bytes hu hi0 hz0 hz1 hz2 hzc E.pos _ n _ hown ad m c2 _ (by rw [E.flat_len, h1]) hcells
      (E.flat_cells ys) (by simp only [maxLen]; omega) (by omega) hB
    obtain ⟨A', c', rfl⟩ := shapeE g2
    refine ⟨A', c', w', hrun, ?_, ?_, ?_⟩
    · unfold MineE; rw [List.flatMap_append]; exact g2
    · rw [ownBlock_blk] at g3; exact g3
    · rw [ownBlock_blk, ownBlock_blk] at g5; exact g5

theorem wpList_append_E {E : Enc α} {T TS : TypeId} {bytes : Nat} (hb2 : bytes ≤ 10000) (hT : InfoE E T TS bytes) (w : World) {ops : Array Oper} {rest : List Oper} {o : Oper} {a : Act} {Q : Exit → Act → World → Prop} (hgd : o.guard = none) (s x : Operand)
    (ho : o.op = .call { callee := .builtin .append, args := #[s, x], argTypes := #[TS, TS] })
    (B : Nat) (A : Option Addr) (n c : Nat) (xs : List α) (hs : a.eval s = .slice A n c) (hown : MineE E T w B A n c xs) (A2 : Option Addr) (m c2 : Nat) (ys : List α) (hx : a.eval x = .slice A2 m c2) (hsrc : SrcE E w A2 m c2 ys)
    (hlen : n + m ≤ 1000000) (hB : B ≤ w.heap.size)
    (h : ∀ A' c' w', AppendedE E T w B A n xs ys m A' c' w' → wpList Try.prog ops Q rest (a.put o.dst (.slice A' (n + m) c')) w') : wpList Try.prog ops Q (o :: rest) a w := by
  refine wpList_plain hgd fun _ hK => ?_
  obtain ⟨A', c', w', hr, h2⟩ := run_append_E E hb2 hT o.type w B A n c xs hown A2 m c2 ys hsrc hlen hB
  unfold Oper.wp execOp
  simp only [ho, resolve, invoke, builtin, Sem.run_bind, Sem.run_pure, Result.andThen_ok, List.map_toArray, List.map_cons, List.map_nil, hs, hx, hr]
  exact hK _ _ (h A' c' w' h2)

/-- What a block of cells gives to be appended. -/
theorem srcE_of (w : World) (a : α) (T : TypeId) (g : Nat) (h : w.heap[g]? = some (.cells (E.cells a).toArray T)) : SrcE E w (some ⟨g, 0, none⟩) 1 1 [a] := by
  refine ⟨rfl, fun e => (by cases e), fun j u hu => ⟨_, rfl, ?_⟩⟩
  have hu' : (E.cells a)[j]? = some u := by simpa using hu
  have hadd : (⟨g, 0, none⟩ : Addr).add j = ⟨g, j, none⟩ := by unfold Addr.add; split <;> simp_all
  rw [hadd, cell_of_row w g j _ _ _ h]
  simpa using hu'

theorem MineE.src {E : Enc α} {T : TypeId} {w : World} {B : Nat} {A : Option Addr} {n c : Nat} {xs : List α} (h : MineE E T w B A n c xs) : SrcE E w A n c xs := by
  refine ⟨h.len, fun e => ?_, fun j u hu => ?_⟩
  · subst e
    rcases h.2 with ⟨e, _⟩ | ⟨g', cap', cur, e, _⟩
    · injection e
    · simp at e
  · have hj := (List.getElem?_eq_some_iff.1 hu).1
    rw [E.flat_len, h.len] at hj
    have hn : 0 < n := by
      rcases Nat.eq_zero_or_pos n with e | e
      · subst e; simp at hj
      · exact e
    obtain ⟨g, rfl, _⟩ := h.form hn
    exact ⟨_, rfl, World.ownsRow.cells h (g := g) rfl j u hu⟩

theorem emptyE_mine (T : TypeId) (w : World) (B : Nat) (hB : B ≤ w.heap.size) : MineE E T (w.alloc (.cells #[] T)) B (some ⟨w.heap.size, 0, none⟩) 0 0 [] :=
  World.ownsRow_lit w #[] 0 hB (by unfold maxLen; omega) (by simp)

theorem oneE_src (w : World) (a : α) (T : TypeId) : SrcE E (w.alloc (.cells (E.cells a).toArray T)) (some ⟨w.heap.size, 0, none⟩) 1 1 [a] := by
  have hm : (w.alloc (.cells (E.cells a).toArray T)).ownsRow 0 T E.size (.slice (some ⟨w.heap.size, 0, none⟩) 1 1) 1 (E.cells a) := by
    have := World.ownsRow_lit (e := T) (size := E.size) (base := 0) w (E.cells a).toArray 1 (Nat.zero_le _) (by unfold maxLen; omega) (by simp [E.len])
    simpa using this
  refine ⟨rfl, fun e => (by cases e), fun j u hu => ?_⟩
  have hu' : (E.cells a)[j]? = some u := by simpa using hu
  exact ⟨_, rfl, World.ownsRow.cells hm (g := w.heap.size) rfl j u hu'⟩

theorem noneE_mine (T : TypeId) (w : World) (B : Nat) : MineE E T w B none 0 0 [] := World.ownsRow_nil w B T E.size

theorem AppendedE.below {E : Enc α} {T : TypeId} {w W : World} {B C : Nat} {A : Option Addr} {n c : Nat} {xs ys : List α} {m : Nat} {A' : Option Addr} {c' : Nat} {w' : World}
    (h : AppendedE E T w B A n xs ys m A' c' w') (hown : MineE E T w B A n c xs) (hw : Below C W w) (hC : C ≤ B) (hB : C ≤ w.heap.size) : Below C W w' :=
  hw.grown h.2.1 hB (fun k hk => by have := (hown.lt k hk).1; omega)

end

end Go.Proofs.Ytnmfgcdenngpfaa.More

/-! How the laws end; what comes in. -/
namespace Go.Proofs.Ytnmfgcdenngpfaa
open Go.RowKit

section
open Go.ChangeShapes Go.WideShapes Go.ChangeAt
variable {H : Type} {enc : TypeId × Value → H} {P : Program}

/-- The end of a call that leaves all old memory as it was, and may lay what it likes behind it. -/
theorem ends_low {f : Func} {s : ChangeSpec} {apart fresh handsOn again : Bool} {W V : World} {args : Array Value} {v : Value} {ds gs : List (DataW H)} {places pa pv : List MemPlace}
    (whole : DataW.Whole enc P f.params.toList s.vars apart W args.toList ds gs places)
    (results : ∀ (b : Nat) (sp : Nat → Bool) (hd : Bool), DataW.TrodAll enc P V b sp hd f.resultTypes.toList (v.resultList f.resultTypes.size) (s.fn H (ds ++ gs)).results [])
    (arguments : ∀ sp : Nat → Bool, (∀ p ∈ places, sp p.block = true) → DataW.TrodAll enc P V 0 sp true f.params.toList args.toList (s.fn H (ds ++ gs)).args pa)
    (variables : ∀ sp : Nat → Bool, (∀ p ∈ places, sp p.block = true) → DataW.TrodVars enc P V sp s.vars (s.fn H (ds ++ gs)).vars pv)
    (parts : places = pa ++ pv) (low : Below W.heap.size W V)
    (forms : ∀ (j : Nat) (t : TypeId) (r : Value), f.resultTypes[j]? = some t → (v.resultList f.resultTypes.size)[j]? = some r → Value.okWide P V .any 0 t r) :
    s.post enc P f apart fresh handsOn again W args v V := by
  have old : ∀ p ∈ places, p.block < W.heap.size := fun p h => whole.lt p h
  have mark : ∀ p ∈ places, (fun b => decide (b < W.heap.size)) p.block = true := fun p h => by simpa using old p h
  subst parts
  obtain ⟨_, _, _, _, _, thawed, once⟩ := id whole
  refine ⟨ds, gs, pa ++ pv, [], pa, pv, whole, results _ _ _, arguments _ mark, variables _ mark, ?_, fun _ => ⟨forms, _, _, ([] ++ pa) ++ pv, ⟨[] ++ pa, pv, trodAll_append (arguments _ (fun _ _ => rfl)) (results _ _ _), variables _ (fun _ _ => rfl), rfl, ?_, ?_⟩, ?_⟩⟩
  · exact World.keptBut_mono (fun p h => ⟨h, Or.inr (List.mem_append.1 h)⟩) (low.frame (· ∈ pa ++ pv))
  · intro b off h
    have h' : MemPlace.cell b off ∈ pa ++ pv := by simpa using h
    rw [low.frozen (old _ h')]
    exact thawed b off h'
  · intro h
    simpa using once h
  · intro p h _
    simpa using h
end


section
open Go.ChangeShapes Go.WideShapes Go.ChangeAt

theorem own : ownKnob Try.prog.godebug = none := by kernel_rfl
theorem laidOut : laidOutB Try.prog = true := by kernel_rfl
theorem cells3 : Try.prog.cellsOf 3 = 1 := by kernel_rfl

/-- A slice of numbers that came in. -/
theorem open_nums {H : Type} {enc : TypeId × Value → H} {W : World} {v : Value} {d : DataW H} {ps : List MemPlace} (hv : ∃ a len cap, v = .slice a len cap)
    (h : DataW.Trod enc Try.prog W 0 (fun _ => true) true 79 v d ps) :
    ∃ A len cap xs, v = .slice A len cap ∧ len = xs.length ∧ len ≤ 9223372036854775807 ∧ Nums W W.heap.size A xs ∧ (∀ n ∈ xs, -9223372036854775808 ≤ n ∧ n ≤ 9223372036854775807) := by
  obtain ⟨a0, len, cap, rfl⟩ := hv
  obtain ⟨fuel, hf⟩ := h
  rcases open_ints Try.underlying79 Try.underlying3 cells3 hf with ⟨hcs, hx⟩ | ⟨a, len', cap', zs, hcs, _, hl, hm, hz, hx, hcell, hwz⟩
  · simp [Value.cells] at hcs
    obtain ⟨rfl, rfl, rfl⟩ := hcs
    exact ⟨none, 0, 0, [], rfl, rfl, by omega, fun k hk => by simp at hk, fun n hn => by simp at hn⟩
  · simp [Value.cells] at hcs
    obtain ⟨rfl, rfl, rfl⟩ := hcs
    simp only [if_true] at hz
    unfold maxLen at hm
    refine ⟨some a, len, cap, zs.take len, rfl, by rw [List.length_take]; omega, by omega, fun k hk => ?_, fun n hn => ?_⟩
    · rw [List.length_take] at hk
      have hc := hcell k (by omega)
      have hb := World.block_lt_of_cell? _ _ hc
      rw [block_of_add] at hb
      refine ⟨a, rfl, hb, ?_⟩
      rw [hc]
      simp only [List.getD, List.getElem?_take]
      rw [if_pos (by omega)]
    · have := hwz n (List.mem_of_mem_take hn)
      simpa [Lit.wf, IntKind.min, IntKind.max, IntKind.signed, IntKind.bits] using this

theorem bounds {a : Int} (w : (Lit.int .i64 a).wf = true) : -9223372036854775808 ≤ a ∧ a ≤ 9223372036854775807 := by
  simpa [Lit.wf, IntKind.min, IntKind.max, IntKind.signed, IntKind.bits] using w

theorem bounds8 {a : Int} (w : (Lit.int .u8 a).wf = true) : 0 ≤ a ∧ a ≤ 255 := by
  simpa [Lit.wf, IntKind.min, IntKind.max, IntKind.signed, IntKind.bits] using w
end

end Go.Proofs.Ytnmfgcdenngpfaa

/-! A box that came in, by value. -/
namespace Go.Proofs.Ytnmfgcdenngpfaa.Record
open Go.ChangeShapes Go.WideShapes Go.ChangeAt Go.RowKit

theorem cellsInt : Try.prog.cellsOf 3 = 1 := by kernel_rfl
theorem cellsArr : Try.prog.cellsOf 22 = 4 := by kernel_rfl
theorem cellsBox : Try.prog.cellsOf 24 = 14 := by kernel_rfl

theorem array14 {α : Type} {cs : Array α} (h : cs.size = 14) : ∃ c0 c1 c2 c3 c4 c5 c6 c7 c8 c9 c10 c11 c12 c13, cs = #[c0, c1, c2, c3, c4, c5, c6, c7, c8, c9, c10, c11, c12, c13] := by
  obtain ⟨l⟩ := cs
  match l, h with
  | [c0, c1, c2, c3, c4, c5, c6, c7, c8, c9, c10, c11, c12, c13], _ => exact ⟨c0, c1, c2, c3, c4, c5, c6, c7, c8, c9, c10, c11, c12, c13, rfl⟩

section
variable {H : Type} {enc : TypeId × Value → H} {w : World} {base : Nat} {spare : Nat → Bool} {held : Bool}

theorem open_box {r : Reach} {b0 : Nat} {v : Value} {d : DataW H} {p : List MemPlace} (hv : Value.okWide Try.prog w r b0 24 v) (h : DataW.Trod enc Try.prog w base spare held 24 v d p) : ∃ b : Bx, v = b.v := by
  obtain ⟨cs, rfl, hsz⟩ := okWide_struct Try.underlying24 hv
  obtain ⟨c0, c1, c2, c3, c4, c5, c6, c7, c8, c9, c10, c11, c12, c13, rfl⟩ := array14 (hsz.trans cellsBox)
  obtain ⟨fuel, hf⟩ := h
  obtain ⟨xs, n, _, _, _, hlen, hf⟩ := DataW.trod_struct Try.underlying24 hf
  match xs, hlen with
  | [y0, y1, y2, y3, y4, y5, y6, y7], _ =>
    have f0 : DataW.trod enc Try.prog w base spare held n 3 (([c0, c1, c2, c3, c4, c5, c6, c7, c8, c9, c10, c11, c12, c13].drop 0).take (Try.prog.cellsOf 3)) = some y0 := hf 0 _ rfl
    have f1 : DataW.trod enc Try.prog w base spare held n 3 (([c0, c1, c2, c3, c4, c5, c6, c7, c8, c9, c10, c11, c12, c13].drop 1).take (Try.prog.cellsOf 3)) = some y1 := hf 1 _ rfl
    have f2 : DataW.trod enc Try.prog w base spare held n 3 (([c0, c1, c2, c3, c4, c5, c6, c7, c8, c9, c10, c11, c12, c13].drop 2).take (Try.prog.cellsOf 3)) = some y2 := hf 2 _ rfl
    have f3 : DataW.trod enc Try.prog w base spare held n 3 (([c0, c1, c2, c3, c4, c5, c6, c7, c8, c9, c10, c11, c12, c13].drop 3).take (Try.prog.cellsOf 3)) = some y3 := hf 3 _ rfl
    have f4 : DataW.trod enc Try.prog w base spare held n 3 (([c0, c1, c2, c3, c4, c5, c6, c7, c8, c9, c10, c11, c12, c13].drop 4).take (Try.prog.cellsOf 3)) = some y4 := hf 4 _ rfl
    have f5 : DataW.trod enc Try.prog w base spare held n 3 (([c0, c1, c2, c3, c4, c5, c6, c7, c8, c9, c10, c11, c12, c13].drop 5).take (Try.prog.cellsOf 3)) = some y5 := hf 5 _ rfl
    have f6 : DataW.trod enc Try.prog w base spare held n 22 (([c0, c1, c2, c3, c4, c5, c6, c7, c8, c9, c10, c11, c12, c13].drop 6).take (Try.prog.cellsOf 22)) = some y6 := hf 6 _ rfl
    have f7 : DataW.trod enc Try.prog w base spare held n 22 (([c0, c1, c2, c3, c4, c5, c6, c7, c8, c9, c10, c11, c12, c13].drop 10).take (Try.prog.cellsOf 22)) = some y7 := hf 7 _ rfl
    rw [cellsInt] at f0 f1 f2 f3 f4 f5
    rw [cellsArr] at f6 f7
    simp only [List.drop_succ_cons, List.drop_zero, List.take_succ_cons, List.take_zero] at f0 f1 f2 f3 f4 f5 f6 f7
    obtain ⟨x0, e0, -, -⟩ := DataW.trod_int Try.underlying3 f0
    obtain ⟨x1, e1, -, -⟩ := DataW.trod_int Try.underlying3 f1
    obtain ⟨x2, e2, -, -⟩ := DataW.trod_int Try.underlying3 f2
    obtain ⟨x3, e3, -, -⟩ := DataW.trod_int Try.underlying3 f3
    obtain ⟨x4, e4, -, -⟩ := DataW.trod_int Try.underlying3 f4
    obtain ⟨x5, e5, -, -⟩ := DataW.trod_int Try.underlying3 f5
    obtain ⟨_, _, _, _, _, _, g6, g7, g8, g9⟩ := ChangeShapes.trod_array4 Try.underlying22 cellsInt f6
    obtain ⟨_, _, _, _, _, _, g10, g11, g12, g13⟩ := ChangeShapes.trod_array4 Try.underlying22 cellsInt f7
    obtain ⟨x6, e6, -, -⟩ := DataW.trod_int Try.underlying3 g6
    obtain ⟨x7, e7, -, -⟩ := DataW.trod_int Try.underlying3 g7
    obtain ⟨x8, e8, -, -⟩ := DataW.trod_int Try.underlying3 g8
    obtain ⟨x9, e9, -, -⟩ := DataW.trod_int Try.underlying3 g9
    obtain ⟨x10, e10, -, -⟩ := DataW.trod_int Try.underlying3 g10
    obtain ⟨x11, e11, -, -⟩ := DataW.trod_int Try.underlying3 g11
    obtain ⟨x12, e12, -, -⟩ := DataW.trod_int Try.underlying3 g12
    obtain ⟨x13, e13, -, -⟩ := DataW.trod_int Try.underlying3 g13
    simp only [List.cons.injEq, and_true] at e0 e1 e2 e3 e4 e5 e6 e7 e8 e9 e10 e11 e12 e13
    subst e0 e1 e2 e3 e4 e5 e6 e7 e8 e9 e10 e11 e12 e13
    exact ⟨⟨x0, x1, x2, x3, x4, x5, x6, x7, x8, x9, x10, x11, x12, x13⟩, rfl⟩

end

end Go.Proofs.Ytnmfgcdenngpfaa.Record

/-! A list of boxes that came in. -/
namespace Go.Proofs.Ytnmfgcdenngpfaa.Script
open Go.ChangeShapes Go.WideShapes Go.ChangeAt Go.RowKit Go.Proofs.Ytnmfgcdenngpfaa.Record

theorem mapM_at {α β : Type} {f : α → Option β} : ∀ {l : List α} {r : List β}, l.mapM f = some r → ∀ (j : Nat) (x : α), l[j]? = some x → ∃ y, r[j]? = some y ∧ f x = some y := by
  intro l
  induction l with
  | nil => intro r h j x hx; simp at hx
  | cons a l ih =>
    intro r h j x hx
    rw [List.mapM_cons] at h
    simp only [bind, Option.bind_eq_some_iff, pure, Option.some.injEq] at h
    obtain ⟨b, hb, r', hr, rfl⟩ := h
    cases j with
    | zero =>
      simp only [List.getElem?_cons_zero, Option.some.injEq] at hx
      subst hx
      exact ⟨b, rfl, hb⟩
    | succ j =>
      simp only [List.getElem?_cons_succ] at hx ⊢
      exact ih hr j x hx

theorem lenM {α β : Type} {f : α → Option β} : ∀ {l : List α} {r : List β}, l.mapM f = some r → r.length = l.length := by
  intro l
  induction l with
  | nil => intro r h; simp at h; subst h; rfl
  | cons a l ih =>
    intro r h
    rw [List.mapM_cons] at h
    simp only [bind, Option.bind_eq_some_iff, pure, Option.some.injEq] at h
    obtain ⟨b, hb, r', hr, rfl⟩ := h
    simp [ih hr]

section
variable {H : Type} {enc : TypeId × Value → H} {w : World} {base : Nat} {spare : Nat → Bool} {held : Bool}

theorem list14 {α : Type} {l : List α} (h : l.length = 14) : ∃ c0 c1 c2 c3 c4 c5 c6 c7 c8 c9 c10 c11 c12 c13, l = [c0, c1, c2, c3, c4, c5, c6, c7, c8, c9, c10, c11, c12, c13] := by
  match l, h with
  | [c0, c1, c2, c3, c4, c5, c6, c7, c8, c9, c10, c11, c12, c13], _ => exact ⟨c0, c1, c2, c3, c4, c5, c6, c7, c8, c9, c10, c11, c12, c13, rfl⟩

/-- A box all whose numbers are ints. -/
def OkB (b : Bx) : Prop := ∀ x ∈ [b.d, b.k, b.s, b.c, b.w, b.h, b.m0, b.m1, b.m2, b.m3, b.e0, b.e1, b.e2, b.e3], (Lit.int .i64 x).wf = true

theorem okK {b : Bx} (h : OkB b) : (Lit.int .i64 b.k).wf = true := h b.k (by simp)

/-- The cells of a box that is read. -/
theorem cells_box {n : Nat} {cs : List Value} {y : DataW H × List MemPlace} (hl : cs.length = 14) (h : DataW.trod enc Try.prog w base spare held n 24 cs = some y) : ∃ b : Bx, cs = cellsOfB b ∧ OkB b := by
  obtain ⟨c0, c1, c2, c3, c4, c5, c6, c7, c8, c9, c10, c11, c12, c13, rfl⟩ := list14 hl
  obtain ⟨xs, n, _, _, _, hlen, hf⟩ := DataW.trod_struct Try.underlying24 h
  match xs, hlen with
  | [y0, y1, y2, y3, y4, y5, y6, y7], _ =>
    have f0 : DataW.trod enc Try.prog w base spare held n 3 (([c0, c1, c2, c3, c4, c5, c6, c7, c8, c9, c10, c11, c12, c13].drop 0).take (Try.prog.cellsOf 3)) = some y0 := hf 0 _ rfl
    have f1 : DataW.trod enc Try.prog w base spare held n 3 (([c0, c1, c2, c3, c4, c5, c6, c7, c8, c9, c10, c11, c12, c13].drop 1).take (Try.prog.cellsOf 3)) = some y1 := hf 1 _ rfl
    have f2 : DataW.trod enc Try.prog w base spare held n 3 (([c0, c1, c2, c3, c4, c5, c6, c7, c8, c9, c10, c11, c12, c13].drop 2).take (Try.prog.cellsOf 3)) = some y2 := hf 2 _ rfl
    have f3 : DataW.trod enc Try.prog w base spare held n 3 (([c0, c1, c2, c3, c4, c5, c6, c7, c8, c9, c10, c11, c12, c13].drop 3).take (Try.prog.cellsOf 3)) = some y3 := hf 3 _ rfl
    have f4 : DataW.trod enc Try.prog w base spare held n 3 (([c0, c1, c2, c3, c4, c5, c6, c7, c8, c9, c10, c11, c12, c13].drop 4).take (Try.prog.cellsOf 3)) = some y4 := hf 4 _ rfl
    have f5 : DataW.trod enc Try.prog w base spare held n 3 (([c0, c1, c2, c3, c4, c5, c6, c7, c8, c9, c10, c11, c12, c13].drop 5).take (Try.prog.cellsOf 3)) = some y5 := hf 5 _ rfl
    have f6 : DataW.trod enc Try.prog w base spare held n 22 (([c0, c1, c2, c3, c4, c5, c6, c7, c8, c9, c10, c11, c12, c13].drop 6).take (Try.prog.cellsOf 22)) = some y6 := hf 6 _ rfl
    have f7 : DataW.trod enc Try.prog w base spare held n 22 (([c0, c1, c2, c3, c4, c5, c6, c7, c8, c9, c10, c11, c12, c13].drop 10).take (Try.prog.cellsOf 22)) = some y7 := hf 7 _ rfl
    rw [cellsInt] at f0 f1 f2 f3 f4 f5
    rw [cellsArr] at f6 f7
    simp only [List.drop_succ_cons, List.drop_zero, List.take_succ_cons, List.take_zero] at f0 f1 f2 f3 f4 f5 f6 f7
    obtain ⟨x0, e0, -, o0⟩ := DataW.trod_int Try.underlying3 f0
    obtain ⟨x1, e1, -, o1⟩ := DataW.trod_int Try.underlying3 f1
    obtain ⟨x2, e2, -, o2⟩ := DataW.trod_int Try.underlying3 f2
    obtain ⟨x3, e3, -, o3⟩ := DataW.trod_int Try.underlying3 f3
    obtain ⟨x4, e4, -, o4⟩ := DataW.trod_int Try.underlying3 f4
    obtain ⟨x5, e5, -, o5⟩ := DataW.trod_int Try.underlying3 f5
    obtain ⟨_, _, _, _, _, _, g6, g7, g8, g9⟩ := ChangeShapes.trod_array4 Try.underlying22 cellsInt f6
    obtain ⟨_, _, _, _, _, _, g10, g11, g12, g13⟩ := ChangeShapes.trod_array4 Try.underlying22 cellsInt f7
    obtain ⟨x6, e6, -, o6⟩ := DataW.trod_int Try.underlying3 g6
    obtain ⟨x7, e7, -, o7⟩ := DataW.trod_int Try.underlying3 g7
    obtain ⟨x8, e8, -, o8⟩ := DataW.trod_int Try.underlying3 g8
    obtain ⟨x9, e9, -, o9⟩ := DataW.trod_int Try.underlying3 g9
    obtain ⟨x10, e10, -, o10⟩ := DataW.trod_int Try.underlying3 g10
    obtain ⟨x11, e11, -, o11⟩ := DataW.trod_int Try.underlying3 g11
    obtain ⟨x12, e12, -, o12⟩ := DataW.trod_int Try.underlying3 g12
    obtain ⟨x13, e13, -, o13⟩ := DataW.trod_int Try.underlying3 g13
    simp only [List.cons.injEq, and_true] at e0 e1 e2 e3 e4 e5 e6 e7 e8 e9 e10 e11 e12 e13
    subst e0 e1 e2 e3 e4 e5 e6 e7 e8 e9 e10 e11 e12 e13
    refine ⟨⟨x0, x1, x2, x3, x4, x5, x6, x7, x8, x9, x10, x11, x12, x13⟩, rfl, fun x hx => ?_⟩
    simp only [List.mem_cons, List.not_mem_nil, or_false] at hx
    rcases hx with h | h | h | h | h | h | h | h | h | h | h | h | h | h <;> (subst h; assumption)

end

/-- A slice of boxes that came in. -/
theorem open_boxes {H : Type} {enc : TypeId × Value → H} {W : World} {v : Value} {d : DataW H} {ps : List MemPlace} (hv : ∃ a len cap, v = .slice a len cap)
    (h : DataW.Trod enc Try.prog W 0 (fun _ => true) true 33 v d ps) :
    ∃ A len cap bs, v = .slice A len cap ∧ len = bs.length ∧ len ≤ 9223372036854775807 ∧ len ≤ cap ∧ (A = none → cap = 0) ∧ Boxes W W.heap.size A bs ∧ ∀ b ∈ bs, OkB b := by
  obtain ⟨a0, len, cap, rfl⟩ := hv
  obtain ⟨fuel, hf⟩ := h
  rcases Go.Deep.open_slice Try.underlying33 hf with ⟨hcs, hx⟩ | ⟨a, len', cap', m, n, D, Pl, hcs, _, hl, hm, hz, hx, hcell⟩
  · simp [Value.cells] at hcs
    obtain ⟨rfl, rfl, rfl⟩ := hcs
    exact ⟨none, 0, 0, [], rfl, rfl, by omega, by omega, fun _ => rfl, fun k hk => by simp at hk, fun b hb => by simp at hb⟩
  · simp [Value.cells] at hcs
    obtain ⟨rfl, rfl, rfl⟩ := hcs
    simp only [if_true] at hz
    subst hz
    unfold maxLen at hm
    have each : ∀ i, ∃ b : Bx, i < len → a.block < W.heap.size ∧ AtP W (a.add (i * 14)) b ∧ OkB b := fun i => by
      by_cases hi : i < len
      · obtain ⟨cs', hc, ht⟩ := hcell i (by omega)
        rw [cellsBox] at hc
        unfold World.cells? at hc
        split at hc
        · have hl14 : cs'.length = 14 := by
            have := lenM hc
            simpa using this
          obtain ⟨b, rfl, hok⟩ := cells_box hl14 ht
          refine ⟨b, fun _ => ?_⟩
          have hat : ∀ j v, (cellsOfB b)[j]? = some v → W.cell? ((a.add (i * 14)).add j) = some v := fun j v hv => by
            have hj : j < 14 := by
              have := (List.getElem?_eq_some_iff.1 hv).1
              rwa [cellsOfB_len] at this
            obtain ⟨y, hy, hfy⟩ := mapM_at hc j j (by simp [List.getElem?_range hj])
            rw [hv] at hy
            injection hy with hy
            rw [hy]
            exact hfy
          refine ⟨?_, AtP.of_cells hat, hok⟩
          have hb := World.block_lt_of_cell? _ _ (hat 0 _ rfl)
          rw [block_of_add, block_of_add] at hb
          exact hb
        · simp at hc
      · exact ⟨noB, fun h => absurd h hi⟩
    obtain ⟨f, hf⟩ := Classical.axiomOfChoice each
    refine ⟨some a, len, _, (List.range len).map f, rfl, by simp, by omega, hl, fun e => (by cases e), fun k hk => ?_, fun b hb => ?_⟩
    · have hk' : k < len := by simpa using hk
      obtain ⟨h1, h2, -⟩ := hf k hk'
      refine ⟨a, rfl, h1, ?_⟩
      simpa [List.getD, hk'] using h2
    · rw [List.mem_map] at hb
      obtain ⟨i, hi, rfl⟩ := hb
      exact (hf i (by simpa using hi)).2.2

end Go.Proofs.Ytnmfgcdenngpfaa.Script

/-! What is asked of the program's trees, whatever they look like in memory; the law's example, and its Begin. -/
namespace Go.Proofs.Ytnmfgcdenngpfaa.Tree
open Go.RowKit Go.Sort Go.Proofs.Ytnmfgcdenngpfaa.Record Go.Proofs.Ytnmfgcdenngpfaa.Script

/-- Has a tree a place? -/
def hasT (bs : List Bx) (i : Int) : Prop := 0 ≤ i ∧ i < bs.length

instance (bs : List Bx) (i : Int) : Decidable (hasT bs i) := inferInstanceAs (Decidable (_ ∧ _))

def boxT (bs : List Bx) (i : Int) : Bx := if hasT bs i then bs.getD i.toNat noB else noB
def parT (bs : List Bx) (i : Int) : Int := if hasT bs i then par (dOf bs) i.toNat else -1
def enT (bs : List Bx) (i : Int) : Int := if hasT bs i then (en (dOf bs) bs.length i.toNat : Int) else -1
def ctxT (bs : List Bx) (i : Int) : Int := if hasT bs i then (ctx (dOf bs) (oOf bs) i.toNat : Int) else -1
def kidsT (bs : List Bx) (i : Int) : List Int := if hasT bs i then (kids (dOf bs) bs.length i.toNat).map Int.ofNat else []
def opensT (bs : List Bx) : List Int := (((List.range bs.length).filter (oOf bs)).map Int.ofNat).reverse

theorem hasT_nat {bs : List Bx} {i : Nat} (h : i < bs.length) : hasT bs (i : Int) := ⟨by omega, by omega⟩
theorem boxT_nat {bs : List Bx} {i : Nat} (h : i < bs.length) : boxT bs (i : Int) = bs.getD i noB := by unfold boxT; rw [if_pos (hasT_nat h)]; rfl
theorem parT_nat {bs : List Bx} {i : Nat} (h : i < bs.length) : parT bs (i : Int) = par (dOf bs) i := by unfold parT; rw [if_pos (hasT_nat h)]; rfl
theorem enT_nat {bs : List Bx} {i : Nat} (h : i < bs.length) : enT bs (i : Int) = en (dOf bs) bs.length i := by unfold enT; rw [if_pos (hasT_nat h)]; rfl
theorem ctxT_nat {bs : List Bx} {i : Nat} (h : i < bs.length) : ctxT bs (i : Int) = ctx (dOf bs) (oOf bs) i := by unfold ctxT; rw [if_pos (hasT_nat h)]; rfl
theorem kidsT_nat {bs : List Bx} {i : Nat} (h : i < bs.length) : kidsT bs (i : Int) = (kids (dOf bs) bs.length i).map Int.ofNat := by unfold kidsT; rw [if_pos (hasT_nat h)]; rfl

/-- A slice of numbers that lies somewhere. -/
def GivesL (xs : List Int) (w : World) (u : Value) : Prop := ∃ A c, u = .slice A xs.length c ∧ Nums w w.heap.size A xs

/-- .. in new memory, if it has numbers. -/
def GivesN (B : Nat) (xs : List Int) (w : World) (u : Value) : Prop := ∃ A c, u = .slice A xs.length c ∧ Nums w w.heap.size A xs ∧ (xs ≠ [] → ∀ ad, A = some ad → B ≤ ad.block)

/-- The contracts of the program's trees. -/
structure TreeOk (T : World → Addr → List Bx → Prop) : Prop where
  keep : ∀ w w' p bs, T w p bs → Below w.heap.size w w' → T w' p bs
  yes : ∀ (A : Option Addr) (n c : Nat) (bs : List Bx) (w : World), n = bs.length → n ≤ 1000 → 0 < n → Boxes w w.heap.size A bs → (∀ b ∈ bs, OkB b) → Fine bs n →
    Calls Try.prog 30 #[.slice A n c] w fun r w' => (∃ p, r = .returned (.tuple #[.pointer (some p), .int .i64 (-1), .int .i64 0]) ∧ T w' p bs) ∧ Below w.heap.size w w'
  no : ∀ (A : Option Addr) (n c : Nat) (bs : List Bx) (w : World) (a e : Int), n = bs.length → n ≤ 1000 → Boxes w w.heap.size A bs → (∀ b ∈ bs, OkB b) → chk bs = (a, e) → e ≠ 0 →
    Calls Try.prog 30 #[.slice A n c] w fun r w' => r = .returned (.tuple #[.pointer none, .int .i64 a, .int .i64 e]) ∧ Below w.heap.size w w'
  len : ∀ w p bs, T w p bs → Calls Try.prog 32 #[.pointer (some p)] w fun r w' => r = .returned (.int .i64 (bs.length : Int)) ∧ Below w.heap.size w w'
  box : ∀ w p bs (i : Int), T w p bs → Calls Try.prog 23 #[.pointer (some p), .int .i64 i] w fun r w' => r = .returned (boxT bs i).v ∧ Below w.heap.size w w'
  parent : ∀ w p bs (i : Int), T w p bs → Calls Try.prog 24 #[.pointer (some p), .int .i64 i] w fun r w' => r = .returned (.int .i64 (parT bs i)) ∧ Below w.heap.size w w'

/-- What a list's Check answers is right: no error just if it's fine. -/
theorem chkF_fine (bs : List Bx) : ∀ f i, (∀ j, i ≤ j → j < i + f → badAt bs j = 0) → chkF bs f i = (-1, 0)
  | 0, _, _ => rfl
  | f + 1, i, h => by
    rw [chkF, if_pos (h i (Nat.le_refl _) (by omega))]
    exact chkF_fine bs f (i + 1) (fun j a b => h j (by omega) (by omega))

theorem chkF_ok (bs : List Bx) : ∀ f i a, chkF bs f i = (a, 0) → a = -1 ∧ ∀ j, i ≤ j → j < i + f → badAt bs j = 0
  | 0, i, a, h => by
    rw [chkF] at h
    injection h with h1 h2
    exact ⟨h1.symm, fun j x y => by omega⟩
  | f + 1, i, a, h => by
    rw [chkF] at h
    split at h
    · rename_i hb
      obtain ⟨h1, h2⟩ := chkF_ok bs f (i + 1) a h
      refine ⟨h1, fun j x y => ?_⟩
      by_cases e : j = i
      · subst e; exact hb
      · exact h2 j (by omega) (by omega)
    · rename_i hb
      injection h with h1 h2
      exact absurd h2 hb

theorem chk_fine {bs : List Bx} {n : Nat} (hn : n = bs.length) (h0 : 0 < n) (h : Fine bs n) : chk bs = (-1, 0) := by
  unfold chk
  rw [if_neg (by omega), ← hn]
  exact chkF_fine bs n 0 (fun j _ hj => h j (by omega))

theorem chk_ok {bs : List Bx} {n : Nat} {a : Int} (hn : n = bs.length) (h : chk bs = (a, 0)) : a = -1 ∧ 0 < n ∧ Fine bs n := by
  unfold chk at h
  split at h
  · injection h with h1 h2
    exact absurd h2 (by decide)
  · rename_i h0
    obtain ⟨h1, h2⟩ := chkF_ok bs bs.length 0 a h
    exact ⟨h1, by omega, fun j hj => h2 j (by omega) (by omega)⟩

section
variable {T : World → Addr → List Bx → Prop}

theorem oneB_boxes (w : World) (b : Bx) (t : TypeId) : Boxes (w.alloc (.cells (cellsOfB b).toArray t)) (w.alloc (.cells (cellsOfB b).toArray t)).heap.size (some ⟨w.heap.size, 0, none⟩) [b] := by
  have hm : MineB t (w.alloc (.cells (cellsOfB b).toArray t)) 0 (some ⟨w.heap.size, 0, none⟩) 1 1 [b] := by
    have := World.ownsRow_lit (e := t) (size := 14) (base := 0) w (cellsOfB b).toArray 1 (Nat.zero_le _) (by unfold maxLen; omega) rfl
    simpa [MineB] using this
  exact hm.boxes

theorem okB_zero (k : Int) (hk : (Lit.int .i64 k).wf = true) : OkB ⟨0, k, 0, 0, 0, 0, 0, 0, 0, 0, 0, 0, 0, 0⟩ := by
  intro x hx
  simp only [List.mem_cons, List.not_mem_nil, or_false] at hx
  rcases hx with h | h | h | h | h | h | h | h | h | h | h | h | h | h <;> subst h <;> first | exact hk | decide

set_option maxRecDepth 100000 in
set_option maxHeartbeats 1000000 in
theorem begin_some (hT : TreeOk T) (A : Option Addr) (n c : Nat) (bs : List Bx) (w : World) (hn : n = bs.length) (hlen : n ≤ 1000) (h0 : 0 < n) (hx : Boxes w w.heap.size A bs) (hb : ∀ b ∈ bs, OkB b) (hf : Fine bs n) :
    Calls Try.prog 18 #[.slice A n c] w fun r w' => (∃ p, r = .returned (.pointer (some p)) ∧ T w' p bs) ∧ Below w.heap.size w w' := by
  have HX := Lib.hid hx
  have HN := Lib.hid hn
  have HB := Lib.hid hb
  have HF := Lib.hid hf
  clear hx hn hb hf
  go_enter Try.func18, Try.ntmps18
  go_wp2_with fail
  refine (ofs_any A n c bs w HN.out (by omega) HX.out).mono ?_; rintro e w1 ⟨⟨A1, c1, rfl, h1⟩, k1⟩
  have K1 := Lib.hid k1
  have HM := Lib.hid h1
  clear k1 h1
  go_wp2_with fail
  refine (hT.yes A1 n c1 bs w1 HN.out hlen h0 HM.out.boxes HB.out HF.out).mono ?_; rintro e w2 ⟨⟨p, rfl, ht⟩, k2⟩
  have K2 := Lib.hid (thru K1.out k2)
  have HT2 := Lib.hid ht
  clear k2 ht
  go_wp2_with fail
  go_ret
  exact ⟨⟨p, rfl, HT2.out⟩, K2.out⟩

set_option maxRecDepth 100000 in
set_option maxHeartbeats 1000000 in
theorem begin_none (hT : TreeOk T) (A : Option Addr) (n c : Nat) (bs : List Bx) (w : World) (a e : Int) (hn : n = bs.length) (hlen : n ≤ 1000) (hx : Boxes w w.heap.size A bs) (hb : ∀ b ∈ bs, OkB b) (hc : chk bs = (a, e)) (he : e ≠ 0) :
    Calls Try.prog 18 #[.slice A n c] w fun r w' => r = .returned (.pointer none) ∧ Below w.heap.size w w' := by
  have HX := Lib.hid hx
  have HN := Lib.hid hn
  have HB := Lib.hid hb
  have HC := Lib.hid hc
  clear hx hn hb hc
  have he' : (e == 0) = false := by simp [he]
  go_enter Try.func18, Try.ntmps18
  go_wp2_with fail
  refine (ofs_any A n c bs w HN.out (by omega) HX.out).mono ?_; rintro r w1 ⟨⟨A1, c1, rfl, h1⟩, k1⟩
  have K1 := Lib.hid k1
  have HM := Lib.hid h1
  clear k1 h1
  go_wp2_with fail
  refine (hT.no A1 n c1 bs w1 a e HN.out hlen HM.out.boxes HB.out HC.out he).mono ?_; rintro r w2 ⟨rfl, k2⟩
  have K2 := Lib.hid (thru K1.out k2)
  clear k2
  go_wp2_with fail
  go_ret
  exact ⟨rfl, K2.out⟩

end

end Go.Proofs.Ytnmfgcdenngpfaa.Tree

/-! What is asked of the program's widths, whatever they look like; the law's example; which lists may be a tree. -/
namespace Go.Proofs.Ytnmfgcdenngpfaa.Width
open Go.RowKit Go.Sort Go.Proofs.Ytnmfgcdenngpfaa.Record Go.Proofs.Ytnmfgcdenngpfaa.Script Go.Proofs.Ytnmfgcdenngpfaa.Tree Go.Proofs.Ytnmfgcdenngpfaa.More

/-- A span. -/
structure Sp where
  f : Int
  t : Int

abbrev Sp.v (x : Sp) : Value := .agg #[.int .i64 x.f, .int .i64 x.t]

def encSp : Enc Sp := ⟨2, fun x => [.int .i64 x.f, .int .i64 x.t], fun _ => rfl, fun x u h => by
  simp only [List.mem_cons, List.not_mem_nil, or_false] at h
  rcases h with h | h <;> (subst h; rfl), by omega⟩

/-- The columns of all contents. -/
def spsD (bs : List Bx) : List Sp := (List.range bs.length).map fun i => ⟨lefD bs i, lefD bs i + widD bs i⟩

theorem spsD_len (bs : List Bx) : (spsD bs).length = bs.length := by simp [spsD]
theorem spsD_at {bs : List Bx} {i : Nat} (h : i < bs.length) : (spsD bs)[i]? = some ⟨lefD bs i, lefD bs i + widD bs i⟩ := by
  simp [spsD, h]

/-- The contracts of the program's widths. -/
structure WidthOk (T : World → Addr → List Bx → Prop) : Prop where
  con : ∀ (b : Bx) (x : Int) w, pickN (brokenOf b) = 0 → okX x = true → Calls Try.prog 11 #[b.v, .int .i64 x] w fun e w' => e = .returned (.int .i64 (conZ b x)) ∧ Below w.heap.size w w'
  bor : ∀ (b : Bx) (x : Int) w, pickN (brokenOf b) = 0 → okX x = true → Calls Try.prog 13 #[b.v, .int .i64 x] w fun e w' => e = .returned (.int .i64 (borZ b x)) ∧ Below w.heap.size w w'
  mar : ∀ (b : Bx) (x : Int) w, pickN (brokenOf b) = 0 → okX x = true → Calls Try.prog 15 #[b.v, .int .i64 x] w fun e w' => e = .returned (.int .i64 (marZ b x)) ∧ Below w.heap.size w w'
  frames : ∀ w p bs, T w p bs → bs.length ≤ 1000 → Shape (dOf bs) bs.length → Fine bs bs.length → Calls Try.prog 19 #[.pointer (some p)] w fun r w' =>
    (∃ A c, r = .returned (.slice A bs.length c) ∧ MineE encSp 41 w' w.heap.size A bs.length c (spsD bs)) ∧ Below w.heap.size w w'

/-- A list is long, or wrong, or fine. -/
theorem list_or (bs : List Bx) (n : Nat) (hn : n = bs.length) : 100 < n ∨ (n ≤ 100 ∧ ∃ a e : Int, chk bs = (a, e) ∧ e ≠ 0) ∨ (n ≤ 100 ∧ 0 < n ∧ chk bs = (-1, 0) ∧ Shape (dOf bs) bs.length ∧ Fine bs n) := by
  by_cases h : n ≤ 100
  · obtain ⟨a, e, hc⟩ : ∃ a e, chk bs = (a, e) := ⟨_, _, rfl⟩
    by_cases he : e = 0
    · subst he
      obtain ⟨ha, h0, hf⟩ := chk_ok hn hc
      exact .inr (.inr ⟨h, h0, by rw [hc, ha], by rw [← hn]; exact hf.shape h0, hf⟩)
    · exact .inr (.inl ⟨h, a, e, hc, he⟩)
  · exact .inl (by omega)

/-- The example's box. -/
def exD : Bx := ⟨0, 1, 0, 0, -1, 0, 0, 3, 0, 2, 0, 0, 0, 0⟩

section
variable {T : World → Addr → List Bx → Prop}

set_option maxRecDepth 100000 in
set_option maxHeartbeats 2000000 in
theorem dspeaks (hO : WidthOk T) (w : World) : Calls Try.prog 7 #[] w fun e w' => e = .returned (.bool true) ∧ Below w.heap.size w w' := by
  have h0 : pickN (brokenOf exD) = 0 := by decide
  have HC := Lib.hid (fun w => hO.con exD 20 w h0 (by decide))
  have HB := Lib.hid (fun w => hO.bor exD 15 w h0 (by decide))
  have HM := Lib.hid (fun w => hO.mar exD 15 w h0 (by decide))
  rw [show conZ exD 20 = 15 by decide] at HC
  rw [show borZ exD 15 = 15 by decide] at HB
  rw [show marZ exD 15 = 20 by decide] at HM
  clear h0
  go_enter Try.func7, Try.ntmps7
  go_upto_region 2 with fail
  generalize hW : World.alloc w _ = W
  obtain ⟨hat, hb⟩ := box_in exD hW
  have hsz : W.heap.size = w.heap.size + 1 := by rw [← hW]; simp
  have HA := Lib.hid hat
  have K := Lib.hid hb
  have hlt : w.heap.size < W.heap.size := by omega
  obtain ⟨c0, c1, c2, c3, c4, c5, c6, c7, c8, c9, c10, c11, c12, c13⟩ := hat
  clear hW hb hsz
  unfold exD at c0 c1 c2 c3 c4 c5 c6 c7 c8 c9 c10 c11 c12 c13
  dsimp only at c0 c1 c2 c3 c4 c5 c6 c7 c8 c9 c10 c11 c12 c13
  go_wp2_with (first
    | (go_at_call 11; refine (HC.out _).mono ?_; rintro e w1 ⟨rfl, k1⟩; obtain ⟨hc, -⟩ := bcell k1; have d0 := (hc _ 0 hlt).trans c0; have d1 := (hc _ 1 hlt).trans c1; have d2 := (hc _ 2 hlt).trans c2; have d3 := (hc _ 3 hlt).trans c3; have d4 := (hc _ 4 hlt).trans c4; have d5 := (hc _ 5 hlt).trans c5; have d6 := (hc _ 6 hlt).trans c6; have d7 := (hc _ 7 hlt).trans c7; have d8 := (hc _ 8 hlt).trans c8; have d9 := (hc _ 9 hlt).trans c9; have d10 := (hc _ 10 hlt).trans c10; have d11 := (hc _ 11 hlt).trans c11; have d12 := (hc _ 12 hlt).trans c12; have d13 := (hc _ 13 hlt).trans c13; have K1 := Lib.hid (thru K.out k1); have hlt1 := Nat.lt_of_lt_of_le hlt k1.size; clear hc k1 c0 c1 c2 c3 c4 c5 c6 c7 c8 c9 c10 c11 c12 c13 hlt)
    | (go_at_call 15; refine (HM.out _).mono ?_; rintro e w2 ⟨rfl, k2⟩; obtain ⟨hc, -⟩ := bcell k2; have f0 := (hc _ 0 hlt1).trans d0; have f1 := (hc _ 1 hlt1).trans d1; have f2 := (hc _ 2 hlt1).trans d2; have f3 := (hc _ 3 hlt1).trans d3; have f4 := (hc _ 4 hlt1).trans d4; have f5 := (hc _ 5 hlt1).trans d5; have f6 := (hc _ 6 hlt1).trans d6; have f7 := (hc _ 7 hlt1).trans d7; have f8 := (hc _ 8 hlt1).trans d8; have f9 := (hc _ 9 hlt1).trans d9; have f10 := (hc _ 10 hlt1).trans d10; have f11 := (hc _ 11 hlt1).trans d11; have f12 := (hc _ 12 hlt1).trans d12; have f13 := (hc _ 13 hlt1).trans d13; have K2 := Lib.hid (thru K1.out k2); clear hc k2 d0 d1 d2 d3 d4 d5 d6 d7 d8 d9 d10 d11 d12 d13 hlt1)
    | (go_at_call 13; refine (HB.out _).mono ?_; rintro e w3 ⟨rfl, k3⟩; have K3 := Lib.hid (thru K2.out k3); clear k3))
  go_ret
  exact ⟨rfl, K3.out⟩
end

end Go.Proofs.Ytnmfgcdenngpfaa.Width
