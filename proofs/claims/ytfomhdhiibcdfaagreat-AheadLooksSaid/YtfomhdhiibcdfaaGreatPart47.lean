/- Texts of this proof that follow each other, in one file. -/
import Derived.Test.YtfomhdhiibcdfaaGreatPart24
import Derived.Test.YtfomhdhiibcdfaaGreatPart46
import Derived.Test.YtfomhdhiibcdfaaGreatPart14
import Derived.Test.YtfomhdhiibcdfaaGreatPart28
/-! Bands, shelf by shelf. No program is in it. -/
namespace Go.Proofs.YtfomhdhiibcdfaaGreat.Shelf
set_option linter.unusedVariables false

theorem band_const {fs : List Fl} {l r : Int} : ∀ (d : Nat) (lo hi : Int), (hi - lo).toNat = d + 1 → (∀ y, lo ≤ y → y < hi → bndF fs y = (l, r)) → bandL fs lo hi = l ∧ bandR fs lo hi = r
  | 0, lo, hi, hd, h => by
    obtain rfl : hi = lo + 1 := by omega
    have := h lo (Int.le_refl _) (by omega)
    unfold bndF at this
    injection this with h1 h2
    exact ⟨h1, h2⟩
  | d + 1, lo, hi, hd, h => by
    obtain ⟨h1, h2⟩ := band_const d (lo + 1) hi (by omega) (fun y hy1 hy2 => h y (by omega) hy2)
    have h0 := h lo (Int.le_refl _) (by omega)
    unfold bndF at h0
    injection h0 with h3 h4
    rw [bandL_split fs (show lo ≤ lo + 1 by omega) (show lo + 1 ≤ hi by omega), bandR_split fs (show lo ≤ lo + 1 by omega) (show lo + 1 ≤ hi by omega), h1, h2, h3, h4]
    omega

theorem dw_same {β : Type} {F : Int → β} {xs : List (Int × β)} {a y : Int} {i : Nat} {x : Int × β} (h : DW F a xs) (hx : xs[i]? = some x) (hy : x.1 ≤ y) (hn : ∀ z, xs[i + 1]? = some z → y < z.1) : F y = x.2 := by
  have e := at_split hx
  rw [e] at h
  have h1 := ((dw_split _ a x _).1 h).2
  have hd : ∀ z r, xs.drop (i + 1) = z :: r → y < z.1 := fun z r e2 => hn z (by
    have := List.getElem?_drop (xs := xs) (i := i + 1) (j := 0)
    rw [e2] at this
    simpa using this.symm)
  obtain ⟨t, b⟩ := x
  cases hr : xs.drop (i + 1) with
  | nil => rw [hr] at h1; exact h1.2 y hy
  | cons z r =>
    obtain ⟨z1, z2⟩ := z
    have h3 := hd _ _ hr
    rw [hr] at h1
    exact h1.2.2.1 y hy h3

/-- Where the rows from a up to z that the shelves ahead of a place have end. -/
def eB (xs : List (Int × (Int × Int))) (a z : Int) (i : Nat) : Int := match xs[i]? with
  | none => z
  | some x => max a (min z x.1)

section
variable {fs : List Fl} {xs : List (Int × (Int × Int))} {a z : Int} {o1 o2 : Nat}

theorem thr_above {y : Int} {k i : Nat} {x : Int × (Int × Int)} (h : Thr xs y k) (hx : xs[i]? = some x) (hi : k ≤ i) : y < x.1 := by
  have := h.2 i x hx
  rw [show decide (k ≤ i) = true by simp [hi]] at this
  exact of_decide_eq_true this
theorem thr_under {y : Int} {k i : Nat} {x : Int × (Int × Int)} (h : Thr xs y k) (hx : xs[i]? = some x) (hi : i < k) : x.1 ≤ y := by
  have := h.2 i x hx
  rw [show decide (k ≤ i) = false by simp; omega] at this
  have := of_decide_eq_false this
  omega

theorem thr_mono (hd : DW (bndF fs) (-far) xs) (h1 : Thr xs a (o1 + 1)) (h2 : Thr xs (z - 1) (o2 + 1)) (haz : a < z) : o1 ≤ o2 := by
  rcases Nat.lt_or_ge o2 o1 with e | e
  · obtain ⟨x, hx⟩ : ∃ x, xs[o1]? = some x := ⟨_, List.getElem?_eq_getElem (by have := h1.1; omega)⟩
    have := thr_under h1 hx (by omega)
    have := thr_above h2 hx (by omega)
    omega
  · exact e

theorem eB_start (hd : DW (bndF fs) (-far) xs) (h1 : Thr xs a (o1 + 1)) (haz : a < z) : eB xs a z o1 = a := by
  obtain ⟨x, hx⟩ : ∃ x, xs[o1]? = some x := ⟨_, List.getElem?_eq_getElem (by have := h1.1; omega)⟩
  have := thr_under h1 hx (by omega)
  unfold eB
  rw [hx]
  dsimp only
  omega

theorem eB_end (h2 : Thr xs (z - 1) (o2 + 1)) (haz : a < z) : eB xs a z (o2 + 1) = z := by
  unfold eB
  cases hx : xs[o2 + 1]? with
  | none => rfl
  | some x =>
    have := thr_above h2 hx (Nat.le_refl _)
    dsimp only
    omega

/-- One shelf more. -/
theorem eB_step (hd : DW (bndF fs) (-far) xs) (h1 : Thr xs a (o1 + 1)) (h2 : Thr xs (z - 1) (o2 + 1)) (haz : a < z) {i : Nat} (hi1 : o1 ≤ i) (hi2 : i ≤ o2) {x : Int × (Int × Int)} (hx : xs[i]? = some x) :
    bandL fs a (eB xs a z (i + 1)) = max (bandL fs a (eB xs a z i)) x.2.1 ∧ bandR fs a (eB xs a z (i + 1)) = min (bandR fs a (eB xs a z i)) x.2.2 := by
  have hxz := thr_under h2 hx (by omega)
  have e0 : eB xs a z i = max a x.1 := by
    unfold eB; rw [hx]; dsimp only; omega
  have e1 : max a x.1 < eB xs a z (i + 1) ∧ ∀ y, y < eB xs a z (i + 1) → ∀ x', xs[i + 1]? = some x' → y < x'.1 := by
    unfold eB
    cases hx' : xs[i + 1]? with
    | none => exact ⟨by dsimp only; omega, fun y _ x' e => by cases e⟩
    | some x' =>
      have ha := thr_above h1 hx' (by omega)
      have hr : x.1 < x'.1 := by
        have e := at_split hx
        have hd' := hd
        rw [e] at hd'
        have h3 := ((dw_split _ _ x _).1 hd').2
        have h4 : xs.drop (i + 1) = x' :: xs.drop (i + 2) := by
          obtain ⟨q1, q2⟩ := List.getElem?_eq_some_iff.1 hx'
          rw [List.drop_eq_getElem_cons q1, q2]
        rw [h4] at h3
        obtain ⟨t, b⟩ := x
        obtain ⟨t', b'⟩ := x'
        exact h3.2.1
      refine ⟨by dsimp only; omega, fun y hy x'' e => ?_⟩
      injection e with e
      subst e
      dsimp only at hy
      omega
  have hc := band_const (fs := fs) (l := x.2.1) (r := x.2.2) ((eB xs a z (i + 1) - eB xs a z i).toNat - 1) (eB xs a z i) (eB xs a z (i + 1)) (by rw [e0]; omega) (fun y hy1 hy2 => by
    have := dw_same hd hx (y := y) (by rw [e0] at hy1; omega) (fun z' hz' => e1.2 y hy2 z' hz')
    rw [this])
  rw [bandL_split fs (show a ≤ eB xs a z i by rw [e0]; omega) (show eB xs a z i ≤ eB xs a z (i + 1) by rw [e0]; omega), bandR_split fs (show a ≤ eB xs a z i by rw [e0]; omega) (show eB xs a z i ≤ eB xs a z (i + 1) by rw [e0]; omega), hc.1, hc.2]
  exact ⟨rfl, rfl⟩

end

end Go.Proofs.YtfomhdhiibcdfaaGreat.Shelf

/-! The contract of Band; what the program's lists answer, all of it. -/
namespace Go.Proofs.YtfomhdhiibcdfaaGreat.Shelf
open Go.RowKit Go.Sort Go.Proofs.YtfomhdhiibcdfaaGreat.Rect Go.Proofs.YtfomhdhiibcdfaaGreat.More
set_option linter.unusedVariables false

/-- What the program's lists answer. -/
theorem listOk : ListOk InL where
  keep := fun w w' B p fs h k => inL_keep h k
  new := new_any
  add := fun w B p fs f h hB hlen hs hf => padd_any w B p fs f h hB hlen hs hf

end Go.Proofs.YtfomhdhiibcdfaaGreat.Shelf

/-! The program's spaces as they lie: a struct of twelve cells, a list of shelves, a row of floats. -/
namespace Go.Proofs.YtfomhdhiibcdfaaGreat.Space
open Go.RowKit Go.Sort Go.Proofs.YtfomhdhiibcdfaaGreat.Rect Go.Proofs.YtfomhdhiibcdfaaGreat.More Go.Proofs.YtfomhdhiibcdfaaGreat.Shelf
set_option linter.unusedVariables false
set_option linter.unusedSimpArgs false

/-- A block whose cells are these, none of them frozen. -/
structure RowAt (w : World) (b : Nat) (xs : List Value) : Prop where
  at' : ∀ o, w.cell? ⟨b, o, none⟩ = xs[o]?
  frz : ∀ o, w.frozen? ⟨b, o, none⟩ = false

section
variable {w w' : World} {b : Nat} {xs : List Value}

theorem RowAt.lt (h : RowAt w b xs) (hn : 0 < xs.length) : b < w.heap.size := by
  have := h.at' 0
  rw [List.getElem?_eq_getElem hn] at this
  exact block_lt_of_cell this

theorem RowAt.kept (h : RowAt w b xs) (e : w'.heap[b]? = w.heap[b]?) : RowAt w' b xs :=
  ⟨fun o => (World.cell?_of_block (a := ⟨b, o, none⟩) e).trans (h.at' o), fun o => (World.frozen?_of_block (a := ⟨b, o, none⟩) e).trans (h.frz o)⟩

theorem RowAt.set (h : RowAt w b xs) (o : Nat) (v : Value) (ho : o < xs.length) : RowAt (w.setCell ⟨b, o, none⟩ v) b (xs.set o v) := by
  refine ⟨fun j => ?_, fun j => by rw [World.frozen?_setCell]; exact h.frz j⟩
  rw [List.getElem?_set]
  by_cases e : o = j
  · subst e
    rw [if_pos rfl, if_pos ho]
    have := h.at' o
    rw [List.getElem?_eq_getElem ho] at this
    exact World.cell?_setCell_same _ _ _ this
  · rw [if_neg e, ← h.at' j]
    exact World.cell?_setCell_other _ _ _ _ (by simp [e])

theorem RowAt.below (h : RowAt w b xs) (hn : 0 < xs.length) (k : Below w.heap.size w w') : RowAt w' b xs := h.kept (k.block b (h.lt hn))

theorem RowAt.but {G : Nat → Prop} (h : RowAt w b xs) (hn : 0 < xs.length) (k : But G w w') (hG : ¬ G b) : RowAt w' b xs := h.kept (k.block b (h.lt hn) hG)

theorem RowAt.new (w : World) (xs : List Value) (T : TypeId) : RowAt (w.alloc (.cells xs.toArray T)) w.heap.size xs := by
  refine ⟨fun o => ?_, fun o => by simp [go_sem]⟩
  rw [cell_of_row _ w.heap.size o xs.toArray T (0, 0) (heap_alloc_new w _)]
  simp

theorem mineE_but {α : Type} {E : Enc α} {T : TypeId} {B n c : Nat} {A : Option Addr} {xs : List α} {G : Nat → Prop} (h : MineE E T w B A n c xs) (k : But G w w') (hG : ∀ j, blk A = some j → ¬ G j) : MineE E T w' B A n c xs := by
  refine ⟨h.1, ?_⟩
  rcases h.2 with e | ⟨g, cap, cur, e, hb, hg, r⟩
  · exact .inl e
  · have hgl : g < w.heap.size := (Array.getElem?_eq_some_iff.1 hg).1
    have hA : blk A = some g := by injection e with e1 e2 e3; rw [e1]; rfl
    exact .inr ⟨g, cap, cur, e, hb, (k.block g hgl (hG g hA)).trans hg, r⟩

theorem lst_but {B pb g n c : Nat} {xs : List Sh} {G : Nat → Prop} (h : Lst w B pb g n c xs) (k : But G w w') (h1 : ¬ G pb) (h2 : ¬ G g) : Lst w' B pb g n c xs :=
  ⟨h.hb, (k.cell h.lt h1).trans h.cell, (k.frozen h.lt h1).trans h.frz, h.ne, mineE_but h.row k (fun j e => by injection e with e; rw [← e]; exact h2)⟩

end

/-- What a space's own block holds. -/
abbrev spaceRow (pb : Nat) (A : Option Addr) (m cA : Nat) (fs : List Fl) : List Value :=
  [.pointer (some ⟨pb, 0, none⟩), .slice A m cA, .int .i64 (lastD fs), .bool (decide (0 < fs.length)),
   .int .i64 (botS fs 0).1, .bool (botS fs 0).2, .int .i64 (botS fs 1).1, .bool (botS fs 1).2,
   .int .i64 (botS fs 2).1, .bool (botS fs 2).2, .int .i64 (botS fs 3).1, .bool (botS fs 3).2]

structure Spc (w : World) (sb pb g n c : Nat) (A : Option Addr) (cA : Nat) (fs : List Fl) : Prop where
  lst : Lst w 0 pb g n c (shelvesD fs)
  own : MineE encF 84 w 0 A fs.length cA fs
  row : RowAt w sb (spaceRow pb A fs.length cA fs)
  n1 : sb ≠ pb
  n2 : sb ≠ g
  n3 : ∀ k, blk A = some k → k ≠ sb ∧ k ≠ pb ∧ k ≠ g

/-- The blocks of a space. -/
abbrev spaceB (sb pb g : Nat) (A : Option Addr) : Nat → Prop := fun k => k = sb ∨ k = pb ∨ k = g ∨ blk A = some k

/-- A space of these floats. -/
def InP (w : World) (F : Nat → Prop) (p : Addr) (fs : List Fl) : Prop :=
  fs.length ≤ 1000 ∧ ∃ sb pb g n c A cA, p = ⟨sb, 0, none⟩ ∧ F = spaceB sb pb g A ∧ Spc w sb pb g n c A cA fs

theorem Spc.but {w w' : World} {sb pb g n c : Nat} {A : Option Addr} {cA : Nat} {fs : List Fl} {G : Nat → Prop} (h : Spc w sb pb g n c A cA fs) (k : But G w w') (hG : ∀ j, spaceB sb pb g A j → ¬ G j) : Spc w' sb pb g n c A cA fs :=
  ⟨lst_but h.lst k (hG pb (.inr (.inl rfl))) (hG g (.inr (.inr (.inl rfl)))), mineE_but h.own k (fun j e => hG j (.inr (.inr (.inr e)))), h.row.but (by simp) k (hG sb (.inl rfl)), h.n1, h.n2, h.n3⟩

theorem Spc.lt {w : World} {sb pb g n c : Nat} {A : Option Addr} {cA : Nat} {fs : List Fl} (h : Spc w sb pb g n c A cA fs) : ∀ j, spaceB sb pb g A j → j < w.heap.size := by
  rintro j (rfl | rfl | rfl | e)
  · exact h.row.lt (by simp)
  · exact h.lst.lt
  · exact h.lst.glt.2
  · exact (h.own.lt j e).2

theorem inP_keep {w w' : World} {F G : Nat → Prop} {p : Addr} {fs : List Fl} (h : InP w F p fs) (k : But G w w') (hG : ∀ j, F j → ¬ G j) : InP w' F p fs := by
  obtain ⟨hf, sb, pb, g, n, c, A, cA, rfl, rfl, hs⟩ := h
  exact ⟨hf, sb, pb, g, n, c, A, cA, rfl, rfl, hs.but k hG⟩

theorem inP_below {w w' : World} {F : Nat → Prop} {p : Addr} {fs : List Fl} (h : InP w F p fs) (k : Below w.heap.size w w') : InP w' F p fs :=
  inP_keep (G := fun _ => False) h (But.of_below k) (fun _ _ q => q)

theorem inP_lt {w : World} {F : Nat → Prop} {p : Addr} {fs : List Fl} (h : InP w F p fs) : ∀ j, F j → j < w.heap.size := by
  obtain ⟨hf, sb, pb, g, n, c, A, cA, rfl, rfl, hs⟩ := h
  exact hs.lt

/-- What a space's shelves are asked. -/
theorem inP_list {w : World} {F : Nat → Prop} {sb : Nat} {fs : List Fl} (h : InP w F ⟨sb, 0, none⟩ fs) : ∃ pb, w.cell? ⟨sb, 0, none⟩ = some (.pointer (some ⟨pb, 0, none⟩)) ∧ InL w 0 ⟨pb, 0, none⟩ fs := by
  obtain ⟨hf, sb', pb, g, n, c, A, cA, e, -, hs⟩ := h
  obtain rfl : sb = sb' := by injection e
  exact ⟨pb, hs.row.at' 0, hf, pb, g, n, c, rfl, hs.lst⟩

theorem inP_form {w : World} {F : Nat → Prop} {p : Addr} {fs : List Fl} (h : InP w F p fs) : ∃ sb, p = ⟨sb, 0, none⟩ := by
  obtain ⟨hf, sb, pb, g, n, c, A, cA, e, -⟩ := h
  exact ⟨sb, e⟩

theorem inP_row {w : World} {F : Nat → Prop} {sb : Nat} {fs : List Fl} (h : InP w F ⟨sb, 0, none⟩ fs) : ∃ pb A cA, RowAt w sb (spaceRow pb A fs.length cA fs) ∧ MineE encF 84 w 0 A fs.length cA fs := by
  obtain ⟨hf, sb', pb, g, n, c, A, cA, e, -, hs⟩ := h
  obtain rfl : sb = sb' := by injection e
  exact ⟨pb, A, cA, hs.row, hs.own⟩

/-! The greatest of some numbers, as the program keeps it. -/

def lowV (m : Int) (s : Bool) (y : Int) : Int := if !s || decide (m < y) then y else m

set_option maxRecDepth 100000 in
set_option maxHeartbeats 600000 in
theorem low_add (b o : Nat) (m y : Int) (s : Bool) (xs : List Value) (w : World) (h : RowAt w b xs) (h0 : xs[o]? = some (.int .i64 m)) (h1 : xs[o + 1]? = some (.bool s)) :
    Calls Tryz.prog 55 #[.pointer (some ⟨b, o, none⟩), .int .i64 y] w fun e w' => (∃ v, e = .returned v) ∧ RowAt w' b ((xs.set o (.int .i64 (lowV m s y))).set (o + 1) (.bool true)) ∧ But (fun k => k = b) w w' := by
  have hl0 : o < xs.length := (List.getElem?_eq_some_iff.1 h0).1
  have hl1 : o + 1 < xs.length := (List.getElem?_eq_some_iff.1 h1).1
  have c0 := (h.at' o).trans h0
  have c1 := (h.at' (o + 1)).trans h1
  have f0 := h.frz o
  have f1 := h.frz (o + 1)
  have HR := Lib.hid h
  have HS := Lib.hid (fun v => ((h.set o (.int .i64 v) hl0).set (o + 1) (.bool true) (by rw [List.length_set]; exact hl1)))
  have hsame : xs.set o (.int .i64 m) = xs := by
    apply List.ext_getElem?
    intro i
    rw [List.getElem?_set]
    split
    · next e => subst e; rw [h0]
    · rfl
  have hsame1 : s = true → (xs.set o (.int .i64 m)).set (o + 1) (.bool true) = xs := by
    intro e
    rw [hsame]
    apply List.ext_getElem?
    intro i
    rw [List.getElem?_set]
    split
    · next e2 => subst e2; rw [h1, e]
    · rfl
  have HSame := Lib.hid hsame1
  have hbut : ∀ v, But (fun k => k = b) w ((w.setCell ⟨b, o, none⟩ (.int .i64 v)).setCell ⟨b, o + 1, none⟩ (.bool true)) := fun v =>
    (But.set (S := fun k => k = b) b o (.int .i64 v) rfl).trans (But.set (S := fun k => k = b) b (o + 1) (.bool true) rfl) (fun _ _ q => q)
  have HB := Lib.hid hbut
  clear h h0 h1 hsame hsame1 hbut
  cases s
  · go_enter Tryz.func55, Tryz.ntmps55
    go_wp2_with fail
    go_end0
    exact ⟨⟨_, rfl⟩, HS.out y, HB.out y⟩
  · by_cases hy : m < y
    · go_enter Tryz.func55, Tryz.ntmps55
      go_wp2_with fail
      go_end0
      refine ⟨⟨_, rfl⟩, ?_, HB.out y⟩
      rw [show lowV m true y = y by unfold lowV; simp [hy]]
      exact HS.out y
    · go_enter Tryz.func55, Tryz.ntmps55
      go_wp2_with fail
      go_end0
      refine ⟨⟨_, rfl⟩, ?_, But.of_below (Below.refl _ _)⟩
      rw [show lowV m true y = m by unfold lowV; simp; omega, HSame.out trivial]
      exact HR.out

set_option maxRecDepth 100000 in
set_option maxHeartbeats 1000000 in
theorem pnew_any (w : World) : Calls Tryz.prog 19 #[] w fun r w' => (∃ p F, r = .returned (.pointer (some p)) ∧ InP w' F p [] ∧ ∀ k, F k → w.heap.size ≤ k) ∧ Below w.heap.size w w' := by
  have HN := Lib.hid (Shelf.new_any w)
  go_enter Tryz.func19, Tryz.ntmps19
  go_wp2_with (first
    | (go_at_call 39; refine HN.out.mono ?_; rintro e w1 ⟨⟨p, rfl, ⟨-, pb, g, n, c, rfl, hl⟩⟩, k1⟩; have HL := Lib.hid (⟨hl, k1⟩ : Lst w1 w.heap.size pb g n c (shelvesD []) ∧ Below w.heap.size w w1); clear hl k1))
  go_ret
  have hl := HL.out.1
  have h1 := hl.lt
  have h2 := hl.glt
  have h3 := hl.hb
  have hk := HL.out.2.size
  refine ⟨⟨_, _, rfl, ⟨Nat.zero_le _, w1.heap.size, pb, g, n, c, none, 0, rfl, rfl, ?_⟩, ?_⟩, thru HL.out.2 (ba1 w1 _)⟩
  · have hl2 : Lst (w1.alloc (.cells (spaceRow pb none 0 0 []).toArray 90)) 0 pb g n c (shelvesD []) := by
      have := hl.below (ba1 w1 (.cells (spaceRow pb none 0 0 []).toArray 90))
      exact ⟨Nat.zero_le _, this.cell, this.frz, this.ne, this.row.mono (Nat.zero_le _)⟩
    exact ⟨hl2, noneE_mine _ _ _ _, RowAt.new w1 (spaceRow pb none 0 0 []) 90, by omega, by omega, fun k e => by cases e⟩
  · rintro k (rfl | rfl | rfl | e)
    · exact hk
    · exact h3
    · exact h2.1
    · cases e

end Go.Proofs.YtfomhdhiibcdfaaGreat.Space

/-! What the program's spaces answer: Last, Bottom, Clear, Floats, Rows, Bounds, Free. -/
namespace Go.Proofs.YtfomhdhiibcdfaaGreat.Space
open Go.RowKit Go.Sort Go.Proofs.YtfomhdhiibcdfaaGreat.Rect Go.Proofs.YtfomhdhiibcdfaaGreat.More Go.Proofs.YtfomhdhiibcdfaaGreat.Shelf
set_option linter.unusedVariables false
set_option linter.unusedSimpArgs false

set_option maxRecDepth 100000 in
set_option maxHeartbeats 600000 in
theorem bottom_at (w : World) (sb : Nat) (k : Nat) (m : Int) (s : Bool) (hk : k < 4) (h0 : w.cell? ⟨sb, 4 + k * 2, none⟩ = some (.int .i64 m)) (h1 : w.cell? ⟨sb, 4 + k * 2 + 1, none⟩ = some (.bool s)) :
    Calls Tryz.prog 48 #[.pointer (some ⟨sb, 0, none⟩), .int .i64 (k : Int)] w fun r w' => r = .returned (.tuple #[.int .i64 m, .bool s]) ∧ Below w.heap.size w w' := by
  have hk1 : ¬ (k : Int) < 0 := by omega
  have hk2 : ¬ (3 : Int) < (k : Int) := by omega
  have hk3 : (k : Int) < 4 := by omega
  clear hk
  go_enter Tryz.func48, Tryz.ntmps48
  go_upto_region 4 with fail
  generalize hW : World.alloc w _ = W
  obtain ⟨b, hb⟩ : ∃ b, w.heap.size = b := ⟨_, rfl⟩
  have hkW : Below w.heap.size w W := by rw [← hW]; exact ba1 _ _
  have e0 : W.cell? ⟨b, 0, none⟩ = some (.int .i64 m) := by rw [← hW, ← hb]; simp [go_sem]
  have e1 : W.cell? ⟨b, 1, none⟩ = some (.bool s) := by rw [← hW, ← hb]; simp [go_sem]
  have KW := Lib.hid hkW
  rw [hb]
  clear hW hkW hb h0 h1 hk1 hk2 hk3
  go_quiet (fail)
  have q : Below W.heap.size W (W.drewN nq) := ⟨rfl, rfl, rfl, Nat.le_refl _, fun _ _ => rfl⟩
  clear e0 e1
  generalize W.drewN nq = w4 at q ⊢
  have HQ := Lib.hid (thru KW.out q)
  clear q
  go_wp2_with fail
  exact bodyPost_ret (v := .tuple #[.int .i64 m, .bool s]) (by simp [results, Tryz.results48, go_sem]) rfl ⟨rfl, HQ.out⟩

theorem pbottom_any (w : World) (F : Nat → Prop) (p : Addr) (fs : List Fl) (c : Int) (h : InP w F p fs) (hc : 0 ≤ c ∧ c ≤ 3) :
    Calls Tryz.prog 48 #[.pointer (some p), .int .i64 c] w fun r w' => r = .returned (.tuple #[.int .i64 (botS fs c).1, .bool (botS fs c).2]) ∧ Below w.heap.size w w' := by
  obtain ⟨sb, rfl⟩ := inP_form h
  obtain ⟨pb, A, cA, hr, -⟩ := inP_row h
  obtain ⟨k, rfl⟩ : ∃ k : Nat, c = (k : Int) := ⟨c.toNat, by omega⟩
  have hk : k < 4 := by omega
  have key : w.cell? ⟨sb, 4 + k * 2, none⟩ = some (.int .i64 (botS fs (k : Int)).1) ∧ w.cell? ⟨sb, 4 + k * 2 + 1, none⟩ = some (.bool (botS fs (k : Int)).2) := by
    rw [hr.at', hr.at']
    rcases (show k = 0 ∨ k = 1 ∨ k = 2 ∨ k = 3 by omega) with rfl | rfl | rfl | rfl <;> exact ⟨rfl, rfl⟩
  exact bottom_at w sb k _ _ hk key.1 key.2

theorem infoPF : InfoE encF 84 49 40 :=
  ⟨Tryz.underlying49, .agg #[.int .i64 0, .int .i64 0, .int .i64 0, .int .i64 0, .int .i64 0], rfl, by kernel_rfl⟩

set_option maxHeartbeats 1000000 in
theorem fclone_some (g n c B : Nat) (xs : List Fl) (w : World) (h : MineE encF 84 w B (some ⟨g, 0, none⟩) n c xs) (hn : n ≤ 1000000) :
    Calls Tryz.prog 30 #[.slice (some ⟨g, 0, none⟩) n c] w fun r w' => (∃ A c', r = .returned (.slice A n c') ∧ MineE encF 84 w' w.heap.size A n c' xs) ∧ Below w.heap.size w w' := by
  have HM := Lib.hid h
  have hnil : ∀ w, (binOp .eql 49 (.slice (some ⟨g, 0, none⟩) n c) (.slice none 0 0)).run Tryz.prog w = .ok (.bool false) w := fun w => Lib.run_eql_slice_nil w _ 84 (some ⟨g, 0, none⟩) n c 0 0 Tryz.underlying49
  clear h
  go_enter Tryz.func30, Tryz.ntmps30
  go_upto_region 3 with fail
  go_wp2_with (first
    | (at_builtin; refine wpList_append_E (bytes := 40) (by omega) infoPF _ rfl _ _ rfl w.heap.size (some ⟨w.heap.size, 0, none⟩) 0 0 [] rfl (emptyE_mine encF 84 w w.heap.size (Nat.le_refl _)) (some ⟨g, 0, none⟩) n c xs rfl (MineE.src (MineE.alloc HM.out _)) (by omega) (by simp) ?_; intro A' c' w1 hA; have HA := Lib.hid hA; clear hA))
  go_ret
  refine ⟨⟨A', c', rfl, by have := HA.out.1; rwa [Nat.zero_add, List.nil_append] at this⟩, AppendedE.below HA.out (emptyE_mine encF 84 w w.heap.size (Nat.le_refl _)) (ba1 w _) (Nat.le_refl _) (by simp)⟩

set_option maxHeartbeats 1000000 in
theorem fclone_none (w : World) :
    Calls Tryz.prog 30 #[.slice none 0 0] w fun r w' => (∃ A c', r = .returned (.slice A 0 c') ∧ MineE encF 84 w' w.heap.size A 0 c' []) ∧ Below w.heap.size w w' := by
  have hnil : ∀ w, (binOp .eql 49 (.slice none 0 0) (.slice none 0 0)).run Tryz.prog w = .ok (.bool true) w := fun w => Lib.run_eql_slice_nil w _ 84 none 0 0 0 0 Tryz.underlying49
  go_enter Tryz.func30, Tryz.ntmps30
  go_wp2_with fail
  go_ret
  exact ⟨⟨none, 0, rfl, noneE_mine _ _ _ _⟩, Below.refl _ _⟩

set_option maxRecDepth 100000 in
set_option maxHeartbeats 600000 in
theorem pfloats_any (w : World) (F : Nat → Prop) (p : Addr) (fs : List Fl) (h : InP w F p fs) :
    Calls Tryz.prog 12 #[.pointer (some p)] w fun r w' => (∃ A c, r = .returned (.slice A fs.length c) ∧ MineE encF 84 w' w.heap.size A fs.length c fs) ∧ Below w.heap.size w w' := by
  have hf := h.1
  obtain ⟨sb, rfl⟩ := inP_form h
  obtain ⟨pb, A, cA, hr, hm⟩ := inP_row h
  have c1 : w.cell? ⟨sb, 1, none⟩ = some (.slice A fs.length cA) := hr.at' 1
  have hc : Calls Tryz.prog 30 #[.slice A fs.length cA] w fun r w' => (∃ A c', r = .returned (.slice A fs.length c') ∧ MineE encF 84 w' w.heap.size A fs.length c' fs) ∧ Below w.heap.size w w' := by
    rcases hm.2 with ⟨e, e0⟩ | ⟨g, cap, cur, e, -⟩
    · injection e with e1 e2 e3
      have efs : fs = [] := List.eq_nil_of_length_eq_zero e2
      subst e1 e3 efs
      exact fclone_none w
    · injection e with e1 e2 e3
      subst e1
      exact fclone_some g _ cA 0 fs w hm (by omega)
  have HC := Lib.hid hc
  clear h hr hm hc hf
  generalize fs.length = n at c1 HC ⊢
  go_enter Tryz.func12, Tryz.ntmps12
  go_wp2_with (first
    | (go_at_call 30; refine HC.out.mono ?_; rintro e w1 ⟨⟨A1, c1', rfl, hm⟩, k1⟩; have HM := Lib.hid hm; have K1 := Lib.hid k1; clear hm k1))
  go_ret
  exact ⟨⟨A1, c1', rfl, HM.out⟩, K1.out⟩

end Go.Proofs.YtfomhdhiibcdfaaGreat.Space

/-! The contract of Put. -/
namespace Go.Proofs.YtfomhdhiibcdfaaGreat.Space
open Go.RowKit Go.Sort Go.Proofs.YtfomhdhiibcdfaaGreat.Rect Go.Proofs.YtfomhdhiibcdfaaGreat.More Go.Proofs.YtfomhdhiibcdfaaGreat.Shelf
set_option linter.unusedVariables false
set_option linter.unusedSimpArgs false

theorem botS_some (fs : List Fl) (f : Fl) (c : Int) (h : clrB c f.s = true) : botS (fs ++ [f]) c = (lowV (botS fs c).1 (botS fs c).2 f.b, true) := by
  rw [botS_snoc]
  unfold botStep lowV
  rw [h, Bool.true_and]
  cases e : (botS fs c).2
  · simp
  · by_cases q : (botS fs c).1 < f.b
    · simp [q]
    · simp only [Bool.not_true, Bool.false_or, decide_eq_true_eq, q, if_false]
      rw [← e]

theorem botS_not (fs : List Fl) (f : Fl) (c : Int) (h : clrB c f.s = false) : botS (fs ++ [f]) c = botS fs c := by
  rw [botS_snoc]
  unfold botStep
  rw [h, Bool.false_and]
  rfl

theorem lastD_low (fs : List Fl) (f : Fl) : lastD (fs ++ [f]) = lowV (lastD fs) (decide (0 < fs.length)) f.t := by
  rw [lastD_snoc]
  unfold lowV
  cases fs with
  | nil => rfl
  | cons g gs =>
    simp only [List.length_cons]
    by_cases q : lastD (g :: gs) < f.t
    · simp [q]; omega
    · simp [q]; omega

theorem put_left (pb : Nat) (A : Option Addr) (m c : Nat) (fs : List Fl) (f : Fl) (h : f.s = 1) :
    ((((((spaceRow pb A m c fs).set 2 (.int .i64 (lowV (lastD fs) (decide (0 < fs.length)) f.t))).set 3 (.bool true)).set 6 (.int .i64 (lowV (botS fs 1).1 (botS fs 1).2 f.b))).set 7 (.bool true)).set 10 (.int .i64 (lowV (botS fs 3).1 (botS fs 3).2 f.b))).set 11 (.bool true) = spaceRow pb A m c (fs ++ [f]) := by
  have e1 := botS_some fs f 1 (by unfold clrB; rw [h]; rfl)
  have e2 := botS_not fs f 2 (by unfold clrB; rw [h]; rfl)
  have e3 := botS_some fs f 3 (by unfold clrB; rfl)
  simp [spaceRow, botS_none, e1, e2, e3, lastD_low]

theorem put_right (pb : Nat) (A : Option Addr) (m c : Nat) (fs : List Fl) (f : Fl) (h : f.s = 2) :
    ((((((spaceRow pb A m c fs).set 2 (.int .i64 (lowV (lastD fs) (decide (0 < fs.length)) f.t))).set 3 (.bool true)).set 8 (.int .i64 (lowV (botS fs 2).1 (botS fs 2).2 f.b))).set 9 (.bool true)).set 10 (.int .i64 (lowV (botS fs 3).1 (botS fs 3).2 f.b))).set 11 (.bool true) = spaceRow pb A m c (fs ++ [f]) := by
  have e1 := botS_not fs f 1 (by unfold clrB; rw [h]; rfl)
  have e2 := botS_some fs f 2 (by unfold clrB; rw [h]; rfl)
  have e3 := botS_some fs f 3 (by unfold clrB; rfl)
  simp [spaceRow, botS_none, e1, e2, e3, lastD_low]

theorem but_grown {w w' : World} {row : Option Nat} (h : w.grownBy w' row) : But (fun k => row = some k) w w' :=
  ⟨h.os, h.tape, h.output, h.size, fun k hk hs => h.block k hk (fun e => hs (by first | exact e | exact e.symm))⟩

/-- The list's and the row's rest, while the space's block is written to. -/
structure Rest (w0 w : World) (sb rb pb g n c : Nat) (A : Option Addr) (cA : Nat) (fs : List Fl) (G : Nat → Prop) (t b : Int) : Prop where
  lst : Lst w 0 pb g n c (shelvesD fs)
  own : MineE encF 84 w 0 A fs.length cA fs
  n1 : sb ≠ pb
  n2 : sb ≠ g
  n3 : ∀ k, blk A = some k → k ≠ sb ∧ k ≠ pb ∧ k ≠ g
  but : But G w0 w
  c1 : w.cell? ⟨rb, 1, none⟩ = some (.int .i64 t)
  c3 : w.cell? ⟨rb, 3, none⟩ = some (.int .i64 b)
  hr : rb ≠ sb

theorem Rest.low {w0 w w' : World} {sb rb pb g n c : Nat} {A : Option Addr} {cA : Nat} {fs : List Fl} {G : Nat → Prop} {t b : Int} (h : Rest w0 w sb rb pb g n c A cA fs G t b) (k : But (fun j => j = sb) w w') (hG : G sb) : Rest w0 w' sb rb pb g n c A cA fs G t b :=
  ⟨lst_but h.lst k (fun e => h.n1 e.symm) (fun e => h.n2 e.symm), mineE_but h.own k (fun j e q => (h.n3 j e).1 q), h.n1, h.n2, h.n3, h.but.trans k (fun j _ e => by rw [e]; exact hG),
    (k.cell (block_lt_of_cell h.c1) h.hr).trans h.c1, (k.cell (block_lt_of_cell h.c3) h.hr).trans h.c3, h.hr⟩

theorem Rest.below {w0 w w' : World} {sb rb pb g n c : Nat} {A : Option Addr} {cA : Nat} {fs : List Fl} {G : Nat → Prop} {t b : Int} (h : Rest w0 w sb rb pb g n c A cA fs G t b) (k : Below w.heap.size w w') : Rest w0 w' sb rb pb g n c A cA fs G t b :=
  ⟨h.lst.below k, h.own.below k, h.n1, h.n2, h.n3, h.but.trans (But.of_below (S := fun _ => False) k) (fun _ _ e => e.elim), (k.cell (p := ⟨rb, 1, none⟩) (block_lt_of_cell h.c1)).trans h.c1, (k.cell (p := ⟨rb, 3, none⟩) (block_lt_of_cell h.c3)).trans h.c3, h.hr⟩

end Go.Proofs.YtfomhdhiibcdfaaGreat.Space
