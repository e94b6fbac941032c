/- Texts of this proof that follow each other, in one file. -/
import Derived.Test.YtdibdfalahjmbaaGreatPart10
import Derived.Test.YtdibdfalahjmbaaGreatPart5
import Derived.Test.YtdibdfalahjmbaaGreatPart18
import Derived.Test.YtdibdfalahjmbaaGreatPart17
namespace Go.Proofs.YtdibdfalahjmbaaGreat.Place

open Go.RowKit Go.Sort Go.Proofs.YtdibdfalahjmbaaGreat.Rect Go.Proofs.YtdibdfalahjmbaaGreat.More Go.Proofs.YtdibdfalahjmbaaGreat.Shelf Go.Proofs.YtdibdfalahjmbaaGreat.Space

set_option linter.unusedVariables false

set_option linter.unusedSimpArgs false

abbrev Fl.box (f : Fl) : Value := .agg #[.int .i64 f.l, .int .i64 f.t, .int .i64 f.r, .int .i64 f.b]

structure PlaceOk (S : World → (Nat → Prop) → Addr → List Fl → Prop) : Prop where
  start : ∀ w F p fs x, S w F p fs → fs.all near49 = true → RightW x → Calls Tryz.prog 78 #[.pointer (some p), x.v] w fun r w' => r = .returned (.int .i64 (startQ fs x)) ∧ Below w.heap.size w w'
  at' : ∀ w F p fs x y, S w F p fs → fs.all near49 = true → RightW x → -2251799813685248 ≤ y ∧ y ≤ 2251799813685248 → Calls Tryz.prog 80 #[.pointer (some p), x.v, .int .i64 y] w fun r w' => r = .returned (.tuple #[.int .i64 (atQ fs x y), .bool (okQ fs x y)]) ∧ Below w.heap.size w w'
  find : ∀ w F p fs x, S w F p fs → fs.all near49 = true → RightW x → Calls Tryz.prog 67 #[.pointer (some p), x.v] w fun r w' => r = .returned (Fl.box (placed fs x)) ∧ Below w.heap.size w w'
  put : ∀ w F p fs x, S w F p fs → fs.length < 1000 → fs.all near49 = true → RightW x → Calls Tryz.prog 48 #[.pointer (some p), x.v] w fun r w' => r = .returned (Fl.box (placed fs x)) ∧ (∃ F', S w' F' p (fs ++ [placed fs x]) ∧ ∀ k, F' k → F k ∨ w.heap.size ≤ k) ∧ But F w w'

theorem eqR4_same (a b c d : Int) (w : World) : (Op.equalIn 10000 42 (.agg #[.int .i64 a, .int .i64 b, .int .i64 c, .int .i64 d]) (.agg #[.int .i64 a, .int .i64 b, .int .i64 c, .int .i64 d])).run Tryz.prog w = .ok true w := by
  have u3 := Tryz.underlying3
  have a3 := Tryz.isAgg3
  have z3 := Tryz.sizeOf3
  have hS : Tryz.prog.underlying 42 = some (.struct (Tryz.prog.fieldsOf 42)) := by kernel_rfl
  rw [show (10000 : Nat) = 9999 + 1 from rfl, run_equalIn_agg w 9999 42 _ _ hS (by kernel_rfl)]
  simp only [Program.fieldsOf, Tryz.underlying42]
  go_simp

section

variable {S : World → (Nat → Prop) → Addr → List Fl → Prop}

theorem only_put4 {w : World} {g : Nat} (T : TypeId) (x0 x1 x2 x3 y0 y1 y2 y3 : Int) (h : w.heap[g]? = some (.cells #[.int .i64 x0, .int .i64 x1, .int .i64 x2, .int .i64 x3] T)) :
    ((((w.setCell ⟨g, 0, none⟩ (.int .i64 y0)).setCell ⟨g, 1, none⟩ (.int .i64 y1)).setCell ⟨g, 2, none⟩ (.int .i64 y2)).setCell ⟨g, 3, none⟩ (.int .i64 y3)).heap[g]? = some (.cells #[.int .i64 y0, .int .i64 y1, .int .i64 y2, .int .i64 y3] T) ∧
    Draw.Only g w ((((w.setCell ⟨g, 0, none⟩ (.int .i64 y0)).setCell ⟨g, 1, none⟩ (.int .i64 y1)).setCell ⟨g, 2, none⟩ (.int .i64 y2)).setCell ⟨g, 3, none⟩ (.int .i64 y3)) :=
  ⟨set4 h y0 y1 y2 y3, (((Draw.Only.set g _ 0 _).trans (Draw.Only.set g _ 1 _)).trans (Draw.Only.set g _ 2 _)).trans (Draw.Only.set g _ 3 _)⟩

end

end Go.Proofs.YtdibdfalahjmbaaGreat.Place

namespace Go.Proofs.YtdibdfalahjmbaaGreat.Place

open Go.RowKit Go.Sort Go.Proofs.YtdibdfalahjmbaaGreat.Rect Go.Proofs.YtdibdfalahjmbaaGreat.More Go.Proofs.YtdibdfalahjmbaaGreat.Shelf Go.Proofs.YtdibdfalahjmbaaGreat.Space

theorem placeOk {S : World → (Nat → Prop) → Addr → List Fl → Prop} (hO : SpaceOk S) : PlaceOk S where
  start := fun w F p fs x h h49 hr => pstart_any hO w F p fs x h h49 hr
  at' := fun w F p fs x y h h49 hr hy => pat_any hO w F p fs x y h h49 hr hy
  find := fun w F p fs x h h49 hr => pfind_any hO w F p fs x h h49 hr
  put := fun w F p fs x h hl h49 hr => pput_any hO w F p fs x h hl h49 hr

end Go.Proofs.YtdibdfalahjmbaaGreat.Place

namespace Go.Proofs.YtdibdfalahjmbaaGreat.Text

open Go.Proofs.YtdibdfalahjmbaaGreat.Shelf Go.Proofs.YtdibdfalahjmbaaGreat.Space Go.Proofs.YtdibdfalahjmbaaGreat.Place Go.Proofs.YtdibdfalahjmbaaGreat.Line

set_option linter.unusedVariables false

structure Bx where
  l : Int
  t : Int
  r : Int
  b : Int

def bxOf (g : Fl) : Bx := ⟨g.l, g.t, g.r, g.b⟩

def noBx : Bx := ⟨0, 0, 0, 0⟩

def noIt : It := ⟨0, 0, 0, 0⟩

def itAt (its : List It) (k : Nat) : It := its.getD k noIt

theorem itAt_is {its : List It} {k : Nat} {x : It} (h : its[k]? = some x) : itAt its k = x := by unfold itAt; rw [List.getD_eq_getElem?_getD, h]; rfl

theorem itAt_right {its : List It} (h : ∀ x ∈ its, RightI x) {k : Nat} (hk : k < its.length) : RightI (itAt its k) := by
  rw [itAt_is (List.getElem?_eq_getElem hk)]
  exact h _ (List.getElem_mem hk)

structure Ly where
  m : Mk
  row : List Nat
  wait : List Nat
  box : List Bx
  out : List (Mk × List Nat)

def setRow (its : List It) (top : Int) : Int → List Nat → List Bx → List Bx
  | _, [], bs => bs
  | x, k :: ks, bs => setRow its top (x + (itAt its k).wd) ks (bs.set k ⟨x, top, x + (itAt its k).wd, top + (itAt its k).ht⟩)

def wantAt (its : List It) (m : Mk) (k : Nat) (y : Int) : Wt := (itAt its k).want m.f m.t y

def putK (its : List It) (p : Mk × List Bx) (k : Nat) : Mk × List Bx := (putM p.1 (wantAt its p.1 k p.1.y), p.2.set k (bxOf (placed p.1.fs (wantAt its p.1 k p.1.y))))

def putAll (its : List It) (l : List Nat) (p : Mk × List Bx) : Mk × List Bx := l.foldl (putK its) p

def Ly.shut (its : List It) (s : Ly) : Mk × List Bx := match s.m.az with
  | [] => (s.m, s.box)
  | _ :: _ => (s.m.fin, setRow its s.m.top s.m.l s.row s.box)

def Ly.outs (s : Ly) : List (Mk × List Nat) := match s.m.az with
  | [] => s.out
  | _ :: _ => s.out ++ [(s.m, s.row)]

def Ly.fin (its : List It) (s : Ly) : Ly := ⟨(putAll its s.wait (s.shut its)).1, [], [], (putAll its s.wait (s.shut its)).2, s.outs⟩

def Ly.atom (its : List It) (s : Ly) (i : Nat) : Ly :=
  if (s.m.add (itAt its i).z).2 then { s with m := (s.m.add (itAt its i).z).1, row := s.row ++ [i] }
  else { s.fin its with m := ((s.fin its).m.add (itAt its i).z).1, row := [i] }

def Ly.float (its : List It) (s : Ly) (i : Nat) : Ly := match s.m.az with
  | [] => { s with m := (putK its (s.m, s.box) i).1, box := (putK its (s.m, s.box) i).2 }
  | _ :: _ => match s.wait with
    | [] => match (s.m.beside (wantAt its s.m i s.m.top)).2 with
      | some r => { s with m := (s.m.beside (wantAt its s.m i s.m.top)).1, box := s.box.set i (bxOf r) }
      | none => { s with wait := [i] }
    | w :: ws => { s with wait := w :: ws ++ [i] }

def Ly.step (its : List It) (s : Ly) (i : Nat) : Ly := if (itAt its i).sd = 0 then s.atom its i else s.float its i

def layK (fs : List Fl) (f t y : Int) (its : List It) : Nat → Ly
  | 0 => ⟨⟨fs, f, t, y, 0, []⟩, [], [], List.replicate its.length noBx, []⟩
  | k + 1 => (layK fs f t y its k).step its k

def layD (fs : List Fl) (f t y : Int) (its : List It) : Ly := (layK fs f t y its its.length).fin its

structure Keeps (its : List It) (Z : Int) (k : Nat) (s : Ly) : Prop where
  lo : Lo (Z + 2147483648 * ((k : Int) - s.wait.length)) s.m
  wl : s.wait.length ≤ k
  az : s.m.az = s.row.map fun i => (itAt its i).z
  wt : ∀ i ∈ s.wait, i < k ∧ (itAt its i).sd ≠ 0
  rw' : ∀ i ∈ s.row, i < k ∧ (itAt its i).sd = 0
  none : s.m.az = [] → s.wait = []
  bl : s.box.length = its.length

theorem setRow_len (its : List It) (top : Int) (l : List Nat) : ∀ (x : Int) (bs : List Bx), (setRow its top x l bs).length = bs.length := by
  induction l with
  | nil => intro x bs; rfl
  | cons k ks ih => intro x bs; unfold setRow; rw [ih, List.length_set]

theorem shut_len (its : List It) (s : Ly) : (s.shut its).2.length = s.box.length := by
  unfold Ly.shut
  split
  · rfl
  · exact setRow_len ..

theorem shut_lo {its : List It} {s : Ly} {Z : Int} (h : Lo Z s.m) : Lo Z (s.shut its).1 := by
  unfold Ly.shut
  split
  · exact h
  · exact lo_fin h

theorem shut_az (its : List It) (s : Ly) : (s.shut its).1.az = [] := by
  unfold Ly.shut
  split
  · assumption
  · rename_i h
    unfold Mk.fin
    rw [h]

theorem putAll_keep (its : List It) (hr : ∀ x ∈ its, RightI x) (l : List Nat) (hl : ∀ i ∈ l, i < its.length ∧ (itAt its i).sd ≠ 0) : ∀ (Z : Int) (p : Mk × List Bx), Lo Z p.1 → Z + 2147483648 * (l.length : Int) ≤ 140737488355328 + 140000000000000 → p.1.az = [] →
    Lo (Z + 2147483648 * (l.length : Int)) (putAll its l p).1 ∧ (putAll its l p).1.az = [] ∧ (putAll its l p).2.length = p.2.length := by
  induction l with
  | nil => intro Z p h _ ha; exact ⟨h.up (by simp), ha, rfl⟩
  | cons k ks ih =>
    intro Z p h hz ha
    have hk := hl k List.mem_cons_self
    rw [List.length_cons] at hz ⊢
    have h1 := lo_put (y := p.1.y) h (by omega) (itAt_right hr hk.1) hk.2 h.y1 h.y2
    have h2 := ih (fun i hi => hl i (List.mem_cons_of_mem _ hi)) (Z + 2147483648) (putK its p k) h1 (by omega) ha
    refine ⟨h2.1.up (by omega), h2.2.1, ?_⟩
    refine h2.2.2.trans ?_
    exact List.length_set

theorem fin_keep {its : List It} (hr : ∀ x ∈ its, RightI x) {Z : Int} {k : Nat} {s : Ly} (h : Keeps its Z k s) (hk : k ≤ its.length) (hz : Z + 2147483648 * (k : Int) ≤ 140737488355328 + 140000000000000) :
    Lo (Z + 2147483648 * (k : Int)) (s.fin its).m ∧ (s.fin its).m.az = [] ∧ (s.fin its).box.length = its.length := by
  have h1 := h.wl
  have h2 := putAll_keep its hr s.wait (fun i hi => ⟨by have := (h.wt i hi).1; omega, (h.wt i hi).2⟩) _ (s.shut its) (shut_lo h.lo) (by omega) (shut_az its s)
  exact ⟨h2.1.up (by omega), h2.2.1, h2.2.2.trans ((shut_len its s).trans h.bl)⟩

theorem add_az {m : Mk} {z : Sz} (h : (m.add z).2 = true) : (m.add z).1.az = m.az ++ [z] := by
  unfold Mk.add at h ⊢
  split
  · rename_i q; rw [q]; rfl
  · rename_i q
    rw [q] at h
    dsimp only at h
    split at h
    · rename_i g; rw [if_pos g]; rfl
    · cases h

theorem add_empty {m : Mk} {z : Sz} (h : m.az = []) : (m.add z).2 = true := by unfold Mk.add; rw [h]

theorem atom_keep {its : List It} (hr : ∀ x ∈ its, RightI x) {Z : Int} {k : Nat} {s : Ly} (h : Keeps its Z k s) (hk : k < its.length) (hz : Z + 2147483648 * (k : Int) ≤ 140737488355328 + 140000000000000) (h0 : (itAt its k).sd = 0) : Keeps its Z (k + 1) (s.atom its k) := by
  have hs := (itAt_right hr hk).size h0
  have hwl := h.wl
  unfold Ly.atom
  split
  · rename_i q
    have h1 := lo_add h.lo (by omega) hs
    have ha := add_az q
    refine ⟨h1.up (by dsimp only; omega), by dsimp only; omega, ?_, fun i hi => ⟨by have := (h.wt i hi).1; omega, (h.wt i hi).2⟩, fun i hi => ?_, fun e => ?_, h.bl⟩
    · dsimp only
      rw [ha, h.az, List.map_append]; rfl
    · rcases List.mem_append.1 hi with g | g
      · exact ⟨by have := (h.rw' i g).1; omega, (h.rw' i g).2⟩
      · rw [List.mem_singleton.1 g]; exact ⟨by omega, h0⟩
    · dsimp only at e
      rw [ha] at e
      exact absurd e (by simp)
  · have hf := fin_keep hr h (by omega) hz
    have ha := add_az (add_empty (z := (itAt its k).z) hf.2.1)
    have h1 := lo_add hf.1 hz hs
    refine ⟨h1.up ?_, ?_, ?_, fun i hi => absurd hi List.not_mem_nil, fun i hi => ?_, fun e => rfl, hf.2.2⟩
    · show Z + 2147483648 * (k : Int) + 2147483648 ≤ Z + 2147483648 * (((k + 1 : Nat) : Int) - (([] : List Nat).length : Int))
      simp only [List.length_nil]
      omega
    · exact Nat.zero_le _
    · dsimp only
      rw [ha, hf.2.1]; rfl
    · rw [List.mem_singleton.1 hi]; exact ⟨by omega, h0⟩

theorem float_keep {its : List It} (hr : ∀ x ∈ its, RightI x) {Z : Int} {k : Nat} {s : Ly} (h : Keeps its Z k s) (hk : k < its.length) (hz : Z + 2147483648 * (k : Int) ≤ 140737488355328 + 140000000000000) (h0 : (itAt its k).sd ≠ 0) : Keeps its Z (k + 1) (s.float its k) := by
  have hx := itAt_right hr hk
  have hwl := h.wl
  have hwt : ∀ i ∈ s.wait, i < k + 1 ∧ (itAt its i).sd ≠ 0 := fun i hi => ⟨by have := (h.wt i hi).1; omega, (h.wt i hi).2⟩
  have hrw : ∀ i ∈ s.row, i < k + 1 ∧ (itAt its i).sd = 0 := fun i hi => ⟨by have := (h.rw' i hi).1; omega, (h.rw' i hi).2⟩
  unfold Ly.float
  split
  · rename_i q
    have hw := h.none q
    have h1 := lo_put (y := s.m.y) h.lo (by omega) hx h0 h.lo.y1 h.lo.y2
    exact ⟨h1.up (by dsimp only; omega), by dsimp only; omega, h.az, hwt, hrw, fun _ => hw, List.length_set.trans h.bl⟩
  · rename_i q
    have hne : s.m.az ≠ [] := by rw [q]; exact List.cons_ne_nil _ _
    split
    · rename_i g
      split
      · rename_i r e
        have h1 := lo_beside h.lo (by omega) hx h0
        have ha : (s.m.beside (wantAt its s.m k s.m.top)).1.az = s.m.az := by
          unfold Mk.beside
          split
          · rfl
          · dsimp only; split <;> rfl
        refine ⟨h1.up (by dsimp only; omega), by dsimp only; omega, ha.trans h.az, hwt, hrw, fun e' => absurd (ha.symm.trans e') hne, List.length_set.trans h.bl⟩
      · have hl0 : s.wait.length = 0 := by rw [g]; rfl
        refine ⟨h.lo.up ?_, ?_, h.az, fun i hi => ?_, hrw, fun e' => absurd e' hne, h.bl⟩
        · dsimp only [List.length_cons, List.length_nil]; omega
        · dsimp only [List.length_cons, List.length_nil]; omega
        · rw [List.mem_singleton.1 hi]; exact ⟨by omega, h0⟩
    · rename_i w ws g
      rw [← g]
      refine ⟨h.lo.up ?_, ?_, h.az, fun i hi => ?_, hrw, fun e' => absurd e' hne, h.bl⟩
      · dsimp only; rw [List.length_append, List.length_singleton]; omega
      · dsimp only; rw [List.length_append, List.length_singleton]; omega
      · rcases List.mem_append.1 hi with j | j
        · exact hwt i j
        · rw [List.mem_singleton.1 j]; exact ⟨by omega, h0⟩

theorem layK_keep {fs : List Fl} {f t y : Int} {its : List It} {Z : Int} (hr : ∀ x ∈ its, RightI x) (h : Lo Z ⟨fs, f, t, y, 0, []⟩) (hz : Z + 2147483648 * (its.length : Int) ≤ 140737488355328 + 140000000000000) (k : Nat) (hk : k ≤ its.length) : Keeps its Z k (layK fs f t y its k) := by
  induction k with
  | zero => exact ⟨h.up (by show Z ≤ Z + 2147483648 * (((0 : Nat) : Int) - ((0 : Nat) : Int)); omega), Nat.le_refl _, rfl, fun i hi => absurd hi List.not_mem_nil, fun i hi => absurd hi List.not_mem_nil, fun _ => rfl, List.length_replicate⟩
  | succ k ih =>
    have h1 := ih (by omega)
    show Keeps its Z (k + 1) ((layK fs f t y its k).step its k)
    unfold Ly.step
    split
    · rename_i q; exact atom_keep hr h1 (by omega) (by omega) q
    · rename_i q; exact float_keep hr h1 (by omega) (by omega) q

end Go.Proofs.YtdibdfalahjmbaaGreat.Text

namespace Go.Proofs.YtdibdfalahjmbaaGreat.Text

open Go.Proofs.YtdibdfalahjmbaaGreat.Shelf Go.Proofs.YtdibdfalahjmbaaGreat.Space Go.Proofs.YtdibdfalahjmbaaGreat.Place Go.Proofs.YtdibdfalahjmbaaGreat.Line

set_option linter.unusedVariables false

structure KeepI (its : List It) (Z : Int) (k : Nat) (s : Ly) : Prop where
  lo : Lo (Z + 2147483648 * ((k : Int) - s.wait.length)) s.m
  wl : s.wait.length ≤ k
  az : s.m.az = s.row.map fun i => (itAt its i).z
  wt : ∀ i ∈ s.wait, i < k ∧ (itAt its i).sd ≠ 0
  rw' : ∀ i ∈ s.row, i < k ∧ (itAt its i).sd = 0
  bl : s.box.length = its.length

theorem Keeps.toI {its : List It} {Z : Int} {k : Nat} {s : Ly} (h : Keeps its Z k s) : KeepI its Z k s := ⟨h.lo, h.wl, h.az, h.wt, h.rw', h.bl⟩

def Ly.ended (its : List It) (s : Ly) : Ly := ⟨s.m.fin, [], s.wait, setRow its s.m.top s.m.l s.row s.box, s.out ++ [(s.m, s.row)]⟩

def Ly.putW (its : List It) (s : Ly) (i : Nat) : Ly := { s with m := (putK its (s.m, s.box) i).1, box := (putK its (s.m, s.box) i).2, wait := s.wait.tail }

def Ly.putN (its : List It) (s : Ly) (i : Nat) : Ly := { s with m := (putK its (s.m, s.box) i).1, box := (putK its (s.m, s.box) i).2 }

def Ly.side (its : List It) (s : Ly) (i : Nat) (r : Fl) : Ly := { s with m := (s.m.beside (wantAt its s.m i s.m.top)).1, box := s.box.set i (bxOf r) }

def Ly.waits (s : Ly) (i : Nat) : Ly := { s with wait := s.wait ++ [i] }

def Ly.onto (its : List It) (s : Ly) (i : Nat) : Ly := { s with m := (s.m.add (itAt its i).z).1, row := s.row ++ [i] }

theorem puts_is (its : List It) (l : List Nat) : ∀ (s : Ly), s.wait = l → s.row = [] → l.foldl (Ly.putW its) s = ⟨(putAll its l (s.m, s.box)).1, [], [], (putAll its l (s.m, s.box)).2, s.out⟩ := by
  induction l with
  | nil =>
    intro s h1 h2
    obtain ⟨m, row, wait, box, out⟩ := s
    subst h1 h2
    rfl
  | cons i l ih =>
    intro s h1 h2
    have h3 := ih (s.putW its i) (by unfold Ly.putW; dsimp only; rw [h1]; rfl) h2
    exact h3

structure Micro (its : List It) (Z : Int) (P : Nat → Ly → Prop) : Prop where
  onto : ∀ k s, KeepI its Z k s → k < its.length → (itAt its k).sd = 0 → (s.m.add (itAt its k).z).2 = true → P k s → P (k + 1) (s.onto its k)
  ended : ∀ k s, KeepI its Z k s → k ≤ its.length → s.m.az ≠ [] → P k s → P k (s.ended its)
  putW : ∀ k s i ws, KeepI its Z k s → k ≤ its.length → s.m.az = [] → s.wait = i :: ws → P k s → P k (s.putW its i)
  putN : ∀ k s, KeepI its Z k s → k < its.length → (itAt its k).sd ≠ 0 → s.m.az = [] → s.wait = [] → P k s → P (k + 1) (s.putN its k)
  side : ∀ k s r, KeepI its Z k s → k < its.length → (itAt its k).sd ≠ 0 → s.m.az ≠ [] → s.wait = [] → (s.m.beside (wantAt its s.m k s.m.top)).2 = some r → P k s → P (k + 1) (s.side its k r)
  waits : ∀ k s, KeepI its Z k s → k < its.length → (itAt its k).sd ≠ 0 → s.m.az ≠ [] → P k s → P (k + 1) (s.waits k)

theorem ended_keep {its : List It} {Z : Int} {k : Nat} {s : Ly} (h : KeepI its Z k s) : KeepI its Z k (s.ended its) := by
  refine ⟨lo_fin h.lo, h.wl, ?_, h.wt, fun i hi => absurd hi List.not_mem_nil, (setRow_len ..).trans h.bl⟩
  show s.m.fin.az = []
  unfold Mk.fin
  split
  · assumption
  · rfl

theorem putW_keep {its : List It} (hr : ∀ x ∈ its, RightI x) {Z : Int} (hz : Z + 2147483648 * (its.length : Int) ≤ 140737488355328 + 140000000000000) {k : Nat} {s : Ly} {i : Nat} {ws : List Nat} (h : KeepI its Z k s) (hk : k ≤ its.length) (hw : s.wait = i :: ws) : KeepI its Z k (s.putW its i) := by
  have hi := h.wt i (by rw [hw]; exact List.mem_cons_self)
  have hl : s.wait.length = ws.length + 1 := by rw [hw]; rfl
  have ht : s.wait.tail = ws := by rw [hw]; rfl
  have hwl := h.wl
  have h1 := lo_put (y := s.m.y) h.lo (by omega) (itAt_right hr (by omega : i < its.length)) hi.2 h.lo.y1 h.lo.y2
  refine ⟨h1.up ?_, ?_, h.az, fun j hj => h.wt j ?_, h.rw', List.length_set.trans h.bl⟩
  · show _ ≤ Z + 2147483648 * ((k : Int) - (s.wait.tail.length : Int))
    rw [ht]; omega
  · show s.wait.tail.length ≤ k
    rw [ht]; omega
  · exact List.mem_of_mem_tail hj

section

variable {its : List It} {Z : Int} {P : Nat → Ly → Prop} (hr : ∀ x ∈ its, RightI x) (hz : Z + 2147483648 * (its.length : Int) ≤ 140737488355328 + 140000000000000) (M : Micro its Z P)

include hr hz M

theorem puts_so {k : Nat} (hk : k ≤ its.length) (l : List Nat) : ∀ (s : Ly), KeepI its Z k s → s.m.az = [] → s.wait = l → P k s → P k (l.foldl (Ly.putW its) s) := by
  induction l with
  | nil => intro s _ _ _ h; exact h
  | cons i l ih =>
    intro s hs ha hw hp
    exact ih (s.putW its i) (putW_keep hr hz hs hk hw) ha (by unfold Ly.putW; dsimp only; rw [hw]; rfl) (M.putW k s i l hs hk ha hw hp)

theorem fin_so {k : Nat} {s : Ly} (h : Keeps its Z k s) (hk : k ≤ its.length) (hp : P k s) : P k (s.fin its) := by
  cases ha : s.m.az with
  | nil =>
    have hw := h.none ha
    have hrow : s.row = [] := List.map_eq_nil_iff.1 (h.az.symm.trans ha)
    have e : s.fin its = s := by
      unfold Ly.fin Ly.shut Ly.outs
      rw [hw]
      obtain ⟨m, row, wait, box, out⟩ := s
      dsimp only at *
      rw [ha]
      subst hw hrow
      rfl
    rw [e]; exact hp
  | cons a l =>
    have hne : s.m.az ≠ [] := by rw [ha]; exact List.cons_ne_nil _ _
    have h1 := ended_keep h.toI
    have h2 := M.ended k s h.toI hk hne hp
    have h3 := puts_so hr hz M hk s.wait (s.ended its) h1 (by show s.m.fin.az = []; unfold Mk.fin; rw [ha]) rfl h2
    rw [puts_is its s.wait (s.ended its) rfl rfl] at h3
    have e : s.fin its = ⟨(putAll its s.wait ((s.ended its).m, (s.ended its).box)).1, [], [], (putAll its s.wait ((s.ended its).m, (s.ended its).box)).2, (s.ended its).out⟩ := by
      unfold Ly.fin Ly.shut Ly.outs
      rw [ha]
      rfl
    rw [e]; exact h3

omit M in
theorem fin_keeps {k : Nat} {s : Ly} (h : Keeps its Z k s) (hk : k ≤ its.length) : KeepI its Z k (s.fin its) := by
  have hwl := h.wl
  have h1 := fin_keep hr h hk (by omega)
  refine ⟨h1.1.up ?_, Nat.zero_le _, h1.2.1, fun i hi => absurd hi List.not_mem_nil, fun i hi => absurd hi List.not_mem_nil, h1.2.2⟩
  show Z + 2147483648 * (k : Int) ≤ Z + 2147483648 * ((k : Int) - (([] : List Nat).length : Int))
  simp only [List.length_nil]
  omega

theorem step_so {k : Nat} {s : Ly} (h : Keeps its Z k s) (hk : k < its.length) (hp : P k s) : P (k + 1) (s.step its k) := by
  unfold Ly.step
  split
  · rename_i h0
    unfold Ly.atom
    split
    · rename_i q; exact M.onto k s h.toI hk h0 q hp
    · have hf := fin_so hr hz M h (by omega) hp
      have hfk := fin_keeps hr hz h (by omega)
      have ha : (s.fin its).m.az = [] := (fin_keep hr h (by omega) (by have := h.wl; omega)).2.1
      exact M.onto k (s.fin its) hfk hk h0 (add_empty ha) hf
  · rename_i h0
    unfold Ly.float
    split
    · rename_i q; exact M.putN k s h.toI hk h0 q (h.none q) hp
    · rename_i q
      have hne : s.m.az ≠ [] := by rw [q]; exact List.cons_ne_nil _ _
      split
      · rename_i g
        split
        · rename_i r e; exact M.side k s r h.toI hk h0 hne g e hp
        · have := M.waits k s h.toI hk h0 hne hp
          unfold Ly.waits at this
          rw [g] at this
          exact this
      · rename_i w ws g
        rw [← g]
        exact M.waits k s h.toI hk h0 hne hp

theorem lay_so {fs : List Fl} {f t y : Int} (h : Lo Z ⟨fs, f, t, y, 0, []⟩) (h0 : P 0 (layK fs f t y its 0)) (k : Nat) (hk : k ≤ its.length) : P k (layK fs f t y its k) := by
  induction k with
  | zero => exact h0
  | succ k ih => exact step_so hr hz M (layK_keep hr h hz k (by omega)) (by omega) (ih (by omega))

theorem layD_so {fs : List Fl} {f t y : Int} (h : Lo Z ⟨fs, f, t, y, 0, []⟩) (h0 : P 0 (layK fs f t y its 0)) : P its.length (layD fs f t y its) :=
  fin_so hr hz M (layK_keep hr h hz _ (Nat.le_refl _)) (Nat.le_refl _) (lay_so hr hz M h h0 _ (Nat.le_refl _))

end

end Go.Proofs.YtdibdfalahjmbaaGreat.Text

namespace Go.Proofs.YtdibdfalahjmbaaGreat.Place

open Go.Proofs.YtdibdfalahjmbaaGreat.Shelf Go.Proofs.YtdibdfalahjmbaaGreat.Space

set_option linter.unusedVariables false

theorem apart_meet {fs : List Fl} {x : Wt} (h49 : fs.all near49 = true) (hr : RightW x) {o : Fl} (ho : o ∈ fs) {fx fy : Int} (hfx : findX fs x = fx) (hfy : findY fs x = fy) :
    (decide (max o.l fx < min o.r (fx + x.wd)) && decide (max o.t fy < min o.b (fy + x.ht))) = false := by
  have hf := find_is h49 hr
  have hX := findX_is h49 hr
  have hlast := Int.le_trans (startQ_last (w := x) ho) hf.1
  rw [hfy] at hf hX hlast
  rw [hfx] at hX
  obtain ⟨-, hok, -⟩ := hf
  unfold okQ at hok
  unfold edgeQ at hX
  have hz := highZ_pos x.ht
  have hsd := (near49_all h49 o ho).sd
  rw [← Bool.not_eq_true, Bool.and_eq_true, decide_eq_true_eq, decide_eq_true_eq]
  rintro ⟨m1, m2⟩
  have a1 : o.l < o.r := by omega
  have a2 : o.t < o.b := by omega
  have a3 : fy < o.b := by omega
  have b1 : o.l < fx + x.wd := by omega
  have b2 : fx < o.r := by omega
  have b3 : 0 < x.wd := by omega
  have hhit : ∀ s, o.s = s → hitF s fy (fy + highZ x.ht) o = true := fun s e => hitF_iff.2 ⟨cntF_iff.2 ⟨a1, a2, hsd⟩, e, by omega, a3, by omega⟩
  have hL : o.s = 1 → o.r ≤ bandL fs fy (fy + highZ x.ht) := fun e => (bandL_le.1 (Int.le_refl _)).2 o ho (hhit 1 e)
  have hR : o.s = 2 → bandR fs fy (fy + highZ x.ht) ≤ o.l := fun e => (le_bandR.1 (Int.le_refl _)).2 o ho (hhit 2 e)
  generalize bandL fs fy (fy + highZ x.ht) = P at *
  generalize bandR fs fy (fy + highZ x.ht) = Q at *
  rw [okN_iff] at hok
  unfold edgeN at hX
  clear m1 m2 hhit
  by_cases e : x.s = 1
  · rw [if_pos e] at hX
    have c1 : P ≤ fx := by omega
    have c2 : fx + x.wd ≤ Q := by
      rcases hok with h | ⟨-, ⟨-, g1, g2⟩ | ⟨g0, -⟩⟩
      · omega
      · rw [show max x.f P = x.f by omega] at hX; omega
      · exact absurd e g0
    rcases hsd with q | q
    · have := hL q; omega
    · have := hR q; omega
  · rw [if_neg e] at hX
    have c2 : fx + x.wd ≤ Q := by omega
    have c1 : P ≤ fx := by
      rcases hok with h | ⟨-, ⟨g0, -⟩ | ⟨-, g1, g2⟩⟩
      · omega
      · exact absurd g0 e
      · rw [show min x.t Q = x.t by omega] at hX; omega
    rcases hsd with q | q
    · have := hL q; omega
    · have := hR q; omega

end Go.Proofs.YtdibdfalahjmbaaGreat.Place

namespace Go.Proofs.YtdibdfalahjmbaaGreat.Text

open Go.Proofs.YtdibdfalahjmbaaGreat.Shelf Go.Proofs.YtdibdfalahjmbaaGreat.Space Go.Proofs.YtdibdfalahjmbaaGreat.Place Go.Proofs.YtdibdfalahjmbaaGreat.Line

set_option linter.unusedVariables false

def bxAt (bs : List Bx) (i : Nat) : Bx := bs.getD i noBx

theorem bxAt_ne {bs : List Bx} {i j : Nat} {v : Bx} (h : i ≠ j) : bxAt (bs.set i v) j = bxAt bs j := by
  unfold bxAt
  rw [List.getD_eq_getElem?_getD, List.getD_eq_getElem?_getD, List.getElem?_set_ne h]

theorem bxAt_eq {bs : List Bx} {i : Nat} {v : Bx} (h : i < bs.length) : bxAt (bs.set i v) i = v := by
  unfold bxAt
  rw [List.getD_eq_getElem?_getD, List.getElem?_set_self h]
  rfl

def offs (its : List It) (l : List Nat) : Int := (l.map fun i => (itAt its i).wd).sum

theorem setRow_out (its : List It) (top : Int) (l : List Nat) (j : Nat) (hj : j ∉ l) : ∀ (x : Int) (bs : List Bx), bxAt (setRow its top x l bs) j = bxAt bs j := by
  induction l with
  | nil => intro x bs; rfl
  | cons k ks ih =>
    intro x bs
    unfold setRow
    rw [ih (fun h => hj (List.mem_cons_of_mem _ h))]
    exact bxAt_ne fun e => hj (by rw [← e]; exact List.mem_cons_self)

theorem setRow_in (its : List It) (top : Int) (l : List Nat) : ∀ (x : Int) (bs : List Bx) (q i : Nat), l.Nodup → (∀ j ∈ l, j < bs.length) → l[q]? = some i →
    bxAt (setRow its top x l bs) i = ⟨x + offs its (l.take q), top, x + offs its (l.take q) + (itAt its i).wd, top + (itAt its i).ht⟩ := by
  induction l with
  | nil => intro x bs q i _ _ h; cases h
  | cons k ks ih =>
    intro x bs q i hn hl h
    unfold setRow
    have hn' := List.nodup_cons.1 hn
    cases q with
    | zero =>
      injection h with e
      subst e
      rw [setRow_out its top ks k hn'.1, bxAt_eq (hl k List.mem_cons_self)]
      have e0 : offs its ((k :: ks).take 0) = 0 := rfl
      rw [e0, Int.add_zero]
    | succ q =>
      have h2 := ih (x + (itAt its k).wd) (bs.set k ⟨x, top, x + (itAt its k).wd, top + (itAt its k).ht⟩) q i hn'.2 (fun j hj => by rw [List.length_set]; exact hl j (List.mem_cons_of_mem _ hj)) h
      rw [h2]
      have e0 : offs its ((k :: ks).take (q + 1)) = (itAt its k).wd + offs its (ks.take q) := by
        unfold offs
        rw [List.take_succ_cons, List.map_cons, List.sum_cons]
      rw [e0, Int.add_assoc x]

def Chain : Int → List (Mk × List Nat) → Int → Prop
  | y, [], z => y = z
  | y, e :: es, z => e.1.y = y ∧ y ≤ e.1.top ∧ e.1.top ≤ e.1.b ∧ Chain e.1.b es z

theorem chain_snoc {es : List (Mk × List Nat)} {e : Mk × List Nat} : ∀ {y z : Int}, Chain y es z → e.1.y = z → z ≤ e.1.top → e.1.top ≤ e.1.b → Chain y (es ++ [e]) e.1.b := by
  induction es with
  | nil => intro y z h h1 h2 h3; exact ⟨h1.trans h.symm, by have : y = z := h; omega, h3, rfl⟩
  | cons a es ih => intro y z h h1 h2 h3; exact ⟨h.1, h.2.1, h.2.2.1, ih h.2.2.2 h1 h2 h3⟩

theorem chain_le {es : List (Mk × List Nat)} : ∀ {y z : Int}, Chain y es z → y ≤ z ∧ ∀ e ∈ es, y ≤ e.1.top ∧ e.1.b ≤ z := by
  induction es with
  | nil => intro y z h; exact ⟨by have : y = z := h; omega, fun e he => absurd he List.not_mem_nil⟩
  | cons a es ih =>
    intro y z h
    obtain ⟨h1, h2, h3, h4⟩ := h
    obtain ⟨g1, g2⟩ := ih h4
    refine ⟨by omega, fun e he => ?_⟩
    rcases List.mem_cons.1 he with q | q
    · rw [q]; exact ⟨h2, g1⟩
    · have := g2 e q; exact ⟨by omega, this.2⟩

def meetB (a b : Bx) : Bool := decide (max a.l b.l < min a.r b.r) && decide (max a.t b.t < min a.b b.b)

def Laid (n : Nat) (y : Int) (fs : List Fl) : Prop := ∀ j g, fs[j]? = some g → n ≤ j → y ≤ g.t ∧ ∀ i o, i < j → fs[i]? = some o → o.t ≤ g.t ∧ meetB (bxOf o) (bxOf g) = false

theorem laid_self (y : Int) (fs : List Fl) : Laid fs.length y fs := fun j g h hn => by
  have := (List.getElem?_eq_some_iff.1 h).1
  omega

theorem laid_snoc {n : Nat} {y : Int} {fs : List Fl} {w : Wt} (h : Laid n y fs) (h49 : fs.all near49 = true) (hw : RightW w) (hy : y ≤ w.y) : Laid n y (fs ++ [placed fs w]) := by
  intro j g hj hn
  rcases Nat.lt_or_ge j fs.length with q | q
  · rw [List.getElem?_append_left q] at hj
    obtain ⟨h1, h2⟩ := h j g hj hn
    refine ⟨h1, fun i o hi ho => h2 i o hi ?_⟩
    rw [List.getElem?_append_left (by omega)] at ho
    exact ho
  · have hl := (List.getElem?_eq_some_iff.1 hj).1
    rw [List.length_append, List.length_singleton] at hl
    have e : j = fs.length := by omega
    subst e
    rw [List.getElem?_concat_length] at hj
    injection hj with hj
    subst hj
    have hf := (find_is h49 hw).1
    have hs := startQ_ge fs w
    refine ⟨by show y ≤ findY fs w; omega, fun i o hi ho => ?_⟩
    rw [List.getElem?_append_left hi] at ho
    have hm := List.mem_of_getElem? ho
    have hl := startQ_last (w := w) hm
    exact ⟨by show o.t ≤ findY fs w; omega, apart_meet h49 hw hm rfl rfl⟩

theorem below_meet {a b : Bx} (h : b.b ≤ a.t) : meetB a b = false := by
  unfold meetB
  rw [← Bool.not_eq_true, Bool.and_eq_true, decide_eq_true_eq, decide_eq_true_eq]
  omega

def lineB (m : Mk) : Bx := ⟨m.l, m.top, m.r, m.b⟩

theorem line_meet {m : Mk} (h49 : m.fs.all near49 = true) {g : Fl} (hg : g ∈ m.fs) : meetB (bxOf g) (lineB m) = false :=
  free_meet (f := m.f) (t := m.t) h49 rfl rfl hg

end Go.Proofs.YtdibdfalahjmbaaGreat.Text

namespace Go.Proofs.YtdibdfalahjmbaaGreat.Text

open Go.Proofs.YtdibdfalahjmbaaGreat.Shelf Go.Proofs.YtdibdfalahjmbaaGreat.Space Go.Proofs.YtdibdfalahjmbaaGreat.Place Go.Proofs.YtdibdfalahjmbaaGreat.Line

set_option linter.unusedVariables false

def isA (its : List It) (i : Nat) : Bool := decide ((itAt its i).sd = 0)

def atomsK (its : List It) (k : Nat) : List Nat := (List.range k).filter (isA its)

def floatsK (its : List It) (k : Nat) : List Nat := (List.range k).filter fun i => !isA its i

theorem atomsK_yes {its : List It} {k : Nat} (h : (itAt its k).sd = 0) : atomsK its (k + 1) = atomsK its k ++ [k] := by
  unfold atomsK
  rw [List.range_succ, List.filter_append]
  congr 1
  have : isA its k = true := by unfold isA; exact decide_eq_true h
  simp [this]

theorem atomsK_no {its : List It} {k : Nat} (h : (itAt its k).sd ≠ 0) : atomsK its (k + 1) = atomsK its k := by
  unfold atomsK
  rw [List.range_succ, List.filter_append]
  have : isA its k = false := by unfold isA; exact decide_eq_false h
  simp [this]

theorem floatsK_yes {its : List It} {k : Nat} (h : (itAt its k).sd ≠ 0) : floatsK its (k + 1) = floatsK its k ++ [k] := by
  unfold floatsK
  rw [List.range_succ, List.filter_append]
  congr 1
  have : isA its k = false := by unfold isA; exact decide_eq_false h
  simp [this]

theorem floatsK_no {its : List It} {k : Nat} (h : (itAt its k).sd = 0) : floatsK its (k + 1) = floatsK its k := by
  unfold floatsK
  rw [List.range_succ, List.filter_append]
  have : isA its k = true := by unfold isA; exact decide_eq_true h
  simp [this]

theorem atomsK_mem {its : List It} {k i : Nat} (h : i ∈ atomsK its k) : i < k ∧ (itAt its i).sd = 0 := by
  have h1 := List.mem_filter.1 h
  exact ⟨List.mem_range.1 h1.1, of_decide_eq_true h1.2⟩

theorem floatsK_mem {its : List It} {k i : Nat} (h : i ∈ floatsK its k) : i < k ∧ (itAt its i).sd ≠ 0 := by
  have h1 := List.mem_filter.1 h
  refine ⟨List.mem_range.1 h1.1, fun e => ?_⟩
  have : isA its i = true := by unfold isA; exact decide_eq_true e
  rw [this] at h1
  cases h1.2

theorem atomsK_nodup (its : List It) (k : Nat) : (atomsK its k).Nodup := List.Nodup.sublist List.filter_sublist List.nodup_range

theorem floatsK_nodup (its : List It) (k : Nat) : (floatsK its k).Nodup := List.Nodup.sublist List.filter_sublist List.nodup_range

def flAt (its : List It) (bs : List Bx) (i : Nat) : Fl := ⟨(itAt its i).sd, (bxAt bs i).l, (bxAt bs i).t, (bxAt bs i).r, (bxAt bs i).b⟩

structure Told (fs0 : List Fl) (f t y : Int) (its : List It) (k : Nat) (s : Ly) : Prop where
  at' : atomsK its k = s.out.flatMap (fun e => e.2) ++ s.row
  ft : ∃ dn, floatsK its k = dn ++ s.wait ∧ s.m.fs = fs0 ++ dn.map (flAt its s.box)
  cf : s.m.f = f
  ct : s.m.t = t
  ch : Chain y s.out s.m.y
  ln : ∀ e ∈ s.out, e.1.az = (e.2.map fun i => (itAt its i).z) ∧ e.2 ≠ []
  bx : ∀ e ∈ s.out, ∀ q i, e.2[q]? = some i → bxAt s.box i = ⟨e.1.l + offs its (e.2.take q), e.1.top, e.1.l + offs its (e.2.take q) + (itAt its i).wd, e.1.top + (itAt its i).ht⟩
  ap : ∀ e ∈ s.out, ∀ g ∈ s.m.fs, meetB (bxOf g) (lineB e.1) = false
  ld : Laid fs0.length y s.m.fs

theorem Told.atom {fs0 : List Fl} {f t y : Int} {its : List It} {k : Nat} {s : Ly} (T : Told fs0 f t y its k s) {e : Mk × List Nat} (he : e ∈ s.out) {i : Nat} (hi : i ∈ e.2) : i < k ∧ (itAt its i).sd = 0 :=
  atomsK_mem (by rw [T.at']; exact List.mem_append_left _ (List.mem_flatMap.2 ⟨e, he, hi⟩))

theorem add_same (m : Mk) (z : Sz) : (m.add z).1.fs = m.fs ∧ (m.add z).1.f = m.f ∧ (m.add z).1.t = m.t ∧ (m.add z).1.y = m.y := by
  unfold Mk.add
  split
  · exact ⟨rfl, rfl, rfl, rfl⟩
  · split <;> exact ⟨rfl, rfl, rfl, rfl⟩

theorem fin_same {m : Mk} (h : m.az ≠ []) : m.fin.fs = m.fs ∧ m.fin.f = m.f ∧ m.fin.t = m.t ∧ m.fin.y = m.b := by
  unfold Mk.fin
  split
  · rename_i q; exact absurd q h
  · exact ⟨rfl, rfl, rfl, rfl⟩

theorem beside_some {m : Mk} {w : Wt} {r : Fl} (h : (m.beside w).2 = some r) : r = placed m.fs w ∧ (m.beside w).1 = putM m w ∧ r.t = m.top := by
  unfold Mk.beside at h ⊢
  split at h
  · cases h
  · rename_i q
    rw [q]
    dsimp only at h ⊢
    split at h
    · cases h
    · rename_i g
      rw [if_neg (by rw [q] at g; exact g)]
      injection h with e
      refine ⟨e.symm, by unfold putM; rw [q], ?_⟩
      rw [← e]
      have := not_or.1 g
      omega

theorem put_told {fs0 : List Fl} {f t y Z : Int} {its : List It} {k : Nat} {s : Ly} (hr : ∀ x ∈ its, RightI x) (hz : Z + 2147483648 * (its.length : Int) ≤ 140737488355328 + 140000000000000) (hk : k ≤ its.length) (T : Told fs0 f t y its k s) (K : KeepI its Z k s)
    {dn : List Nat} (hdn : s.m.fs = fs0 ++ dn.map (flAt its s.box)) {i : Nat} (hi : i ∉ dn) (hil : i < its.length) (h0 : (itAt its i).sd ≠ 0) {yy : Int} (hy1 : s.m.y ≤ yy) (hy2 : yy ≤ Z + 2147483648 * ((k : Int) - s.wait.length)) {r : Fl} (hrr : r = placed s.m.fs (wantAt its s.m i yy)) :
    s.m.fs ++ [r] = fs0 ++ (dn ++ [i]).map (flAt its (s.box.set i (bxOf r)))
    ∧ (∀ e ∈ s.out, ∀ q j, e.2[q]? = some j → bxAt (s.box.set i (bxOf r)) j = ⟨e.1.l + offs its (e.2.take q), e.1.top, e.1.l + offs its (e.2.take q) + (itAt its j).wd, e.1.top + (itAt its j).ht⟩)
    ∧ (∀ e ∈ s.out, ∀ g ∈ s.m.fs ++ [r], meetB (bxOf g) (lineB e.1) = false)
    ∧ Laid fs0.length y (s.m.fs ++ [r]) := by
  have hwl := K.wl
  have hx := itAt_right hr hil
  have hyl := K.lo.y1
  have hw : RightW (wantAt its s.m i yy) := hx.want h0 K.lo.f1 K.lo.f2 K.lo.t1 K.lo.t2 K.lo.ft (by omega) (by omega)
  have h49 := nearZ_49 K.lo.fl (by omega)
  have hp := placed_Z (y := yy) K.lo (by omega) hx h0 (by omega) hy2
  have hc := chain_le T.ch
  refine ⟨?_, fun e he q j hj => ?_, fun e he g hg => ?_, ?_⟩
  · rw [hdn, List.map_append, List.append_assoc]
    congr 1
    have e1 : dn.map (flAt its (s.box.set i (bxOf r))) = dn.map (flAt its s.box) := by
      refine List.map_congr_left fun j hj => ?_
      unfold flAt
      rw [bxAt_ne fun e => hi (by rw [e]; exact hj)]
    have e2 : flAt its (s.box.set i (bxOf r)) i = r := by
      unfold flAt
      rw [bxAt_eq (by rw [K.bl]; exact hil), hrr]
      rfl
    rw [e1, List.map_singleton, e2]
  · rw [bxAt_ne]
    · exact T.bx e he q j hj
    · intro e'
      subst e'
      exact h0 (T.atom he (List.mem_of_getElem? hj)).2
  · rcases List.mem_append.1 hg with q | q
    · exact T.ap e he g q
    · rw [List.mem_singleton.1 q, hrr]
      refine below_meet ?_
      have h1 := (hc.2 e he).2
      have h2 := hp.2
      show e.1.b ≤ (placed s.m.fs (wantAt its s.m i yy)).t
      unfold wantAt
      omega
  · rw [hrr]
    exact laid_snoc T.ld h49 hw (by show y ≤ yy; have := hc.1; omega)

theorem told_micro {fs0 : List Fl} {f t y Z : Int} {its : List It} (hr : ∀ x ∈ its, RightI x) (hz : Z + 2147483648 * (its.length : Int) ≤ 140737488355328 + 140000000000000) : Micro its Z (Told fs0 f t y its) := by
  refine ⟨fun k s K hk h0 ha T => ?_, fun k s K hk hne T => ?_, fun k s i ws K hk ha hw T => ?_, fun k s K hk h0 ha hw T => ?_, fun k s r K hk h0 hne hw hb T => ?_, fun k s K hk h0 hne T => ?_⟩
  · obtain ⟨e1, e2, e3, e4⟩ := add_same s.m (itAt its k).z
    obtain ⟨dn, d1, d2⟩ := T.ft
    unfold Ly.onto
    refine ⟨?_, ⟨dn, by rw [floatsK_no h0]; exact d1, e1.trans d2⟩, e2.trans T.cf, e3.trans T.ct, ?_, T.ln, T.bx, fun e he g hg => T.ap e he g (by rw [← e1]; exact hg), ?_⟩
    · rw [atomsK_yes h0, T.at', List.append_assoc]
    · dsimp only; rw [e4]; exact T.ch
    · dsimp only; rw [e1]; exact T.ld
  · obtain ⟨e1, e2, e3, e4⟩ := fin_same hne
    obtain ⟨dn, d1, d2⟩ := T.ft
    have hwl := K.wl
    have hh := highL_Z K.lo.ha
    have hrow : s.row ≠ [] := fun e => hne (by rw [K.az, e]; rfl)
    have hnd := atomsK_nodup its k
    rw [T.at'] at hnd
    have hnr := (List.nodup_append.1 hnd).2.1
    have hdis := (List.nodup_append.1 hnd).2.2
    have hlt : ∀ j ∈ s.row, j < s.box.length := fun j hj => by have := (K.rw' j hj).1; rw [K.bl]; omega
    unfold Ly.ended
    refine ⟨?_, ⟨dn, d1, ?_⟩, e2.trans T.cf, e3.trans T.ct, ?_, fun e he => ?_, fun e he q i hi => ?_, fun e he g hg => ?_, ?_⟩
    · dsimp only
      rw [T.at', List.flatMap_append, List.append_nil]
      simp
    · dsimp only
      rw [e1, d2]
      congr 1
      refine List.map_congr_left fun j hj => ?_
      unfold flAt
      have hj2 := (floatsK_mem (its := its) (k := k) (i := j) (by rw [d1]; exact List.mem_append_left _ hj)).2
      rw [setRow_out its s.m.top s.row j fun hm => hj2 (K.rw' j hm).2]
    · dsimp only
      rw [e4]
      exact chain_snoc (e := (s.m, s.row)) T.ch rfl (K.lo.p1 hne) (by show s.m.top ≤ s.m.top + highL s.m.az; omega)
    · rcases List.mem_append.1 he with q | q
      · exact T.ln e q
      · rw [List.mem_singleton.1 q]; exact ⟨K.az, hrow⟩
    · dsimp only
      rcases List.mem_append.1 he with g | g
      · rw [setRow_out its s.m.top s.row i fun hm => ?_]
        · exact T.bx e g q i hi
        · exact hdis i (List.mem_flatMap.2 ⟨e, g, List.mem_of_getElem? hi⟩) i hm rfl
      · have g' := List.mem_singleton.1 g
        subst g'
        exact setRow_in its s.m.top s.row s.m.l s.box q i hnr hlt hi
    · rcases List.mem_append.1 he with q | q
      · exact T.ap e q g (by rw [← e1]; exact hg)
      · rw [List.mem_singleton.1 q]
        exact line_meet (nearZ_49 K.lo.fl (by omega)) (by rw [← e1]; exact hg)
    · dsimp only; rw [e1]; exact T.ld
  · obtain ⟨dn, d1, d2⟩ := T.ft
    have hi := K.wt i (by rw [hw]; exact List.mem_cons_self)
    have hnd := floatsK_nodup its k
    rw [d1, hw] at hnd
    have hni : i ∉ dn := fun h => (List.nodup_append.1 hnd).2.2 i h i List.mem_cons_self rfl
    obtain ⟨p1, p2, p3, p4⟩ := put_told hr hz hk T K d2 hni (by omega) hi.2 (Int.le_refl _) K.lo.y2 rfl
    refine ⟨T.at', ⟨dn ++ [i], ?_, p1⟩, T.cf, T.ct, T.ch, T.ln, p2, p3, p4⟩
    show floatsK its k = dn ++ [i] ++ s.wait.tail
    rw [d1, hw, List.append_assoc]
    rfl
  · obtain ⟨dn, d1, d2⟩ := T.ft
    have hni : k ∉ dn := fun h => by have := (floatsK_mem (its := its) (k := k) (i := k) (by rw [d1]; exact List.mem_append_left _ h)).1; omega
    obtain ⟨p1, p2, p3, p4⟩ := put_told hr hz (by omega) T K d2 hni hk h0 (Int.le_refl _) K.lo.y2 rfl
    refine ⟨(atomsK_no h0).trans T.at', ⟨dn ++ [k], ?_, p1⟩, T.cf, T.ct, T.ch, T.ln, p2, p3, p4⟩
    show floatsK its (k + 1) = dn ++ [k] ++ s.wait
    rw [floatsK_yes h0, d1, hw, List.append_nil, List.append_nil]
  · obtain ⟨dn, d1, d2⟩ := T.ft
    have hni : k ∉ dn := fun h => by have := (floatsK_mem (its := its) (k := k) (i := k) (by rw [d1]; exact List.mem_append_left _ h)).1; omega
    obtain ⟨b1, b2, b3⟩ := beside_some hb
    obtain ⟨p1, p2, p3, p4⟩ := put_told hr hz (by omega) T K d2 hni hk h0 (K.lo.p1 hne) (by have := K.lo.p2 hne; omega) b1
    unfold Ly.side
    rw [b2]
    have e1 : (putM s.m (wantAt its s.m k s.m.top)).fs = s.m.fs ++ [r] := by rw [b1]; rfl
    refine ⟨(atomsK_no h0).trans T.at', ⟨dn ++ [k], ?_, e1.trans p1⟩, T.cf, T.ct, T.ch, T.ln, p2, fun e he g hg => p3 e he g (by rw [← e1]; exact hg), by dsimp only; rw [e1]; exact p4⟩
    show floatsK its (k + 1) = dn ++ [k] ++ s.wait
    rw [floatsK_yes h0, d1, hw, List.append_nil, List.append_nil]
  · obtain ⟨dn, d1, d2⟩ := T.ft
    refine ⟨(atomsK_no h0).trans T.at', ⟨dn, ?_, d2⟩, T.cf, T.ct, T.ch, T.ln, T.bx, T.ap, T.ld⟩
    show floatsK its (k + 1) = dn ++ (s.wait ++ [k])
    rw [floatsK_yes h0, d1, List.append_assoc]

theorem told_start (fs : List Fl) (f t y : Int) (its : List It) : Told fs f t y its 0 (layK fs f t y its 0) :=
  ⟨rfl, ⟨[], rfl, (List.append_nil _).symm⟩, rfl, rfl, rfl, fun e he => absurd he List.not_mem_nil, fun e he => absurd he List.not_mem_nil, fun e he => absurd he List.not_mem_nil, laid_self y fs⟩

theorem layD_told {fs : List Fl} {f t y Z : Int} {its : List It} (hr : ∀ x ∈ its, RightI x) (hz : Z + 2147483648 * (its.length : Int) ≤ 140737488355328 + 140000000000000) (h : Lo Z ⟨fs, f, t, y, 0, []⟩) : Told fs f t y its its.length (layD fs f t y its) :=
  layD_so hr hz (told_micro hr hz) h (told_start fs f t y its)

end Go.Proofs.YtdibdfalahjmbaaGreat.Text

namespace Go.Proofs.YtdibdfalahjmbaaGreat.Text

open Go.Proofs.YtdibdfalahjmbaaGreat.Shelf Go.Proofs.YtdibdfalahjmbaaGreat.Space Go.Proofs.YtdibdfalahjmbaaGreat.Place Go.Proofs.YtdibdfalahjmbaaGreat.Line

set_option linter.unusedVariables false

end Go.Proofs.YtdibdfalahjmbaaGreat.Text

namespace Go.Proofs.YtdibdfalahjmbaaGreat.Text

open Go.Proofs.YtdibdfalahjmbaaGreat.Shelf Go.Proofs.YtdibdfalahjmbaaGreat.Space Go.Proofs.YtdibdfalahjmbaaGreat.Place Go.Proofs.YtdibdfalahjmbaaGreat.Line

set_option linter.unusedVariables false

section

variable {fs : List Fl} {f t y Z : Int} {its : List It} (hr : ∀ x ∈ its, RightI x) (hz : Z + 2147483648 * (its.length : Int) ≤ 140737488355328 + 140000000000000) (h : Lo Z ⟨fs, f, t, y, 0, []⟩)

include hr hz h

end

end Go.Proofs.YtdibdfalahjmbaaGreat.Text

namespace Go.Proofs.YtdibdfalahjmbaaGreat.Text

open Go.Proofs.YtdibdfalahjmbaaGreat.Shelf Go.Proofs.YtdibdfalahjmbaaGreat.Space Go.Proofs.YtdibdfalahjmbaaGreat.Place Go.Proofs.YtdibdfalahjmbaaGreat.Line

set_option linter.unusedVariables false

section

variable {fs : List Fl} {f t y Z : Int} {its : List It} {s : Ly} {k : Nat}

theorem Told.top (T : Told fs f t y its k s) : ∀ e ∈ s.out, ∀ i ∈ e.2, (bxAt s.box i).t = e.1.top := by
  intro e he i hi
  obtain ⟨q, hq⟩ := List.getElem?_of_mem hi
  rw [T.bx e he q i hq]

end

end Go.Proofs.YtdibdfalahjmbaaGreat.Text

namespace Go.Proofs.YtdibdfalahjmbaaGreat.Text

open Go.Proofs.YtdibdfalahjmbaaGreat.Shelf Go.Proofs.YtdibdfalahjmbaaGreat.Space Go.Proofs.YtdibdfalahjmbaaGreat.Place Go.Proofs.YtdibdfalahjmbaaGreat.Line

set_option linter.unusedVariables false

theorem highL_ge {l : List Sz} {z : Sz} (h : z ∈ l) : z.ht ≤ highL l := by
  rw [← List.reverse_reverse l] at h ⊢
  generalize l.reverse = k at *
  induction k with
  | nil => cases h
  | cons a k ih =>
    rw [List.reverse_cons] at h ⊢
    rw [highL_snoc]
    rcases List.mem_append.1 h with g | g
    · have := ih g
      split <;> omega
    · rw [List.mem_singleton.1 g]
      split <;> omega

section

variable {fs : List Fl} {f t y : Int} {its : List It} {s : Ly} {k : Nat}

theorem Told.row (T : Told fs f t y its k s) {e : Mk × List Nat} (he : e ∈ s.out) {q i : Nat} (hq : e.2[q]? = some i) :
    (bxAt s.box i).t = e.1.top ∧ (bxAt s.box i).b ≤ e.1.b ∧ (q = 0 → (bxAt s.box i).l = e.1.l) ∧ (bxAt s.box i).r - (bxAt s.box i).l = (itAt its i).wd ∧ (bxAt s.box i).b - (bxAt s.box i).t = (itAt its i).ht := by
  have hb := T.bx e he q i hq
  have hz : (itAt its i).z ∈ e.1.az := by
    rw [(T.ln e he).1]
    exact List.mem_map_of_mem (List.mem_of_getElem? hq)
  have hh : (itAt its i).ht ≤ highL e.1.az := highL_ge hz
  rw [hb]
  refine ⟨rfl, ?_, fun e0 => ?_, ?_, ?_⟩
  · show e.1.top + (itAt its i).ht ≤ e.1.top + highL e.1.az
    omega
  · subst e0
    show e.1.l + 0 = e.1.l
    omega
  · dsimp only; omega
  · dsimp only; omega

theorem placed_size (fs : List Fl) (w : Wt) : (placed fs w).r - (placed fs w).l = w.wd ∧ (placed fs w).b - (placed fs w).t = w.ht := by
  unfold placed
  dsimp only
  omega

end

end Go.Proofs.YtdibdfalahjmbaaGreat.Text

namespace Go.Proofs.YtdibdfalahjmbaaGreat.Text

open Go.Proofs.YtdibdfalahjmbaaGreat.Shelf Go.Proofs.YtdibdfalahjmbaaGreat.Space Go.Proofs.YtdibdfalahjmbaaGreat.Place Go.Proofs.YtdibdfalahjmbaaGreat.Line

set_option linter.unusedVariables false

def Sized (its : List It) (k : Nat) (s : Ly) : Prop := ∀ i, i < k → (itAt its i).sd ≠ 0 → i ∉ s.wait → (bxAt s.box i).r - (bxAt s.box i).l = (itAt its i).wd ∧ (bxAt s.box i).b - (bxAt s.box i).t = (itAt its i).ht

theorem sized_set {its : List It} {bs : List Bx} {k : Nat} {wait wait' : List Nat} {i : Nat} {fs : List Fl} {f t y : Int} {r : Fl} (hi : i < bs.length) (hr : r = placed fs ((itAt its i).want f t y))
    (h : ∀ j, j < k → (itAt its j).sd ≠ 0 → j ∉ wait → (bxAt bs j).r - (bxAt bs j).l = (itAt its j).wd ∧ (bxAt bs j).b - (bxAt bs j).t = (itAt its j).ht) {k' : Nat} (hk : ∀ j, j < k' → j ≠ i → j ∉ wait' → j < k ∧ j ∉ wait) :
    ∀ j, j < k' → (itAt its j).sd ≠ 0 → j ∉ wait' → (bxAt (bs.set i (bxOf r)) j).r - (bxAt (bs.set i (bxOf r)) j).l = (itAt its j).wd ∧ (bxAt (bs.set i (bxOf r)) j).b - (bxAt (bs.set i (bxOf r)) j).t = (itAt its j).ht := by
  intro j h1 h2 h3
  by_cases e : j = i
  · subst e
    rw [bxAt_eq hi, hr]
    exact placed_size fs ((itAt its j).want f t y)
  · rw [bxAt_ne fun e' => e e'.symm]
    have := hk j h1 e h3
    exact h j this.1 h2 this.2

theorem sized_micro {Z : Int} {its : List It} : Micro its Z (Sized its) := by
  refine ⟨fun k s K hk h0 ha T => ?_, fun k s K hk hne T => ?_, fun k s i ws K hk ha hw T => ?_, fun k s K hk h0 ha hw T => ?_, fun k s r K hk h0 hne hw hb T => ?_, fun k s K hk h0 hne T => ?_⟩
  · intro i h1 h2 h3
    exact T i (by rcases Nat.lt_or_ge i k with g | g; · exact g
                  · exact absurd (by rw [show i = k by omega]; exact h0) h2) h2 h3
  · intro i h1 h2 h3
    show (bxAt (setRow its s.m.top s.m.l s.row s.box) i).r - (bxAt (setRow its s.m.top s.m.l s.row s.box) i).l = _ ∧ (bxAt (setRow its s.m.top s.m.l s.row s.box) i).b - (bxAt (setRow its s.m.top s.m.l s.row s.box) i).t = _
    rw [setRow_out its s.m.top s.row i fun hm => h2 (K.rw' i hm).2]
    exact T i h1 h2 h3
  · have hi := K.wt i (by rw [hw]; exact List.mem_cons_self)
    refine sized_set (wait := s.wait) (wait' := s.wait.tail) (k := k) (by rw [K.bl]; omega) rfl T fun j h1 h2 h3 => ⟨h1, fun h4 => ?_⟩
    rw [hw] at h3 h4
    rcases List.mem_cons.1 h4 with e | e
    · exact h2 e
    · exact h3 e
  · exact sized_set (wait := s.wait) (wait' := s.wait) (k := k) (by rw [K.bl]; omega) rfl T fun j h1 h2 h3 => ⟨by omega, h3⟩
  · exact sized_set (wait := s.wait) (wait' := s.wait) (k := k) (by rw [K.bl]; omega) (beside_some hb).1 T fun j h1 h2 h3 => ⟨by omega, h3⟩
  · intro i h1 h2 h3
    have h4 : i ∉ s.wait := fun h => h3 (List.mem_append_left _ h)
    have h5 : i ≠ k := fun e => h3 (List.mem_append_right _ (by rw [e]; exact List.mem_singleton.2 rfl))
    exact T i (by omega) h2 h4

theorem layD_sized {fs : List Fl} {f t y Z : Int} {its : List It} (hr : ∀ x ∈ its, RightI x) (hz : Z + 2147483648 * (its.length : Int) ≤ 140737488355328 + 140000000000000) (h : Lo Z ⟨fs, f, t, y, 0, []⟩) : Sized its its.length (layD fs f t y its) :=
  layD_so hr hz sized_micro h (fun i hi => absurd hi (Nat.not_lt_zero _))

theorem layD_ends {fs : List Fl} {f t y Z : Int} {its : List It} (hr : ∀ x ∈ its, RightI x) (hz : Z + 2147483648 * (its.length : Int) ≤ 140737488355328 + 140000000000000) (h : Lo Z ⟨fs, f, t, y, 0, []⟩) :
    (layD fs f t y its).wait = [] ∧ (layD fs f t y its).row = [] ∧ (layD fs f t y its).m.az = [] ∧ (layD fs f t y its).box.length = its.length ∧ Lo (Z + 2147483648 * (its.length : Int)) (layD fs f t y its).m := by
  obtain ⟨h1, h2, h3⟩ := fin_keep hr (layK_keep hr h hz _ (Nat.le_refl _)) (Nat.le_refl _) hz
  exact ⟨rfl, rfl, h2, h3, h1⟩

end Go.Proofs.YtdibdfalahjmbaaGreat.Text

namespace Go.Proofs.YtdibdfalahjmbaaGreat.More

open Go.RowKit Go.Sort Go.Proofs.YtdibdfalahjmbaaGreat.More.Hold

namespace Hold2

def guards2B : List Oper → List Leave → List Leave → Bool
  | o :: os, y :: ys, all => (match o.guard with
    | none => !y.isSkip
    | some (k, b) => o.after.any (fun e => Region.binds .any e && e.on == k) && (match all[k]? with
      | some (.val (.bool c)) => (c == b) == !y.isSkip
      | some .skip => y.isSkip
      | _ => false)) && guards2B os ys all
  | _, _, _ => true

theorem guards2_at : ∀ {os : List Oper} {ys all : List Leave} {i : Nat} {o : Oper} {y : Leave}, guards2B os ys all = true → os[i]? = some o → ys[i]? = some y →
    (o.guard = none ∧ y.isSkip = false) ∨ (∃ k b c, o.guard = some (k, b) ∧ (∃ e ∈ o.after, Region.binds .any e = true ∧ e.on = k) ∧ all[k]? = some (.val (.bool c)) ∧ ((c == b) = !y.isSkip)) ∨
      ∃ k b, o.guard = some (k, b) ∧ (∃ e ∈ o.after, Region.binds .any e = true ∧ e.on = k) ∧ all[k]? = some .skip ∧ y.isSkip = true
  | o :: os, y :: ys, all, 0, _, _, h, h1, h2 => by
    simp only [List.getElem?_cons_zero, Option.some.injEq] at h1 h2
    subst h1 h2
    simp only [guards2B, Bool.and_eq_true] at h
    obtain ⟨h, _⟩ := h
    cases hg : o.guard with
    | none => rw [hg] at h; left; exact ⟨rfl, by simpa using h⟩
    | some kb =>
      obtain ⟨k, b⟩ := kb
      rw [hg] at h
      simp only [Bool.and_eq_true] at h
      obtain ⟨h3, h4⟩ := h
      obtain ⟨e, he, he2⟩ := Array.any_eq_true'.1 h3
      simp only [Bool.and_eq_true, beq_iff_eq] at he2
      right
      split at h4
      · rename_i c hc
        left
        exact ⟨k, b, c, rfl, ⟨e, he, he2⟩, hc, by simpa using h4⟩
      · rename_i hc
        right
        exact ⟨k, b, rfl, ⟨e, he, he2⟩, hc, h4⟩
      · cases h4
  | o :: os, y :: ys, all, i + 1, _, _, h, h1, h2 => by
    simp only [List.getElem?_cons_succ] at h1 h2
    simp only [guards2B, Bool.and_eq_true] at h
    exact guards2_at h.2 h1 h2
  | [], _, _, _, _, _, _, h1, _ => by simp at h1
  | _ :: _, [], _, _, _, _, _, _, h2 => by simp at h2

variable {P : Program} {l : List Oper} {ys : List Leave} {a0 : Act} {W : World}

theorem step2 {g : Nat → Value} {listed : Array Bool} {a : Act} {w : World} {Q : Exit → Act → World → Prop} (ok : HeadOk l ys.length a0.tmps.size) (h : Telling l ys a0 W g listed a w) (hs : Region.noSelect l.toArray = true)
    (hgd : guards2B l ys ys = true) (hall : allLeave P (fun g => fill g 0 l ys a0) ys W l ys) (hsz : listed.size = l.toArray.size) {i : Nat} (hi : i < ys.length) (hr : i ∈ Region.ready .any l.toArray listed) :
    wpOp P l.toArray Q i (fun a' w' => ∃ g, Telling l ys a0 W g (listed.setIfInBounds i true) a' w') a w := by
  obtain ⟨hun, o, ho, hdep⟩ := mem_ready.1 hr
  have ho' : l[i]? = some o := by simpa using ho
  have hy : ys[i]? = some ys[i] := by simp [hi]
  have hsame := h.same ok hs hi ho' hdep
  have hY := allLeave_at hall ho' hy
  have hun' : listed.getD i false = false := getD_both hun
  have hin : i < listed.size := by
    rw [hsz]; simpa using (List.getElem?_eq_some_iff.1 ho').1
  have hkn : known ys o g w := fun e he hb R hye => h.held e.on R hye (hdep e he hb)
  have hkp : allKeep ys := allKeep_of hall ok.there
  have hw : Region.wanted o (yielded l.toArray a.tmps) = !(ys[i]).isSkip := by
    rcases guards2_at hgd ho' hy with ⟨hg, hsk⟩ | ⟨k, b, c, hg, ⟨e, he, hb, hon⟩, hk, hcb⟩ | ⟨k, b, hg, ⟨e, he, hb, hon⟩, hk, hsk⟩
    · simp [Region.wanted, hg, hsk]
    · have hlk : listed.getD k false = true := by rw [← hon]; exact hdep e he hb
      have hkl : k < ys.length := (List.getElem?_eq_some_iff.1 hk).1
      obtain ⟨p, hp⟩ := ok.there k hkl
      obtain ⟨d, hd1, hd2⟩ := ok.dst k p hkl hp
      have hsl := h.slot k p _ d hp hk hlk hd1
      have hda : d < a.tmps.size := by rw [h.size]; exact hd2
      have hyl : yielded l.toArray a.tmps k = some c := by
        unfold yielded
        simp only [List.getElem?_toArray, hp, Option.bind_some, hd1]
        have : a.tmps[d]? = some (.bool c) := by
          rw [Array.getElem?_eq_getElem hda]
          simpa [Leave.value, hda] using hsl
        rw [this]
      simp only [Region.wanted, hg, hyl]
      rw [← hcb]
      cases c <;> cases b <;> rfl
    · have hlk : listed.getD k false = true := by rw [← hon]; exact hdep e he hb
      have hkl : k < ys.length := (List.getElem?_eq_some_iff.1 hk).1
      obtain ⟨p, hp⟩ := ok.there k hkl
      obtain ⟨d, hd1, hd2⟩ := ok.dst k p hkl hp
      have hsl := h.slot k p _ d hp hk hlk hd1
      have hda : d < a.tmps.size := by rw [h.size]; exact hd2
      have hyl : yielded l.toArray a.tmps k = none := by
        unfold yielded
        simp only [List.getElem?_toArray, hp, Option.bind_some, hd1]
        have : a.tmps[d]? = some undef := by
          rw [Array.getElem?_eq_getElem hda]
          simpa [Leave.value, hda] using hsl
        rw [this]
        rfl
      simp only [Region.wanted, hg, hyl, hsk]
      rfl
  unfold wpOp
  simp only [ho, hw]
  revert hY
  generalize hyi : ys[i] = y at *
  cases y with
  | skip =>
    intro _
    simp only [Leave.isSkip, Bool.not_true, Bool.false_eq_true, if_false]
    exact h.more (u := undef) ok hkp hi ho' hy hin hun' rfl (fun R e => by cases e) (Below.refl _ _)
  | val v =>
    intro hY
    simp only [Leave.isSkip, Bool.not_false, if_true]
    left
    unfold Oper.wp
    rw [hsame]
    have h3 := hY g w h.below hkn
    generalize (execOp (fill g 0 l ys a0).eval o).run P w = r at *
    cases r with
    | ok nx w' =>
      cases nx <;> simp only [stays] at h3 <;> simp only [Oper.upon]
      case value u =>
        obtain ⟨rfl, rfl⟩ := h3
        exact h.more (u := undef) ok hkp hi ho' hy hin hun' rfl (fun R e => by cases e) (Below.refl _ _)
      case enter f args =>
        obtain ⟨rfl, hc⟩ := h3
        refine hc.mono fun e w'' ⟨he, hb⟩ => ?_
        subst he
        exact h.more (u := undef) ok hkp hi ho' hy hin hun' rfl (fun R e => by cases e) hb
    | halt x w' => simp only [stays] at h3
  | some R =>
    intro hY
    simp only [Leave.isSkip, Bool.not_false, if_true]
    left
    unfold Oper.wp
    rw [hsame]
    have h3 := hY.2 g w h.below hkn
    generalize (execOp (fill g 0 l ys a0).eval o).run P w = r at *
    cases r with
    | ok nx w' =>
      cases nx <;> simp only [gives] at h3 <;> simp only [Oper.upon]
      case value u =>
        obtain ⟨hb, hr⟩ := h3
        exact h.more (u := u) ok hkp hi ho' hy hin hun' rfl (fun R e => by cases e; exact hr) hb
      case enter f args =>
        obtain ⟨rfl, hc⟩ := h3
        refine hc.mono fun e w'' ⟨u, he, hr, hb⟩ => ?_
        subst he
        exact h.more (u := u) ok hkp hi ho' hy hin hun' rfl (fun R e => by cases e; exact hr) hb
    | halt x w' => simp only [gives] at h3

theorem wp_region_hold_all2 {id : Nat} {Q : Exit → Act → World → Prop} (ys : List Leave) (hm : P.follows .mixedOrders = true)
    (hB : (Region.noSelect l.toArray && decide (ys.length = l.length) && headB l ys.length a0.tmps.size) = true)
    (hgd : guards2B l ys ys = true)
    (hall : allLeave P (fun g => fill g 0 l ys a0) ys W l ys)
    (hend : ∀ (g : Nat → Value) (w' : World), Below W.heap.size W w' → (∀ (i : Nat) R, ys[i]? = some (.some R) → R w' (g i)) → Q .normal (fill g 0 l ys a0) w') :
    (Code.region id l.toArray true).wp P Q a0 W := by
  simp only [Bool.and_eq_true, decide_eq_true_eq] at hB
  obtain ⟨⟨hsel, hn⟩, hhead⟩ := hB
  have ok := headOk hhead
  refine wp_region_any hm ?_
  have key : ∀ (f : Nat) (listed : Array Bool) (a : Act) (w : World) (g : Nat → Value), listed.size = l.length → unlisted listed = f → Telling l ys a0 W g listed a w → wpAny P .any l.toArray Q f listed a w := by
    intro f
    induction f with
    | zero =>
      intro listed a w g hsz hu hb
      have hall' : ∀ i, i < ys.length → listed.getD i false = true := fun i hi => HoldAll.listed_all hu (by omega)
      refine wpAny_done ?_ ?_ 0
      · refine List.eq_nil_iff_forall_not_mem.2 fun i hi => ?_
        obtain ⟨hun, o, ho, -⟩ := mem_ready.1 hi
        have ho' : l[i]? = some o := by simpa using ho
        have hil := (List.getElem?_eq_some_iff.1 ho').1
        have := hall' i (by omega)
        rw [getD_both hun] at this
        cases this
      · rw [hb.full ok hall']
        exact hend g w hb.below (fun i R hi => hb.held i R hi (hall' i (List.getElem?_eq_some_iff.1 hi).1))
    | succ f ih =>
      intro listed a w g hsz hu hb
      have hex : ∃ i, i < ys.length ∧ listed.getD i false = false := by
        refine Classical.byContradiction fun hno => ?_
        have h0 : listed.toList.countP (fun b => !b) = 0 := by
          rw [List.countP_eq_zero]
          intro b hb'
          obtain ⟨k, hk, rfl⟩ := List.getElem_of_mem hb'
          have hk2 : k < listed.size := by simpa using hk
          cases h : listed.getD k false with
          | true => simpa [hk2] using h
          | false => exact absurd ⟨k, by omega, h⟩ hno
        unfold unlisted at hu
        rw [h0] at hu
        cases hu
      have hleast : ∀ m : Nat, (∃ i, i < m ∧ i < ys.length ∧ listed.getD i false = false) → ∃ i, i < ys.length ∧ listed.getD i false = false ∧ ∀ j, j < i → listed.getD j false = true := by
        intro m
        induction m with
        | zero => rintro ⟨i, hi, _⟩; omega
        | succ m ih2 =>
          rintro ⟨i, hi, hiy, hil⟩
          by_cases hsm : ∃ j, j < m ∧ j < ys.length ∧ listed.getD j false = false
          · exact ih2 hsm
          · refine ⟨i, hiy, hil, fun j hj => ?_⟩
            cases h : listed.getD j false with
            | true => rfl
            | false => exact absurd ⟨j, by omega, by omega, h⟩ hsm
      obtain ⟨i, hi, hil, hlt⟩ := hleast ys.length (by obtain ⟨i, h1, h2⟩ := hex; exact ⟨i, h1, h1, h2⟩)
      have hready : i ∈ Region.ready .any l.toArray listed := by
        obtain ⟨o, ho⟩ := ok.there i hi
        exact mem_ready.2 ⟨getD_in (by omega) hil, o, by simpa using ho, fun e he hbd => hlt _ (ok.back i o hi ho e he hbd)⟩
      refine ⟨fun h0 => (by rw [h0] at hready; cases hready), fun j hj => ?_⟩
      have hjn : j < ys.length := by
        obtain ⟨-, o, ho, -⟩ := mem_ready.1 hj
        have ho' : l[j]? = some o := by simpa using ho
        have := (List.getElem?_eq_some_iff.1 ho').1
        omega
      refine wpOp_mono (fun a' w' ⟨g', hb'⟩ => ih _ a' w' g' (by simp [hsz]) ?_ hb') (step2 ok hb hsel hgd hall (by simpa using hsz) hjn hj)
      have := unlisted_set (mem_ready.1 hj).1
      omega
  have hu : unlisted (Array.replicate l.toArray.size false) = l.toArray.size := by
    unfold unlisted
    rw [Array.toList_replicate, List.countP_replicate]
    simp
  exact key l.toArray.size _ a0 { W with drawn := W.drawn + 1 } (fun _ => undef) (by simp) hu
    ⟨rfl, rfl, ⟨rfl, rfl, rfl, Nat.le_refl _, fun _ _ => rfl⟩, fun _ _ => rfl, fun i o y d _ _ hl => (by rw [getD_replicate_false] at hl; cases hl), fun i R _ hl => (by rw [getD_replicate_false] at hl; cases hl)⟩

end Hold2

end Go.Proofs.YtdibdfalahjmbaaGreat.More
