/- Texts of this proof that follow each other, in one file. -/
import Derived.Test.YtmgokpdeolnidaaPart13
import Derived.Test.YtmgokpdeolnidaaPart4
import Derived.Test.YtmgokpdeolnidaaPart12
/-! Lines of atoms, which floats make shorter, in numbers: what the document says of them. No program is in it. -/
namespace Go.Proofs.Ytmgokpdeolnidaa.Line
open Go.Proofs.Ytmgokpdeolnidaa.Shelf Go.Proofs.Ytmgokpdeolnidaa.Space Go.Proofs.Ytmgokpdeolnidaa.Place
set_option linter.unusedVariables false

/-- An atom's size. -/
structure Sz where
  wd : Int
  ht : Int

/-- How wide atoms are together; how high the highest one is. -/
def wideL (l : List Sz) : Int := l.foldl (fun n z => n + z.wd) 0
def highL (l : List Sz) : Int := l.foldl (fun n z => if n < z.ht then z.ht else n) 0

theorem wideL_snoc (l : List Sz) (z : Sz) : wideL (l ++ [z]) = wideL l + z.wd := by unfold wideL; rw [List.foldl_append]; rfl
theorem highL_snoc (l : List Sz) (z : Sz) : highL (l ++ [z]) = if highL l < z.ht then z.ht else highL l := by unfold highL; rw [List.foldl_append]; rfl
theorem wideL_take {l : List Sz} {k : Nat} {z : Sz} (h : l[k]? = some z) : wideL (l.take (k + 1)) = wideL (l.take k) + z.wd := by rw [List.take_add_one, h]; exact wideL_snoc _ z
theorem highL_take {l : List Sz} {k : Nat} {z : Sz} (h : l[k]? = some z) : highL (l.take (k + 1)) = if highL (l.take k) < z.ht then z.ht else highL (l.take k) := by rw [List.take_add_one, h]; exact highL_snoc _ z

structure RightS (z : Sz) : Prop where
  w1 : 0 ≤ z.wd
  w2 : z.wd ≤ 2147483648
  h1 : 0 ≤ z.ht
  h2 : z.ht ≤ 2147483648
def rightS (z : Sz) : Bool := decide (0 ≤ z.wd) && decide (z.wd ≤ 2147483648) && decide (0 ≤ z.ht) && decide (z.ht ≤ 2147483648)
theorem rightS_iff {z : Sz} : rightS z = true ↔ RightS z := by
  unfold rightS
  simp only [Bool.and_eq_true, decide_eq_true_eq]
  exact ⟨fun ⟨⟨⟨a, b⟩, c⟩, d⟩ => ⟨a, b, c, d⟩, fun ⟨a, b, c, d⟩ => ⟨⟨⟨a, b⟩, c⟩, d⟩⟩
theorem rightS_all {l : List Sz} (h : l.all rightS = true) : ∀ z ∈ l, RightS z := fun z hz => rightS_iff.1 (List.all_eq_true.1 h z hz)

theorem wide_from : ∀ (l : List Sz) (n : Int), (∀ z ∈ l, RightS z) → n ≤ l.foldl (fun n z => n + z.wd) n ∧ l.foldl (fun n z => n + z.wd) n ≤ n + l.length * 2147483648
  | [], n, h => by simp
  | z :: l, n, h => by
    have h1 := h z (List.mem_cons_self ..)
    have h2 := wide_from l (n + z.wd) fun y hy => h y (List.mem_cons_of_mem _ hy)
    have := h1.w1
    have := h1.w2
    simp only [List.foldl_cons, List.length_cons]
    push_cast
    omega
theorem wideL_b {l : List Sz} (h : ∀ z ∈ l, RightS z) : 0 ≤ wideL l ∧ wideL l ≤ l.length * 2147483648 := by
  have := wide_from l 0 h
  unfold wideL
  omega

theorem high_from : ∀ (l : List Sz) (n : Int), n ≤ 2147483648 → (∀ z ∈ l, RightS z) → n ≤ l.foldl (fun n z => if n < z.ht then z.ht else n) n ∧ l.foldl (fun n z => if n < z.ht then z.ht else n) n ≤ 2147483648
  | [], n, hn, h => ⟨Int.le_refl _, hn⟩
  | z :: l, n, hn, h => by
    have h1 := h z (List.mem_cons_self ..)
    have := h1.h2
    have h2 := high_from l (if n < z.ht then z.ht else n) (by split <;> omega) fun y hy => h y (List.mem_cons_of_mem _ hy)
    simp only [List.foldl_cons]
    refine ⟨Int.le_trans ?_ h2.1, h2.2⟩
    split <;> omega
theorem highL_b {l : List Sz} (h : ∀ z ∈ l, RightS z) : 0 ≤ highL l ∧ highL l ≤ 2147483648 := high_from l 0 (by decide) h

/-- What is free of some columns in the rows of a height. -/
def freeL (fs : List Fl) (f y h : Int) : Int := max f (bandL fs y (y + highZ h))
def freeR (fs : List Fl) (t y h : Int) : Int := min t (bandR fs y (y + highZ h))

/-- Where it is free no float reaches. -/
theorem free_meet {fs : List Fl} {f t y h a b : Int} (h49 : fs.all near49 = true) (ha : freeL fs f y h = a) (hb : freeR fs t y h = b) {o : Fl} (ho : o ∈ fs) :
    (decide (max o.l a < min o.r b) && decide (max o.t y < min o.b (y + h))) = false := by
  unfold freeL at ha
  unfold freeR at hb
  have hz : h ≤ highZ h := by unfold highZ; split <;> omega
  have hsd := (near49_all h49 o ho).sd
  rw [← Bool.not_eq_true, Bool.and_eq_true, decide_eq_true_eq, decide_eq_true_eq]
  rintro ⟨m1, m2⟩
  have a1 : o.l < o.r := by omega
  have a2 : o.t < o.b := by omega
  have hhit : ∀ s, o.s = s → hitF s y (y + highZ h) o = true := fun s e => hitF_iff.2 ⟨cntF_iff.2 ⟨a1, a2, hsd⟩, e, by omega, by omega, by have := highZ_pos h; omega⟩
  rcases hsd with q | q
  · have := (bandL_le.1 (Int.le_refl _)).2 o ho (hhit 1 q); omega
  · have := (le_bandR.1 (Int.le_refl _)).2 o ho (hhit 2 q); omega

/-- May a line begin with an atom at a height. -/
def okL (fs : List Fl) (f t : Int) (z : Sz) (y : Int) : Bool := decide (z.wd ≤ freeR fs t y z.ht - freeL fs f y z.ht) || (decide (t - f < z.wd) && decide (bandL fs y (y + highZ z.ht) ≤ f) && decide (t ≤ bandR fs y (y + highZ z.ht)))

theorem okL_iff {fs : List Fl} {f t : Int} {z : Sz} {y : Int} : okL fs f t z y = true ↔ z.wd ≤ freeR fs t y z.ht - freeL fs f y z.ht ∨ (t - f < z.wd ∧ bandL fs y (y + highZ z.ht) ≤ f ∧ t ≤ bandR fs y (y + highZ z.ht)) := by
  unfold okL
  simp only [Bool.or_eq_true, Bool.and_eq_true, decide_eq_true_eq, and_assoc]

theorem okL_up {fs : List Fl} {f t : Int} {z : Sz} (z0 x : Int) (h1 : z0 ≤ x) (hc : ∀ r, z0 ≤ r → r ≤ x → bndF fs r = bndF fs z0) (h : okL fs f t z x = true) : okL fs f t z z0 = true := by
  obtain ⟨e1, e2⟩ := band_covers hc h1 (highZ_pos z.ht)
  rw [okL_iff] at *
  unfold freeL freeR at *
  omega

theorem okL_free {fs : List Fl} {f t y : Int} {z : Sz} (hf : -4503599627370496 ≤ f) (ht : t ≤ 4503599627370496) (h : ∀ e ∈ fs, e.b ≤ y) : okL fs f t z y = true := by
  have e1 : bandL fs y (y + highZ z.ht) ≤ -far := bandL_le.2 ⟨Int.le_refl _, fun f hf hh => by have := (hitF_iff.1 hh).2.2.2.1; have := h f hf; omega⟩
  have e2 : far ≤ bandR fs y (y + highZ z.ht) := le_bandR.2 ⟨Int.le_refl _, fun f hf hh => by have := (hitF_iff.1 hh).2.2.2.1; have := h f hf; omega⟩
  rw [okL_iff]
  unfold freeL freeR
  unfold far at e1 e2
  omega

/-- Where a line begins with an atom. -/
def topL (fs : List Fl) (f t : Int) (z : Sz) (y : Int) : Int := atD (okL fs f t z) (topsD fs y)
def Begins (fs : List Fl) (f t : Int) (z : Sz) (y top : Int) : Prop := y ≤ top ∧ okL fs f t z top = true ∧ ∀ q, y ≤ q → q < top → okL fs f t z q = false

theorem begins_one {fs : List Fl} {f t : Int} {z : Sz} {y a b : Int} (h : Begins fs f t z y a) (k : Begins fs f t z y b) : a = b := by
  rcases Int.lt_trichotomy a b with g | g | g
  · have := k.2.2 a h.1 g; rw [h.2.1] at this; cases this
  · exact g
  · have := h.2.2 b k.1 g; rw [k.2.1] at this; cases this

theorem topL_is {fs : List Fl} {f t : Int} (z : Sz) {y : Int} (h49 : fs.all near49 = true) (hf : -4503599627370496 ≤ f) (ht : t ≤ 4503599627370496) (hy : -4503599627370496 ≤ y) : Begins fs f t z y (topL fs f t z y) := by
  have hn := near_of (near49_near h49)
  have hat := atD_at (okL fs f t z) fs y
  have hge : y ≤ topL fs f t z y := tops_ge (List.mem_of_getElem? hat)
  refine ⟨hge, ?_, fun q h1 h2 => ?_⟩
  · rcases stopN_yes _ _ _ hat with e | e
    · exact e
    · refine okL_up (topL fs f t z y) (max (topL fs f t z y) 562949953421312) (by omega) (fun r r1 r2 => ?_) (okL_free hf ht fun e he => by have := (near49_all h49 e he).b2; omega)
      refine bnd_between hn (by unfold far; omega) (fun s hs' hlt => ?_) r r1 (show r ≤ r from Int.le_refl _)
      exfalso
      obtain ⟨j, hj⟩ := List.getElem?_of_mem (tops_has hs' (show y < s.1 by omega))
      have hr := tops_rise hn y
      have hjl := (List.getElem?_eq_some_iff.1 hj).1
      rcases Nat.lt_or_ge j (stopN (okL fs f t z) (topsD fs y)) with g | g
      · have := rise_at hr hj hat g
        unfold topL at hlt
        omega
      · have e2 : j = stopN (okL fs f t z) (topsD fs y) := by omega
        rw [e2, hat] at hj
        injection hj with e3
        unfold topL at hlt
        omega
  · exact first_none hn (by unfold far; omega) _ (fun z0 x g1 g2 g3 => okL_up z0 x g1 g2 g3) q h1 h2

theorem begins_le {fs : List Fl} {f t : Int} {z : Sz} {y top q : Int} (h : Begins fs f t z y top) (h1 : y ≤ q) (h2 : okL fs f t z q = true) : top ≤ q := by
  by_cases g : q < top
  · have := h.2.2 q h1 g; rw [h2] at this; cases this
  · omega

theorem topL_b {fs : List Fl} {f t : Int} (z : Sz) {y : Int} (h49 : fs.all near49 = true) (hf : -4503599627370496 ≤ f) (ht : t ≤ 4503599627370496) (hy : -4503599627370496 ≤ y) : y ≤ topL fs f t z y ∧ topL fs f t z y ≤ max y 562949953421312 := by
  have h := topL_is z h49 hf ht hy
  exact ⟨h.1, begins_le h (by omega) (okL_free hf ht fun e he => by have := (near49_all h49 e he).b2; omega)⟩

/-- What the document's search keeps. -/
def SeeksL (fs : List Fl) (f t : Int) (z : Sz) (y q : Int) : Prop := y ≤ q ∧ q ≤ max y 562949953421312 ∧ ∀ r, y ≤ r → r < q → okL fs f t z r = false

theorem seeksL_found {fs : List Fl} {f t : Int} {z : Sz} {y q : Int} (h : SeeksL fs f t z y q) (h49 : fs.all near49 = true) (hf : -4503599627370496 ≤ f) (ht : t ≤ 4503599627370496) (hy : -4503599627370496 ≤ y) (hok : okL fs f t z q = true) : q = topL fs f t z y :=
  begins_one ⟨h.1, hok, h.2.2⟩ (topL_is z h49 hf ht hy)

theorem seeksL_next {fs : List Fl} {f t : Int} {z : Sz} {y q : Int} (h : SeeksL fs f t z y q) (h49 : fs.all near49 = true) (hf : -4503599627370496 ≤ f) (ht : t ≤ 4503599627370496) (hok : okL fs f t z q = false) : (nextF fs q).2 = true ∧ q < (nextF fs q).1 ∧ SeeksL fs f t z y (nextF fs q).1 := by
  have hl := nextF_least fs q
  unfold Least at hl
  cases hm : (nextF fs q).2 with
  | false =>
    exfalso
    rw [hm] at hl
    have hno := hl.2
    have : okL fs f t z q = true := by
      refine okL_up q (max q 562949953421312) (by omega) (fun r r1 r2 => bnd_same r1 fun e he hze => absurd hze (hno e he)) (okL_free hf ht fun e he => by have := (near49_all h49 e he).b2; omega)
    rw [hok] at this
    cases this
  | true =>
    rw [hm] at hl
    obtain ⟨h1, ⟨g, hg, hc, hge⟩, h3⟩ := hl
    refine ⟨rfl, h1, by have := h.1; omega, ?_, fun r r1 r2 => ?_⟩
    · have := (near49_all h49 g hg).t2
      have := (near49_all h49 g hg).b2
      omega
    · by_cases hr : r < q
      · exact h.2.2 r r1 hr
      · cases hq : okL fs f t z r with
        | false => rfl
        | true =>
          have := okL_up q r (by omega) (fun x x1 x2 => bnd_same x1 fun e he hze => by have := h3 e he hze; omega) hq
          rw [hok] at this
          cases this

/-- One who makes lines: the floats, the columns, where the next line may begin, the line's top and atoms. -/
structure Mk where
  fs : List Fl
  f : Int
  t : Int
  y : Int
  top : Int
  az : List Sz

def Mk.l (m : Mk) : Int := freeL m.fs m.f m.top (highL m.az)
def Mk.r (m : Mk) : Int := freeR m.fs m.t m.top (highL m.az)
def Mk.b (m : Mk) : Int := m.top + highL m.az
/-- An atom more; the line ended. -/
def Mk.more (m : Mk) (z : Sz) : Mk := { m with az := m.az ++ [z] }
def Mk.fresh (m : Mk) (z : Sz) : Mk := { m with az := [z], top := topL m.fs m.f m.t z m.y }
def Mk.fits (m : Mk) (z : Sz) : Bool := decide (wideL (m.more z).az ≤ (m.more z).r - (m.more z).l)
def Mk.add (m : Mk) (z : Sz) : Mk × Bool := match m.az with
  | [] => (m.fresh z, true)
  | _ :: _ => if m.fits z then (m.more z, true) else (m, false)
def Mk.fin (m : Mk) : Mk := match m.az with
  | [] => m
  | _ :: _ => { m with y := m.b, az := [] }

/-- The lines of atoms, each as its maker was ahead of its end. -/
def segsL : Mk → List Sz → List Mk
  | m, [] => match m.az with
    | [] => []
    | _ :: _ => [m]
  | m, z :: l => if (m.add z).2 then segsL (m.add z).1 l else m :: segsL (m.fin.add z).1 l

/-- What is so of each line. -/
structure Good (m : Mk) : Prop where
  yt : m.y ≤ m.top
  fit : m.az ≠ [] → wideL m.az ≤ m.r - m.l ∨ ∃ z, m.az = [z] ∧ m.t - m.f < z.wd ∧ m.l = m.f ∧ m.r = m.t
  first : ∀ z l, m.az = z :: l → m.top = topL m.fs m.f m.t z m.y

/-- The columns and the floats are near. -/
structure Std (m : Mk) : Prop where
  h49 : m.fs.all near49 = true
  f1 : -4503599627370496 ≤ m.f
  t1 : m.t ≤ 4503599627370496
  y1 : -4503599627370496 ≤ m.y

theorem good_fresh {m : Mk} (h : Std m) (z : Sz) (hz : 0 ≤ z.ht) : Good (m.fresh z) := by
  have hb := topL_is z h.h49 h.f1 h.t1 h.y1
  refine ⟨hb.1, fun _ => ?_, fun z' l' e => by cases e; rfl⟩
  have hh : highL [z] = z.ht := by show (if (0 : Int) < z.ht then z.ht else 0) = z.ht; split <;> omega
  have hw : wideL [z] = z.wd := by show (0 : Int) + z.wd = z.wd; omega
  have hok := hb.2.1
  rw [okL_iff] at hok
  show wideL [z] ≤ freeR m.fs m.t (topL m.fs m.f m.t z m.y) (highL [z]) - freeL m.fs m.f (topL m.fs m.f m.t z m.y) (highL [z]) ∨ ∃ z', [z] = [z'] ∧ m.t - m.f < z'.wd ∧ freeL m.fs m.f (topL m.fs m.f m.t z m.y) (highL [z]) = m.f ∧ freeR m.fs m.t (topL m.fs m.f m.t z m.y) (highL [z]) = m.t
  rw [hh, hw]
  rcases hok with q | ⟨q1, q2, q3⟩
  · exact .inl q
  · exact .inr ⟨z, rfl, q1, by unfold freeL; omega, by unfold freeR; omega⟩

theorem good_more {m : Mk} (h : Good m) {z : Sz} (hne : m.az ≠ []) (hz : m.fits z = true) : Good (m.more z) := by
  refine ⟨h.yt, fun _ => .inl (by unfold Mk.fits at hz; exact of_decide_eq_true hz), fun z' l' e => ?_⟩
  cases ha : m.az with
  | nil => exact absurd ha hne
  | cons a r =>
    have e2 : m.az ++ [z] = z' :: l' := e
    rw [ha] at e2
    injection e2 with e3 e4
    subst e3
    exact h.first a r ha

/-- What the lines of atoms tell, from a height on. -/
def ToldL (fs : List Fl) (f t : Int) : Int → List Sz → List Mk → Prop
  | _, l, [] => l = []
  | y, l, s :: ss => (s.fs = fs ∧ s.f = f ∧ s.t = t ∧ y = s.y) ∧ Good s ∧ s.az ≠ [] ∧ ∃ rest, l = s.az ++ rest ∧ (∀ z rest', rest = z :: rest' → s.fits z = false) ∧ ToldL fs f t s.b rest ss

theorem add_nil {m : Mk} (h : m.az = []) (z : Sz) : m.add z = (m.fresh z, true) := by unfold Mk.add; rw [h]
theorem add_fits {m : Mk} (h : m.az ≠ []) {z : Sz} (hz : m.fits z = true) : m.add z = (m.more z, true) := by
  unfold Mk.add
  cases e : m.az with
  | nil => exact absurd e h
  | cons a l => simp only [hz, if_true]
theorem add_not {m : Mk} (h : m.az ≠ []) {z : Sz} (hz : m.fits z = false) : m.add z = (m, false) := by
  unfold Mk.add
  cases e : m.az with
  | nil => exact absurd e h
  | cons a l => simp [hz]
theorem fin_some {m : Mk} (h : m.az ≠ []) : m.fin = { m with y := m.b, az := [] } := by
  unfold Mk.fin
  cases e : m.az with
  | nil => exact absurd e h
  | cons a l => rfl

theorem more_ne (m : Mk) (z : Sz) : (m.more z).az ≠ [] := by
  show m.az ++ [z] ≠ []
  simp

theorem segs_told : ∀ (l : List Sz) (m : Mk), Std m → Good m → m.az ≠ [] → (∀ z ∈ m.az, RightS z) → (∀ z ∈ l, RightS z) → ToldL m.fs m.f m.t m.y (m.az ++ l) (segsL m l)
  | [], m, hs, hg, hne, ha, hl => by
    unfold segsL
    cases e : m.az with
    | nil => exact absurd e hne
    | cons a r => exact ⟨⟨rfl, rfl, rfl, rfl⟩, hg, hne, [], by simp [e], fun z rest' q => (nomatch q), rfl⟩
  | z :: l, m, hs, hg, hne, ha, hl => by
    have hz := hl z (List.mem_cons_self ..)
    have hl2 : ∀ x ∈ l, RightS x := fun x hx => hl x (List.mem_cons_of_mem _ hx)
    unfold segsL
    cases hf : m.fits z with
    | true =>
      rw [add_fits hne hf]
      simp only [if_true]
      have := segs_told l (m.more z) ⟨hs.h49, hs.f1, hs.t1, hs.y1⟩ (good_more hg hne hf) (more_ne m z) (fun x hx => by
        rcases List.mem_append.1 (show x ∈ m.az ++ [z] from hx) with e | e
        · exact ha x e
        · rw [List.mem_singleton.1 e]; exact hz) hl2
      rw [show (m.more z).az ++ l = m.az ++ z :: l by show (m.az ++ [z]) ++ l = _; simp] at this
      exact this
    | false =>
      rw [add_not hne hf]
      simp only [Bool.false_eq_true, if_false]
      have hb : m.y ≤ m.b := by have := hg.yt; have := (highL_b ha).1; unfold Mk.b; omega
      have hfs : Std m.fin := by rw [fin_some hne]; exact ⟨hs.h49, hs.f1, hs.t1, Int.le_trans hs.y1 hb⟩
      have hfa : m.fin.az = [] := by rw [fin_some hne]
      have hfy : m.fin.y = m.b := by rw [fin_some hne]
      rw [add_nil hfa]
      refine ⟨⟨rfl, rfl, rfl, rfl⟩, hg, hne, z :: l, rfl, fun z' rest' q => by cases q; exact hf, ?_⟩
      have := segs_told l (m.fin.fresh z) ⟨hfs.h49, hfs.f1, hfs.t1, hfs.y1⟩ (good_fresh hfs z hz.h1) (by show [z] ≠ []; simp) (fun x hx => by rw [List.mem_singleton.1 (show x ∈ [z] from hx)]; exact hz) hl2
      rw [show (m.fin.fresh z).y = m.b from hfy, show (m.fin.fresh z).fs = m.fs by show m.fin.fs = m.fs; rw [fin_some hne], show (m.fin.fresh z).f = m.f by show m.fin.f = m.f; rw [fin_some hne], show (m.fin.fresh z).t = m.t by show m.fin.t = m.t; rw [fin_some hne]] at this
      exact this

/-- The lines of atoms from no line on. -/
theorem segs_told0 {m : Mk} (hs : Std m) (hm : m.az = []) (l : List Sz) (hl : ∀ z ∈ l, RightS z) : ToldL m.fs m.f m.t m.y l (segsL m l) := by
  cases l with
  | nil => unfold segsL; rw [hm]; exact rfl
  | cons z l =>
    have hz := hl z (List.mem_cons_self ..)
    unfold segsL
    rw [add_nil hm]
    simp only [if_true]
    exact segs_told l (m.fresh z) ⟨hs.h49, hs.f1, hs.t1, hs.y1⟩ (good_fresh hs z hz.h1) (by show [z] ≠ []; simp) (fun x hx => by rw [List.mem_singleton.1 (show x ∈ [z] from hx)]; exact hz) (fun x hx => hl x (List.mem_cons_of_mem _ hx))

/-! What the laws ask of a line. -/

theorem told_wide {m : Mk} (h : Good m) (hne : m.az ≠ []) (hw : ¬ wideL m.az ≤ m.r - m.l) : ∃ z, m.az = [z] ∧ m.t - m.f < z.wd ∧ m.l = m.f ∧ m.r = m.t ∧ wideL m.az = z.wd := by
  rcases h.fit hne with q | ⟨z, q1, q2, q3, q4⟩
  · exact absurd q hw
  · refine ⟨z, q1, q2, q3, q4, ?_⟩
    rw [q1]
    show (0 : Int) + z.wd = z.wd
    omega

theorem told_meet {m : Mk} (h49 : m.fs.all near49 = true) {o : Fl} (ho : o ∈ m.fs) {a b : Int} (ha : m.l = a) (hb : m.r = b) : (decide (max o.l a < min o.r b) && decide (max o.t m.top < min o.b (m.top + highL m.az))) = false :=
  free_meet (f := m.f) (t := m.t) h49 ha hb ho

/-- An atom that doesn't fit, in the law's words. -/
theorem told_next {m : Mk} {z : Sz} (h : m.fits z = false) : ¬ wideL m.az + z.wd ≤ freeR m.fs m.t m.top (max (highL m.az) z.ht) - freeL m.fs m.f m.top (max (highL m.az) z.ht) := by
  unfold Mk.fits at h
  have h2 := of_decide_eq_false h
  have e1 : wideL (m.more z).az = wideL m.az + z.wd := wideL_snoc m.az z
  have e2 : highL (m.more z).az = max (highL m.az) z.ht := by rw [show (m.more z).az = m.az ++ [z] from rfl, highL_snoc]; split <;> omega
  have e3 : (m.more z).r = freeR m.fs m.t m.top (highL (m.more z).az) := rfl
  have e4 : (m.more z).l = freeL m.fs m.f m.top (highL (m.more z).az) := rfl
  rw [e1, e3, e4, e2] at h2
  exact h2

/-- Without floats. -/
theorem freeL_none {f y h : Int} (hf : -4503599627370496 ≤ f) : freeL [] f y h = f := by unfold freeL; show max f (-far) = f; unfold far; omega
theorem freeR_none {t y h : Int} (ht : t ≤ 4503599627370496) : freeR [] t y h = t := by unfold freeR; show min t far = t; unfold far; omega
theorem topL_none {f t y : Int} (z : Sz) (hf : -4503599627370496 ≤ f) (ht : t ≤ 4503599627370496) (hy : -4503599627370496 ≤ y) : topL [] f t z y = y := by
  have h := topL_is (fs := []) z rfl hf ht hy
  have := begins_le h (Int.le_refl y) (okL_free hf ht fun e he => by cases he)
  have := h.1
  omega

theorem wide_prefix {l : List Sz} (h : ∀ z ∈ l, RightS z) : ∀ k, wideL (l.take k) ≤ wideL l := by
  intro k
  have e : l = l.take k ++ l.drop k := (List.take_append_drop k l).symm
  have h2 := wide_from (l.drop k) (wideL (l.take k)) fun z hz => h z (by rw [e]; exact List.mem_append_right _ hz)
  have h3 : wideL l = (l.drop k).foldl (fun n z => n + z.wd) (wideL (l.take k)) := by
    conv => lhs; rw [e]
    unfold wideL
    rw [List.foldl_append]
  rw [h3]
  exact h2.1

/-- A float beside the line. -/
def Mk.beside (m : Mk) (w : Wt) : Mk × Option Fl := match m.az with
  | [] => (m, none)
  | _ :: _ =>
    let r := placed m.fs w
    let n : Mk := { m with fs := m.fs ++ [r] }
    if r.t ≠ m.top ∨ (decide (r.l < r.r) && decide (r.t < r.b)) = true ∧ n.r - n.l < wideL m.az then (m, none) else (n, some r)

end Go.Proofs.Ytmgokpdeolnidaa.Line

/-! The contracts of the document's looks at wants and floats, and of the law's own conversion. -/
namespace Go.Proofs.Ytmgokpdeolnidaa.Place
open Go.RowKit Go.Sort Go.Proofs.Ytmgokpdeolnidaa.Rect Go.Proofs.Ytmgokpdeolnidaa.More Go.Proofs.Ytmgokpdeolnidaa.Shelf Go.Proofs.Ytmgokpdeolnidaa.Space
set_option linter.unusedVariables false
set_option linter.unusedSimpArgs false

abbrev Wt.v (x : Wt) : Value := .agg #[.int .i64 x.s, .int .i64 x.c, .int .i64 x.f, .int .i64 x.t, .int .i64 x.wd, .int .i64 x.ht, .int .i64 x.y]

/-- The seven numbers of a want that lies at a block. -/
def AtW (w : World) (b : Nat) (x : Wt) : Prop :=
  w.cell? ⟨b, 0, none⟩ = some (.int .i64 x.s) ∧ w.cell? ⟨b, 1, none⟩ = some (.int .i64 x.c) ∧ w.cell? ⟨b, 2, none⟩ = some (.int .i64 x.f) ∧ w.cell? ⟨b, 3, none⟩ = some (.int .i64 x.t) ∧ w.cell? ⟨b, 4, none⟩ = some (.int .i64 x.wd) ∧ w.cell? ⟨b, 5, none⟩ = some (.int .i64 x.ht) ∧ w.cell? ⟨b, 6, none⟩ = some (.int .i64 x.y)

theorem AtW.below {w w' : World} {b : Nat} {x : Wt} (h : AtW w b x) (k : Below w.heap.size w w') : AtW w' b x := by
  obtain ⟨h0, h1, h2, h3, h4, h5, h6⟩ := h
  have hb := block_lt_of_cell h0
  exact ⟨(k.cell (p := ⟨b, 0, none⟩) hb).trans h0, (k.cell (p := ⟨b, 1, none⟩) hb).trans h1, (k.cell (p := ⟨b, 2, none⟩) hb).trans h2, (k.cell (p := ⟨b, 3, none⟩) hb).trans h3, (k.cell (p := ⟨b, 4, none⟩) hb).trans h4, (k.cell (p := ⟨b, 5, none⟩) hb).trans h5, (k.cell (p := ⟨b, 6, none⟩) hb).trans h6⟩

theorem AtW.block {w : World} {b : Nat} {x : Wt} (h : AtW w b x) : b < w.heap.size := block_lt_of_cell h.1

theorem atW_boxed (w : World) (x : Wt) (T : TypeId) : AtW (w.alloc (.cells #[.int .i64 x.s, .int .i64 x.c, .int .i64 x.f, .int .i64 x.t, .int .i64 x.wd, .int .i64 x.ht, .int .i64 x.y] T)) w.heap.size x := by
  refine ⟨?_, ?_, ?_, ?_, ?_, ?_, ?_⟩ <;> simp [go_sem]

theorem thruS {S : World → (Nat → Prop) → Addr → List Fl → Prop} (hO : SpaceOk S) {w w' : World} {F : Nat → Prop} {p : Addr} {fs : List Fl} (h : S w F p fs) (k : Below w.heap.size w w') : S w' F p fs :=
  hO.keep _ _ _ (fun _ => False) _ _ h (But.of_below k) (fun _ _ h => h)

/-! Is a want right? -/

theorem all_w (xs : List Int) (k : Nat) (h : k < xs.length) (y : Int) (hy : xs.getD k 0 = y) (hb : inW y = false) : xs.all inW = false := by
  rw [List.all_eq_false]
  refine ⟨y, ?_, by rw [hb]; simp⟩
  rw [← hy]; simp [List.getD, h]

end Go.Proofs.Ytmgokpdeolnidaa.Place

/-! The contracts of the document's look at floats, and of the law's begin. -/
namespace Go.Proofs.Ytmgokpdeolnidaa.Place
open Go.RowKit Go.Sort Go.Proofs.Ytmgokpdeolnidaa.Rect Go.Proofs.Ytmgokpdeolnidaa.More Go.Proofs.Ytmgokpdeolnidaa.Shelf Go.Proofs.Ytmgokpdeolnidaa.Space
set_option linter.unusedVariables false
set_option linter.unusedSimpArgs false

theorem near_take {fs : List Fl} {k : Nat} {f : Fl} (h : fs[k]? = some f) (ha : (fs.take k).all near49 = true) (hf : near49 f = true) : (fs.take (k + 1)).all near49 = true := by
  rw [List.take_add_one, h, List.all_append, ha]
  simp [hf]
theorem near_not {fs : List Fl} {k : Nat} {f : Fl} (h : fs[k]? = some f) (hf : near49 f = false) : fs.all near49 = false := by
  rw [List.all_eq_false]
  exact ⟨f, List.mem_of_getElem? h, by rw [hf]; simp⟩

def numsF (f : Fl) : List Int := [f.l, f.t, f.r, f.b]
theorem near_num {f : Fl} {j : Nat} (hj : j < 4) {x : Int} (hx : (numsF f).getD j 0 = x) (h : in49 x = false) : near49 f = false := by
  unfold near49
  rw [show [f.l, f.t, f.r, f.b].all in49 = false by
    rw [List.all_eq_false]
    refine ⟨x, ?_, by rw [h]; simp⟩
    rw [← hx]
    show (numsF f).getD j 0 ∈ numsF f
    rw [List.getD_eq_getElem?_getD, List.getElem?_eq_getElem (show j < (numsF f).length from hj)]
    exact List.getElem_mem _]
  rfl
theorem near_side {f : Fl} (h : sideF f = false) : near49 f = false := by unfold near49; rw [h]; simp
theorem near_yes {f : Fl} (h : ∀ j, j < 4 → in49 ((numsF f).getD j 0) = true) (hs : sideF f = true) : near49 f = true := by
  unfold near49
  rw [hs]
  have h0 : in49 f.l = true := h 0 (by omega)
  have h1 : in49 f.t = true := h 1 (by omega)
  have h2 : in49 f.r = true := h 2 (by omega)
  have h3 : in49 f.b = true := h 3 (by omega)
  simp [h0, h1, h2, h3]

theorem atF_num {w : World} {p : Addr} {f : Fl} (h : AtF w p f) (j : Nat) (hj : j < 4) {x : Int} (hx : (numsF f).getD j 0 = x) : w.cell? ⟨p.block, p.off + 1 + j, none⟩ = some (.int .i64 x) := by
  obtain ⟨d0, d1, d2, d3, d4⟩ := h
  rw [← hx]
  match j, hj with
  | 0, _ => exact d1
  | 1, _ => exact d2
  | 2, _ => exact d3
  | 3, _ => exact d4
  | j + 4, h => omega

section
variable {S : World → (Nat → Prop) → Addr → List Fl → Prop}

end

end Go.Proofs.Ytmgokpdeolnidaa.Place

/-! Sizes as they lie in memory; the contracts of the document's looks at them. -/
namespace Go.Proofs.Ytmgokpdeolnidaa.Line
open Go.RowKit Go.Sort Go.Proofs.Ytmgokpdeolnidaa.Rect Go.Proofs.Ytmgokpdeolnidaa.More Go.Proofs.Ytmgokpdeolnidaa.Shelf Go.Proofs.Ytmgokpdeolnidaa.Space Go.Proofs.Ytmgokpdeolnidaa.Place
set_option linter.unusedVariables false
set_option linter.unusedSimpArgs false

/-- A size that lies at an address. -/
def AtZ (w : World) (p : Addr) (z : Sz) : Prop := w.cell? p = some (.int .i64 z.wd) ∧ w.cell? ⟨p.block, p.off + 1, none⟩ = some (.int .i64 z.ht)

theorem AtZ.below {w w' : World} {B : Nat} {p : Addr} {z : Sz} (h : AtZ w p z) (hp : p.block < B) (k : Below B w w') : AtZ w' p z :=
  ⟨(k.cell (p := p) hp).trans h.1, (k.cell (p := ⟨p.block, p.off + 1, none⟩) hp).trans h.2⟩

/-- The sizes of a slice, below block B. -/
def Sizes (w : World) (B : Nat) (A : Option Addr) (zs : List Sz) : Prop :=
  ∀ k z, zs[k]? = some z → ∃ ad : Addr, A = some ad ∧ ad.block < B ∧ AtZ w (ad.add (k * 2)) z

theorem Sizes.below {w w' : World} {B : Nat} {A : Option Addr} {zs : List Sz} (h : Sizes w B A zs) (k : Below B w w') : Sizes w' B A zs := fun i f hi => by
  obtain ⟨ad, e, hb, hc⟩ := h i f hi
  exact ⟨ad, e, hb, hc.below (by rw [block_of_add]; exact hb) k⟩
theorem Sizes.more {w : World} {B C : Nat} {A : Option Addr} {zs : List Sz} (h : Sizes w B A zs) (hc : B ≤ C) : Sizes w C A zs := fun i f hi => by
  obtain ⟨ad, e, hb, hx⟩ := h i f hi
  exact ⟨ad, e, by omega, hx⟩
theorem Sizes.thru {w w' : World} {A : Option Addr} {zs : List Sz} (h : Sizes w w.heap.size A zs) (k : Below w.heap.size w w') : Sizes w' w'.heap.size A zs := (h.below k).more k.size

theorem sizes_none (w : World) (B : Nat) : Sizes w B none [] := fun k z h => by simp at h

set_option maxRecDepth 100000 in
set_option maxHeartbeats 1000000 in
theorem refwide_any (A : Option Addr) (n c : Nat) (zs : List Sz) (w : World) (hn : n = zs.length) (hlen : n ≤ 1000000) (hx : Sizes w w.heap.size A zs) (hr : ∀ z ∈ zs, RightS z) :
    Calls Try.prog 16 #[.slice A n c] w fun e w' => e = .returned (.int .i64 (wideL zs)) ∧ Below w.heap.size w w' := by
  have HX := Lib.hid hx
  have HN := Lib.hid (⟨hn, hlen⟩ : n = zs.length ∧ n ≤ 1000000)
  have HR := Lib.hid hr
  clear hx hn hr hlen
  go_enter Try.func16, Try.ntmps16
  go_wp2_with fail
  go_loop [3, 4] (fun s i => ∃ k : Nat, k ≤ n ∧ i = .int .i64 (k : Int) ∧ s = .int .i64 (wideL (zs.take k))) (fun _ i => n - (intOf i).toNat)
  case atStart => exact ⟨0, Nat.zero_le _, rfl, by simp [wideL]⟩
  case round =>
    obtain ⟨k, hk, rfl, rfl⟩ := hrel
    by_cases hlt : k < n
    · have hki : (k : Int) < (n : Int) := by omega
      have hk0 : ¬ (k : Int) < 0 := by omega
      have hwk : IntKind.i64.wrap ((k : Int) + 1) = (k : Int) + 1 := by have := HN.out.2; exact IntWalk.i64_in _ (by omega)
      obtain ⟨z, hz⟩ : ∃ z, zs[k]? = some z := ⟨_, List.getElem?_eq_getElem (by rw [← HN.out.1]; exact hlt)⟩
      obtain ⟨ad, rfl, -, d0, d1⟩ := HX.out k z hz
      have h1 := HR.out z (List.mem_of_getElem? hz)
      have h2 := wideL_b (l := zs.take k) fun y hy => HR.out y (List.mem_of_mem_take hy)
      have h3 : (zs.take k).length ≤ 1000000 := by rw [List.length_take]; have := HN.out; omega
      have hw : IntKind.i64.wrap (wideL (zs.take k) + z.wd) = wideL (zs.take k) + z.wd := IntWalk.i64_in _ (by have := h1.w1; have := h1.w2; omega)
      have HT := Lib.hid (wideL_take hz)
      generalize wideL (zs.take k) = v at *
      clear h1 h2 h3 hz
      go_wp2_with fail
      go_round
      case rel => exact ⟨k + 1, by omega, by go_num, by rw [HT.out]⟩
      case measure => simp [intOf]; omega
    · obtain rfl : k = n := by omega
      have he : zs.take k = zs := List.take_of_length_le (by rw [← HN.out.1]; exact Nat.le_refl _)
      rw [he]
      go_wp2_with fail
      go_ret
      exact ⟨rfl, Below.refl _ _⟩

set_option maxRecDepth 100000 in
set_option maxHeartbeats 1000000 in
theorem refhigh_any (A : Option Addr) (n c : Nat) (zs : List Sz) (w : World) (hn : n = zs.length) (hlen : n ≤ 1000000) (hx : Sizes w w.heap.size A zs) :
    Calls Try.prog 17 #[.slice A n c] w fun e w' => e = .returned (.int .i64 (highL zs)) ∧ Below w.heap.size w w' := by
  have HX := Lib.hid hx
  have HN := Lib.hid (⟨hn, hlen⟩ : n = zs.length ∧ n ≤ 1000000)
  clear hx hn hlen
  go_enter Try.func17, Try.ntmps17
  go_wp2_with fail
  go_loop [3, 4] (fun s i => ∃ k : Nat, k ≤ n ∧ i = .int .i64 (k : Int) ∧ s = .int .i64 (highL (zs.take k))) (fun _ i => n - (intOf i).toNat)
  case atStart => exact ⟨0, Nat.zero_le _, rfl, by simp [highL]⟩
  case round =>
    obtain ⟨k, hk, rfl, rfl⟩ := hrel
    by_cases hlt : k < n
    · have hki : (k : Int) < (n : Int) := by omega
      have hk0 : ¬ (k : Int) < 0 := by omega
      have hwk : IntKind.i64.wrap ((k : Int) + 1) = (k : Int) + 1 := by have := HN.out.2; exact IntWalk.i64_in _ (by omega)
      obtain ⟨z, hz⟩ : ∃ z, zs[k]? = some z := ⟨_, List.getElem?_eq_getElem (by rw [← HN.out.1]; exact hlt)⟩
      obtain ⟨ad, rfl, -, d0, d1⟩ := HX.out k z hz
      have HT := Lib.hid (highL_take hz)
      generalize highL (zs.take k) = v at *
      clear hz
      by_cases hv : v < z.ht
      · have HV := Lib.hid hv
        go_wp2_with fail
        go_round
        case rel => exact ⟨k + 1, by omega, by go_num, by rw [HT.out, if_pos HV.out]⟩
        case measure => simp [intOf]; omega
      · have HV := Lib.hid hv
        go_wp2_with fail
        go_round
        case rel => exact ⟨k + 1, by omega, by go_num, by rw [HT.out, if_neg HV.out]⟩
        case measure => simp [intOf]; omega
    · obtain rfl : k = n := by omega
      have he : zs.take k = zs := List.take_of_length_le (by rw [← HN.out.1]; exact Nat.le_refl _)
      rw [he]
      go_wp2_with fail
      go_ret
      exact ⟨rfl, Below.refl _ _⟩

theorem rightS_take {zs : List Sz} {k : Nat} {z : Sz} (h : zs[k]? = some z) (ha : (zs.take k).all rightS = true) (hz : rightS z = true) : (zs.take (k + 1)).all rightS = true := by
  rw [List.take_add_one, h, List.all_append, ha]
  simp [hz]
theorem rightS_not {zs : List Sz} {k : Nat} {z : Sz} (h : zs[k]? = some z) (hz : rightS z = false) : zs.all rightS = false := by
  rw [List.all_eq_false]
  exact ⟨z, List.mem_of_getElem? h, by rw [hz]; simp⟩

set_option maxRecDepth 100000 in
set_option maxHeartbeats 1000000 in
theorem lright_is (A : Option Addr) (n c : Nat) (zs : List Sz) (v : Bool) (w : World) (hn : n = zs.length) (hlen : n ≤ 9223372036854775807) (hx : Sizes w w.heap.size A zs) (hv : zs.all rightS = v) :
    Calls Try.prog 10 #[.slice A n c] w fun e w' => e = .returned (.bool v) ∧ Below w.heap.size w w' := by
  have HX := Lib.hid hx
  have HN := Lib.hid (⟨hn, hlen⟩ : n = zs.length ∧ n ≤ 9223372036854775807)
  have HV := Lib.hid hv
  clear hx hn hlen hv
  go_enter Try.func10, Try.ntmps10
  go_wp2_with fail
  go_loop [3] (fun i => ∃ k : Nat, k ≤ n ∧ i = .int .i64 (k : Int) ∧ Hid ((zs.take k).all rightS = true)) (fun i => n - (intOf i).toNat)
  case atStart => exact ⟨0, Nat.zero_le _, rfl, Lib.hid rfl⟩
  case round =>
    obtain ⟨k, hk, rfl, H⟩ := hrel
    by_cases hlt : k < n
    · have hki : (k : Int) < (n : Int) := by omega
      have hk0 : ¬ (k : Int) < 0 := by omega
      have hwk : IntKind.i64.wrap ((k : Int) + 1) = (k : Int) + 1 := by have := HN.out.2; exact IntWalk.i64_in _ (by omega)
      obtain ⟨z, hz⟩ : ∃ z, zs[k]? = some z := ⟨_, List.getElem?_eq_getElem (by rw [← HN.out.1]; exact hlt)⟩
      obtain ⟨ad, rfl, -, d0, d1⟩ := HX.out k z hz
      have HZ := Lib.hid hz
      clear hz
      by_cases g : rightS z = true
      · have hr := rightS_iff.1 g
        have HG := Lib.hid g
        obtain ⟨g1, g2, g3, g4⟩ := hr
        have e1 : ¬ z.wd < 0 := by omega
        have e2 : ¬ z.wd > 2147483648 := by omega
        have e3 : ¬ z.ht < 0 := by omega
        have e4 : ¬ z.ht > 2147483648 := by omega
        clear g g1 g2 g3 g4
        go_wp2_with fail
        go_round
        case rel => exact ⟨k + 1, by omega, by go_num, Lib.hid (rightS_take HZ.out H.out HG.out)⟩
        case measure => simp [intOf]; omega
      · have hg : rightS z = false := by simpa using g
        have hvf : v = false := by rw [← HV.out, rightS_not HZ.out hg]
        subst hvf
        have hor : (decide (z.wd < 0) || decide (z.wd > 2147483648) || decide (z.ht < 0) || decide (z.ht > 2147483648)) = true := by
          unfold rightS at hg
          rw [← Bool.not_eq_true] at hg
          simp only [Bool.and_eq_true, Bool.or_eq_true, decide_eq_true_eq] at hg ⊢
          omega
        clear g hg
        go_upto_region 4 with fail
        go_cut [39] (fun t wx => t = .bool true ∧ wx = w)
        case first => as_aux_lemma =>
          go_wp2_with fail
          all_goals (go_meet; exact ⟨congrArg Value.bool (by simp_all <;> omega), rfl⟩)
        case rest =>
        obtain ⟨rfl, rfl⟩ := hcut
        go_wp2_with fail
        go_ret
        exact ⟨rfl, Below.refl _ _⟩
    · obtain rfl : k = n := by omega
      have he : zs.take k = zs := List.take_of_length_le (by rw [← HN.out.1]; exact Nat.le_refl _)
      have hvt : v = true := by rw [← HV.out, ← he]; exact H.out
      subst hvt
      go_wp2_with fail
      go_ret
      exact ⟨rfl, Below.refl _ _⟩

end Go.Proofs.Ytmgokpdeolnidaa.Line

/-! Sizes that came in: a list of them, and one by itself. -/
namespace Go.Proofs.Ytmgokpdeolnidaa.Line
open Go.ChangeShapes Go.WideShapes Go.ChangeAt Go.RowKit Go.Proofs.Ytmgokpdeolnidaa.Rect Go.Proofs.Ytmgokpdeolnidaa.Shelf
set_option linter.unusedVariables false
set_option maxRecDepth 100000

theorem cellsZ : Try.prog.cellsOf 52 = 2 := by kernel_rfl

def cellsSzz (x : Sz) : List Value := [.int .i64 x.wd, .int .i64 x.ht]

theorem atZ_of {w : World} {p : Addr} {x : Sz} (h : ∀ j v, (cellsSzz x)[j]? = some v → w.cell? (p.add j) = some v) : AtZ w p x := by
  refine ⟨?_, cell_off _ _ _ _ (by omega) (h 1 _ rfl)⟩
  have := h 0 _ rfl
  simpa [Addr.add] using this

section
variable {H : Type} {enc : TypeId × Value → H} {w : World} {base : Nat} {spare : Nat → Bool} {held : Bool}

theorem list2 {α : Type} {l : List α} (h : l.length = 2) : ∃ c0 c1, l = [c0, c1] := by
  match l, h with
  | [c0, c1], _ => exact ⟨c0, c1, rfl⟩

/-- The cells of a size that is read. -/
theorem cells_size {n : Nat} {cs : List Value} {y : DataW H × List MemPlace} (hl : cs.length = 2) (h : DataW.trod enc Try.prog w base spare held n 52 cs = some y) : ∃ x : Sz, cs = cellsSzz x := by
  obtain ⟨c0, c1, rfl⟩ := list2 hl
  obtain ⟨xs, n, _, _, _, hlen, hf⟩ := DataW.trod_struct Try.underlying52 h
  match xs, hlen with
  | [y0, y1], _ =>
    have f0 : DataW.trod enc Try.prog w base spare held n 3 ((([c0, c1] : List Value).drop 0).take (Try.prog.cellsOf 3)) = some y0 := hf 0 _ rfl
    have f1 : DataW.trod enc Try.prog w base spare held n 3 ((([c0, c1] : List Value).drop 1).take (Try.prog.cellsOf 3)) = some y1 := hf 1 _ rfl
    rw [cellsI] at f0 f1
    simp only [List.drop_succ_cons, List.drop_zero, List.take_succ_cons, List.take_zero] at f0 f1
    obtain ⟨x0, e0, -, -⟩ := DataW.trod_int Try.underlying3 f0
    obtain ⟨x1, e1, -, -⟩ := DataW.trod_int Try.underlying3 f1
    simp only [List.cons.injEq, and_true] at e0 e1
    subst e0 e1
    exact ⟨⟨x0, x1⟩, rfl⟩

/-- One size that came in. -/
theorem open_size {r : Reach} {b0 : Nat} {v : Value} {d : DataW H} {p : List MemPlace} (hv : Value.okWide Try.prog w r b0 52 v) (h : DataW.Trod enc Try.prog w base spare held 52 v d p) :
    ∃ z : Sz, v = .agg #[.int .i64 z.wd, .int .i64 z.ht] := by
  obtain ⟨cs, rfl, hsz⟩ := okWide_struct Try.underlying52 hv
  obtain ⟨fuel, hf⟩ := h
  obtain ⟨f, hf2⟩ := cells_size (by rw [show (Value.agg cs).cells.toList = cs.toList by simp [Value.cells], Array.length_toList]; exact hsz.trans cellsZ) hf
  refine ⟨f, ?_⟩
  have e : cs.toList = cellsSzz f := by simpa [Value.cells] using hf2
  have e2 : cs = (cellsSzz f).toArray := by rw [← e]
  rw [e2]
  rfl

end

/-- A slice of sizes that came in. -/
theorem open_sizes {H : Type} {enc : TypeId × Value → H} {W : World} {v : Value} {d : DataW H} {ps : List MemPlace} (hv : ∃ a len cap, v = .slice a len cap)
    (h : DataW.Trod enc Try.prog W 0 (fun _ => true) true 23 v d ps) :
    ∃ A len cap xs, v = .slice A len cap ∧ len = xs.length ∧ len ≤ 9223372036854775807 ∧ len ≤ cap ∧ (A = none → cap = 0) ∧ Sizes W W.heap.size A xs := by
  obtain ⟨a0, len, cap, rfl⟩ := hv
  obtain ⟨fuel, hf⟩ := h
  rcases Go.Deep.open_slice Try.underlying23 hf with ⟨hcs, hx⟩ | ⟨a, len', cap', m, n, D, Pl, hcs, _, hl, hm, hz, hx, hcell⟩
  · simp [Value.cells] at hcs
    obtain ⟨rfl, rfl, rfl⟩ := hcs
    exact ⟨none, 0, 0, [], rfl, rfl, by omega, by omega, fun _ => rfl, fun k f hk => by simp at hk⟩
  · simp [Value.cells] at hcs
    obtain ⟨rfl, rfl, rfl⟩ := hcs
    simp only [if_true] at hz
    subst hz
    unfold maxLen at hm
    have each : ∀ i, ∃ f : Sz, i < len → a.block < W.heap.size ∧ AtZ W (a.add (i * 2)) f := fun i => by
      by_cases hi : i < len
      · obtain ⟨cs', hc, ht⟩ := hcell i (by omega)
        rw [cellsZ] at hc
        unfold World.cells? at hc
        split at hc
        · have hl2 : cs'.length = 2 := by
            have := lenM hc
            simpa using this
          obtain ⟨f, rfl⟩ := cells_size hl2 ht
          refine ⟨f, fun _ => ?_⟩
          have hat : ∀ j v, (cellsSzz f)[j]? = some v → W.cell? ((a.add (i * 2)).add j) = some v := fun j v hv => by
            have hj : j < 2 := (List.getElem?_eq_some_iff.1 hv).1
            obtain ⟨y, hy, hfy⟩ := mapM_at hc j j (by simp [List.getElem?_range hj])
            rw [hv] at hy
            injection hy with hy
            rw [hy]
            exact hfy
          refine ⟨?_, atZ_of hat⟩
          have hb := World.block_lt_of_cell? _ _ (hat 0 _ rfl)
          rw [block_of_add, block_of_add] at hb
          exact hb
        · simp at hc
      · exact ⟨⟨0, 0⟩, fun h => absurd h hi⟩
    obtain ⟨f, hf⟩ := Classical.axiomOfChoice each
    refine ⟨some a, len, _, (List.range len).map f, rfl, by simp, by omega, hl, fun e => (by cases e), fun k x hk => ?_⟩
    have hk' : k < len := by have := (List.getElem?_eq_some_iff.1 hk).1; simpa using this
    obtain ⟨h1, h2⟩ := hf k hk'
    refine ⟨a, rfl, h1, ?_⟩
    have : f k = x := by simpa [hk'] using hk
    rw [← this]
    exact h2

end Go.Proofs.Ytmgokpdeolnidaa.Line

/-! The contracts of alike and of slices.CompactFunc, on a part of a row. -/
namespace Go.Proofs.Ytmgokpdeolnidaa.Shelf
open Go.RowKit Go.Sort Go.Proofs.Ytmgokpdeolnidaa.Rect Go.Proofs.Ytmgokpdeolnidaa.More
set_option linter.unusedVariables false

set_option maxHeartbeats 400000 in
theorem alike_any (a b : Sh) (w : World) :
    Calls Try.prog 79 #[.agg #[.int .i64 a.1, .int .i64 a.2.1, .int .i64 a.2.2], .agg #[.int .i64 b.1, .int .i64 b.2.1, .int .i64 b.2.2]] w fun e w' => e = .returned (.bool (decide (a.2 = b.2))) ∧ Below w.heap.size w w' := by
  obtain ⟨a1, a2, a3⟩ := a
  obtain ⟨b1, b2, b3⟩ := b
  have hv : decide (((a2, a3) : Int × Int) = (b2, b3)) = (decide (a2 = b2) && decide (a3 = b3)) := by simp [Prod.mk.injEq]
  dsimp only
  rw [hv]
  clear hv
  by_cases h1 : a2 = b2
  · subst h1
    by_cases h2 : a3 = b3
    · subst h2
      go_enter Try.func79, Try.ntmps79
      go_wp2
      go_ret
      exact ⟨by simp, ba2 _ _ _⟩
    · go_enter Try.func79, Try.ntmps79
      go_wp2
      go_ret
      exact ⟨by simp [h2], ba2 _ _ _⟩
  · go_enter Try.func79, Try.ntmps79
    go_wp2
    go_ret
    exact ⟨by simp [h1], ba2 _ _ _⟩

/-! Lists without what is like the one ahead. -/

def compL : List Sh → List Sh
  | [] => []
  | x :: r => x :: compR x r

theorem compR_snoc : ∀ (l : List Sh) (q y z : Sh), (q :: l).getLast? = some z → compR q (l ++ [y]) = compR q l ++ (if y.2 = z.2 then [] else [y])
  | [], q, y, z, h => by
    have h' : q = z := by simpa using h
    subst h'
    simp [compR]
  | x :: l, q, y, z, h => by
    rw [List.getLast?_cons_cons] at h
    rw [List.cons_append, compR, compR, compR_snoc l x y z h, List.append_assoc]

theorem compL_snoc (l : List Sh) (y z : Sh) (h : l.getLast? = some z) : compL (l ++ [y]) = compL l ++ (if y.2 = z.2 then [] else [y]) := by
  cases l with
  | nil => simp at h
  | cons x r =>
    rw [List.cons_append]
    show x :: compR x (r ++ [y]) = x :: compR x r ++ _
    rw [compR_snoc r x y z h, List.cons_append]

/-- One more is looked at. -/
theorem compL_next {mid : List Sh} {k : Nat} {y z : Sh} (hy : mid[k + 1]? = some y) (hz : mid[k]? = some z) : compL (mid.take (k + 2)) = compL (mid.take (k + 1)) ++ (if y.2 = z.2 then [] else [y]) := by
  rw [show k + 2 = (k + 1) + 1 by omega, List.take_add_one, hy]
  refine compL_snoc _ y z ?_
  rw [List.take_add_one, hz]
  simp

theorem compL_one {mid : List Sh} (h : 1 ≤ mid.length) : compL (mid.take 1) = mid.take 1 := by
  cases mid with
  | nil => simp at h
  | cons x r => rfl

/-- The numbers of one of a row. -/
theorem row_at {w : World} {B g n c : Nat} {xs : List Sh} (h : MineE encSh 110 w B (some ⟨g, 0, none⟩) n c xs) {k j : Nat} {x : Sh} (hx : xs[k]? = some x) (hj : k * 3 = j) :
    w.cell? ⟨g, j, none⟩ = some (.int .i64 x.1) ∧ w.cell? ⟨g, j + 1, none⟩ = some (.int .i64 x.2.1) ∧ w.cell? ⟨g, j + 2, none⟩ = some (.int .i64 x.2.2) := by
  subst hj
  exact ⟨MineE.at h k x hx 0 (by decide), MineE.at h k x hx 1 (by decide), MineE.at h k x hx 2 (by decide)⟩

/-- One of a row is written. -/
theorem row_put {w : World} {B g n c : Nat} {xs : List Sh} (h : MineE encSh 110 w B (some ⟨g, 0, none⟩) n c xs) {k j : Nat} {x : Sh} (hx : xs[k]? = some x) (hj : k * 3 = j) (y : Sh) :
    MineE encSh 110 (((w.setCell ⟨g, j, none⟩ (.int .i64 y.1)).setCell ⟨g, j + 1, none⟩ (.int .i64 y.2.1)).setCell ⟨g, j + 2, none⟩ (.int .i64 y.2.2)) B (some ⟨g, 0, none⟩) n c (xs.set k y) ∧
      w.grownBy (((w.setCell ⟨g, j, none⟩ (.int .i64 y.1)).setCell ⟨g, j + 1, none⟩ (.int .i64 y.2.1)).setCell ⟨g, j + 2, none⟩ (.int .i64 y.2.2)) (some g) := by
  subst hj
  have hk := (List.getElem?_eq_some_iff.1 hx).1
  obtain ⟨h1, g1⟩ := MineE.stored h k x (y.1, x.2) hx 0 (by decide) (.int .i64 y.1) rfl
  obtain ⟨h2, g2⟩ := MineE.stored h1 k (y.1, x.2) (y.1, (y.2.1, x.2.2)) (List.getElem?_set_self hk) 1 (by decide) (.int .i64 y.2.1) rfl
  rw [List.set_set] at h2
  obtain ⟨h3, g3⟩ := MineE.stored h2 k (y.1, (y.2.1, x.2.2)) y (List.getElem?_set_self hk) 2 (by decide) (.int .i64 y.2.2) rfl
  rw [List.set_set] at h3
  exact ⟨h3, (g1.trans g2).trans g3⟩

theorem zeroSh (w : World) : (zeroValue 110).run Try.prog w = .ok (.agg #[.int .i64 0, .int .i64 0, .int .i64 0]) w := by kernel_rfl

/-- What CompactFunc leaves. -/
def Compacted (w : World) (B g n c b0 cc : Nat) (pre mid post : List Sh) (r : Ending) (w' : World) : Prop :=
  r = .returned (.slice (some ⟨g, b0, none⟩) (compL mid).length cc) ∧ (∃ tl : List Sh, (compL mid).length + tl.length = mid.length ∧ MineE encSh 110 w' B (some ⟨g, 0, none⟩) n c (pre ++ (compL mid ++ tl) ++ post)) ∧ w.grownBy w' (some g)

/-- While it looks for two that are alike, and what it has when it goes on. -/
structure Comp2 (B g n c : Nat) (pre mid post : List Sh) (w wr : World) (k j : Nat) : Prop where
  len : (compL (mid.take (j + 1))).length = k
  lt : k ≤ j
  row : MineE encSh 110 wr B (some ⟨g, 0, none⟩) n c (pre ++ (compL (mid.take (j + 1)) ++ mid.drop k) ++ post)
  grown : w.grownBy wr (some g)

theorem comp_at {pre A D post : List Sh} {k i : Nat} {mid : List Sh} (hA : A.length = k) (hD : D = mid.drop k) (hki : k ≤ i) {x : Sh} (hx : mid[i]? = some x) : (pre ++ (A ++ D) ++ post)[pre.length + i]? = some x := by
  have hi := (List.getElem?_eq_some_iff.1 hx).1
  have hdl : D.length = mid.length - k := by rw [hD, List.length_drop]
  rw [List.append_assoc, List.getElem?_append_right (by omega), Nat.add_sub_cancel_left, List.getElem?_append_left (by rw [List.length_append]; omega), List.getElem?_append_right (by omega), hD, List.getElem?_drop, show k + (i - A.length) = i by omega]
  exact hx

theorem comp_set {pre A post mid : List Sh} {k : Nat} (hA : A.length = k) (hk : k < mid.length) (y : Sh) : (pre ++ (A ++ mid.drop k) ++ post).set (pre.length + k) y = pre ++ ((A ++ [y]) ++ mid.drop (k + 1)) ++ post := by
  rw [List.append_assoc, List.set_append_right _ _ (by omega), Nat.add_sub_cancel_left, List.set_append_left _ _ (by rw [List.length_append, List.length_drop]; omega), List.set_append_right _ _ (by omega), hA, Nat.sub_self, List.drop_eq_getElem_cons hk, List.set_cons_zero]
  simp [List.append_assoc]

end Go.Proofs.Ytmgokpdeolnidaa.Shelf
