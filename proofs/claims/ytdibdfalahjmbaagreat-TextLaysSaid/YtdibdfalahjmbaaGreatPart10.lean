/- Texts of this proof that follow each other, in one file. -/
import Derived.Test.YtdibdfalahjmbaaGreatPart9
import Derived.Test.YtdibdfalahjmbaaGreatPart3
namespace Go.Proofs.YtdibdfalahjmbaaGreat.Place

open Go.Proofs.YtdibdfalahjmbaaGreat.Shelf Go.Proofs.YtdibdfalahjmbaaGreat.Space

set_option linter.unusedVariables false

structure Wt where
  s : Int
  c : Int
  f : Int
  t : Int
  wd : Int
  ht : Int
  y : Int

def Wt.nums (w : Wt) : List Int := [w.f, w.t, w.wd, w.ht, w.y]

structure RightW (w : Wt) : Prop where
  f1 : -281474976710656 ≤ w.f
  f2 : w.f ≤ 281474976710656
  t1 : -281474976710656 ≤ w.t
  t2 : w.t ≤ 281474976710656
  wd1 : -281474976710656 ≤ w.wd
  wd2 : w.wd ≤ 281474976710656
  ht1 : -281474976710656 ≤ w.ht
  ht2 : w.ht ≤ 281474976710656
  y1 : -281474976710656 ≤ w.y
  y2 : w.y ≤ 281474976710656
  sd : w.s = 1 ∨ w.s = 2
  cl : 0 ≤ w.c ∧ w.c ≤ 3
  ft : w.f ≤ w.t

def in49 (x : Int) : Bool := decide (-562949953421312 ≤ x) && decide (x ≤ 562949953421312)

theorem in49_iff {x : Int} : in49 x = true ↔ -562949953421312 ≤ x ∧ x ≤ 562949953421312 := by unfold in49; simp

def near49 (f : Fl) : Bool := [f.l, f.t, f.r, f.b].all in49 && sideF f

structure Near49 (f : Fl) : Prop where
  l1 : -562949953421312 ≤ f.l
  l2 : f.l ≤ 562949953421312
  t1 : -562949953421312 ≤ f.t
  t2 : f.t ≤ 562949953421312
  r1 : -562949953421312 ≤ f.r
  r2 : f.r ≤ 562949953421312
  b1 : -562949953421312 ≤ f.b
  b2 : f.b ≤ 562949953421312
  sd : f.s = 1 ∨ f.s = 2

theorem near49_iff {f : Fl} : near49 f = true ↔ Near49 f := by
  unfold near49
  simp only [List.all_cons, List.all_nil, Bool.and_true, Bool.and_eq_true, in49_iff, sideF_iff]
  constructor
  · rintro ⟨⟨⟨a1, a2⟩, ⟨b1, b2⟩, ⟨c1, c2⟩, d1, d2⟩, g⟩
    exact ⟨a1, a2, b1, b2, c1, c2, d1, d2, g⟩
  · rintro ⟨a1, a2, b1, b2, c1, c2, d1, d2, g⟩
    exact ⟨⟨⟨a1, a2⟩, ⟨b1, b2⟩, ⟨c1, c2⟩, d1, d2⟩, g⟩

theorem near49_all {fs : List Fl} (h : fs.all near49 = true) : ∀ f ∈ fs, Near49 f := fun f hf => near49_iff.1 (List.all_eq_true.1 h f hf)

theorem near49_near {fs : List Fl} (h : fs.all near49 = true) : fs.all nearF = true := by
  rw [List.all_eq_true]
  intro f hf
  obtain ⟨a1, a2, b1, b2, c1, c2, d1, d2, g⟩ := near49_all h f hf
  unfold nearF
  simp only [List.all_cons, List.all_nil, Bool.and_true, Bool.and_eq_true, inS_iff]
  omega

theorem near49_side {fs : List Fl} (h : fs.all near49 = true) : fs.all sideF = true := by
  rw [List.all_eq_true]
  intro f hf
  exact sideF_iff.2 (near49_all h f hf).sd

theorem bandL_49 {fs : List Fl} (h : fs.all near49 = true) (a z : Int) : bandL fs a z ≤ 562949953421312 ∧ -4503599627370496 ≤ bandL fs a z := by
  refine ⟨bandL_le.2 ⟨by unfold far; omega, fun f hf _ => (near49_all h f hf).r2⟩, ?_⟩
  have := (bandL_le.1 (Int.le_refl (bandL fs a z))).1
  unfold far at this; exact this

theorem bandR_49 {fs : List Fl} (h : fs.all near49 = true) (a z : Int) : -562949953421312 ≤ bandR fs a z ∧ bandR fs a z ≤ 4503599627370496 := by
  refine ⟨le_bandR.2 ⟨by unfold far; omega, fun f hf _ => (near49_all h f hf).l1⟩, ?_⟩
  have := (le_bandR.1 (Int.le_refl (bandR fs a z))).1
  unfold far at this; exact this

def okN (w : Wt) (L R : Int) : Bool :=
  decide (w.wd ≤ min w.t R - max w.f L) || (decide (w.t - w.f < w.wd) && (if w.s = 1 then decide (max w.f L = w.f) && decide (w.f + w.wd ≤ R) else decide (min w.t R = w.t) && decide (L ≤ w.t - w.wd)))

def edgeN (w : Wt) (L R : Int) : Int := if w.s = 1 then max w.f L else min w.t R - w.wd

theorem okN_iff {w : Wt} {L R : Int} : okN w L R = true ↔ w.wd ≤ min w.t R - max w.f L ∨ w.t - w.f < w.wd ∧ ((w.s = 1 ∧ L ≤ w.f ∧ w.f + w.wd ≤ R) ∨ (w.s ≠ 1 ∧ w.t ≤ R ∧ L ≤ w.t - w.wd)) := by
  unfold okN
  by_cases h : w.s = 1
  · rw [if_pos h]
    simp only [Bool.or_eq_true, Bool.and_eq_true, decide_eq_true_eq]
    omega
  · rw [if_neg h]
    simp only [Bool.or_eq_true, Bool.and_eq_true, decide_eq_true_eq]
    omega

def okQ (fs : List Fl) (w : Wt) (y : Int) : Bool := okN w (bandL fs y (y + highZ w.ht)) (bandR fs y (y + highZ w.ht))

def edgeQ (fs : List Fl) (w : Wt) (y : Int) : Int := edgeN w (bandL fs y (y + highZ w.ht)) (bandR fs y (y + highZ w.ht))

def atQ (fs : List Fl) (w : Wt) (y : Int) : Int := if okQ fs w y then edgeQ fs w y else 0

def startQ (fs : List Fl) (w : Wt) : Int := if decide (0 < fs.length) && decide (clearS fs w.c w.y < lastD fs) then lastD fs else clearS fs w.c w.y

theorem startQ_last {fs : List Fl} {w : Wt} {f : Fl} (hf : f ∈ fs) : f.t ≤ startQ fs w := by
  have h1 := lastD_ge fs f hf
  have h2 : 0 < fs.length := List.length_pos_of_mem hf
  unfold startQ
  rw [decide_eq_true h2, Bool.true_and]
  split
  · exact h1
  · next h => simp at h; omega

theorem startQ_clear (fs : List Fl) (w : Wt) : clearS fs w.c w.y ≤ startQ fs w := by
  unfold startQ
  split
  · next h => simp at h; omega
  · exact Int.le_refl _

theorem startQ_ge (fs : List Fl) (w : Wt) : w.y ≤ startQ fs w := Int.le_trans (clearS_ge fs w.c w.y) (startQ_clear fs w)

theorem startQ_is (fs : List Fl) (w : Wt) : startQ fs w = w.y ∨ ∃ f ∈ fs, f.t = startQ fs w ∨ f.b = startQ fs w := by
  unfold startQ
  split
  · next h =>
    simp at h
    obtain ⟨f, hf, e⟩ := lastD_mem fs (by intro e; rw [e] at h; simp at h)
    exact .inr ⟨f, hf, .inl e⟩
  · rcases (clearS_is fs w.c w.y).1 with e | ⟨f, hf, e⟩
    · exact .inl e
    · exact .inr ⟨f, (List.mem_filter.1 hf).1, .inr e⟩

theorem clearS_max (fs : List Fl) (c y t : Int) : clearS fs c (max y t) = max (clearS fs c y) t := by
  unfold clearS
  cases (botS fs c).2
  · simp
  · simp only [Bool.true_and, decide_eq_true_eq]
    split <;> split <;> omega

theorem start_prog (fs : List Fl) (w : Wt) : startQ fs w = if decide (0 < fs.length) then clearS fs w.c (max w.y (lastD fs)) else clearS fs w.c w.y := by
  unfold startQ
  by_cases h : 0 < fs.length
  · rw [decide_eq_true h, if_pos rfl, clearS_max]
    simp only [Bool.true_and, decide_eq_true_eq]
    split <;> omega
  · rw [decide_eq_false h]; simp

theorem startQ_49 {fs : List Fl} {w : Wt} (h : fs.all near49 = true) (hw : RightW w) : -562949953421312 ≤ startQ fs w ∧ startQ fs w ≤ 562949953421312 := by
  have h1 := startQ_ge fs w
  have := hw.y1
  have := hw.y2
  refine ⟨by omega, ?_⟩
  rcases startQ_is fs w with e | ⟨f, hf, e | e⟩
  · omega
  · have := (near49_all h f hf).t2; omega
  · have := (near49_all h f hf).b2; omega

theorem hit_first {side y h : Int} {f : Fl} (hy : f.t ≤ y) (hh : 1 ≤ h) : hitF side y (y + h) f = hitF side y (y + 1) f := by
  rw [Bool.eq_iff_iff, hitF_iff, hitF_iff]
  constructor
  · rintro ⟨a, b, c, d, e⟩; exact ⟨a, b, by omega, d, by omega⟩
  · rintro ⟨a, b, c, d, e⟩; exact ⟨a, b, by omega, d, by omega⟩

theorem bandL_first {fs : List Fl} {y h : Int} (hy : ∀ f ∈ fs, f.t ≤ y) (hh : 1 ≤ h) : bandL fs y (y + h) = bandL fs y (y + 1) :=
  eq_of_le fun v => by
    rw [bandL_le, bandL_le]
    exact ⟨fun ⟨a, b⟩ => ⟨a, fun f hf q => b f hf (by rw [hit_first (hy f hf) hh]; exact q)⟩, fun ⟨a, b⟩ => ⟨a, fun f hf q => b f hf (by rw [← hit_first (hy f hf) hh]; exact q)⟩⟩

theorem bandR_first {fs : List Fl} {y h : Int} (hy : ∀ f ∈ fs, f.t ≤ y) (hh : 1 ≤ h) : bandR fs y (y + h) = bandR fs y (y + 1) :=
  eq_of_ge fun v => by
    rw [le_bandR, le_bandR]
    exact ⟨fun ⟨a, b⟩ => ⟨a, fun f hf q => b f hf (by rw [hit_first (hy f hf) hh]; exact q)⟩, fun ⟨a, b⟩ => ⟨a, fun f hf q => b f hf (by rw [← hit_first (hy f hf) hh]; exact q)⟩⟩

def flat (w : Wt) : Wt := { w with ht := 1 }

theorem right_flat {w : Wt} (h : RightW w) : RightW (flat w) := ⟨h.f1, h.f2, h.t1, h.t2, h.wd1, h.wd2, show (-281474976710656 : Int) ≤ 1 by decide, show (1 : Int) ≤ 281474976710656 by decide, h.y1, h.y2, h.sd, h.cl, h.ft⟩

theorem ok_flat {fs : List Fl} {w : Wt} {y : Int} (hy : startQ fs w ≤ y) : okQ fs w y = okQ fs (flat w) y := by
  have ha : ∀ f ∈ fs, f.t ≤ y := fun f hf => Int.le_trans (startQ_last hf) hy
  unfold okQ
  rw [bandL_first ha (highZ_pos w.ht), bandR_first ha (highZ_pos w.ht)]
  rfl

theorem edge_flat {fs : List Fl} {w : Wt} {y : Int} (hy : startQ fs w ≤ y) : edgeQ fs w y = edgeQ fs (flat w) y := by
  have ha : ∀ f ∈ fs, f.t ≤ y := fun f hf => Int.le_trans (startQ_last hf) hy
  unfold edgeQ
  rw [bandL_first ha (highZ_pos w.ht), bandR_first ha (highZ_pos w.ht)]
  rfl

theorem ok_free {fs : List Fl} {w : Wt} {y : Int} (hw : RightW w) (h : bndF fs y = (-far, far)) : okQ fs (flat w) y = true := by
  unfold okQ
  have e1 : bandL fs y (y + highZ (flat w).ht) = -far := congrArg Prod.fst h
  have e2 : bandR fs y (y + highZ (flat w).ht) = far := congrArg Prod.snd h
  rw [e1, e2, okN_iff]
  obtain ⟨f1, f2, t1, t2, wd1, wd2, ht1, ht2, y1, y2, sd, cl, ft⟩ := hw
  show w.wd ≤ _ ∨ _
  unfold far flat
  simp only
  omega

theorem ok_row {fs : List Fl} {w : Wt} {y z : Int} (h : bndF fs y = bndF fs z) : okQ fs (flat w) y = okQ fs (flat w) z := by
  unfold okQ
  have e1 : bandL fs y (y + highZ (flat w).ht) = bandL fs z (z + highZ (flat w).ht) := congrArg Prod.fst h
  have e2 : bandR fs y (y + highZ (flat w).ht) = bandR fs z (z + highZ (flat w).ht) := congrArg Prod.snd h
  rw [e1, e2]

def Finds (fs : List Fl) (w : Wt) (y : Int) : Prop := startQ fs w ≤ y ∧ okQ fs w y = true ∧ ∀ z, startQ fs w ≤ z → z < y → okQ fs w z = false

theorem finds_one {fs : List Fl} {w : Wt} {y z : Int} (h : Finds fs w y) (k : Finds fs w z) : y = z := by
  rcases Int.lt_trichotomy y z with g | g | g
  · have := k.2.2 y h.1 g; rw [h.2.1] at this; cases this
  · exact g
  · have := h.2.2 z k.1 g; rw [k.2.1] at this; cases this

theorem finds_le {fs : List Fl} {w : Wt} {y z : Int} (h : Finds fs w y) (h1 : startQ fs w ≤ z) (h2 : okQ fs w z = true) : y ≤ z := by
  by_cases g : z < y
  · have := h.2.2 z h1 g; rw [h2] at this; cases this
  · omega

def findY (fs : List Fl) (w : Wt) : Int := atD (okQ fs (flat w)) (topsD fs (startQ fs w))

def findX (fs : List Fl) (w : Wt) : Int := edgeQ fs (flat w) (findY fs w)

theorem atD_at (q : Int → Bool) (fs : List Fl) (y : Int) : (topsD fs y)[stopN q (topsD fs y)]? = some (atD q (topsD fs y)) := by
  have hlt := stopN_lt q (topsD fs y) (by unfold topsD; simp)
  unfold atD
  rw [List.getD_eq_getElem?_getD, List.getElem?_eq_getElem hlt]
  rfl

theorem tops_ge {fs : List Fl} {y z : Int} (h : z ∈ topsD fs y) : y ≤ z := by
  unfold topsD at h
  rcases List.mem_cons.1 h with e | e
  · omega
  · obtain ⟨s, hs, rfl⟩ := List.mem_map.1 e
    have := (List.mem_filter.1 hs).2
    simp at this
    omega

theorem find_is {fs : List Fl} {w : Wt} (h : fs.all near49 = true) (hw : RightW w) : Finds fs w (findY fs w) := by
  have hn := near_of (near49_near h)
  have hs := startQ_49 h hw
  have hat := atD_at (okQ fs (flat w)) fs (startQ fs w)
  have hge : startQ fs w ≤ findY fs w := tops_ge (List.mem_of_getElem? hat)
  refine ⟨hge, ?_, fun z h1 h2 => ?_⟩
  · rw [ok_flat hge]
    rcases stopN_yes _ _ _ hat with e | e
    · exact e
    · refine ok_free hw ?_
      have hbig : bndF fs (max (findY fs w) 562949953421312) = (-far, far) := bnd_free fun f hf _ => .inr (by have := (near49_all h f hf).b2; omega)
      rw [← hbig]
      symm
      refine bnd_between hn (by unfold far; omega) (fun s hs' hlt => ?_) _ (by omega) (Int.le_refl _)
      exfalso
      obtain ⟨j, hj⟩ := List.getElem?_of_mem (tops_has hs' (show startQ fs w < s.1 by omega))
      have hr := tops_rise hn (startQ fs w)
      have hjl := (List.getElem?_eq_some_iff.1 hj).1
      rcases Nat.lt_or_ge j (stopN (okQ fs (flat w)) (topsD fs (startQ fs w))) with g | g
      · have := rise_at hr hj hat g
        unfold findY at hlt
        omega
      · have e2 : j = stopN (okQ fs (flat w)) (topsD fs (startQ fs w)) := by omega
        rw [e2, hat] at hj
        injection hj with e3
        unfold findY at hlt
        omega
  · rw [ok_flat h1]
    refine first_none hn (by unfold far; omega) _ (fun z0 x g1 g2 g3 => ?_) z h1 h2
    rw [← ok_row (g2 x g1 (Int.le_refl _))]
    exact g3

theorem findX_is {fs : List Fl} {w : Wt} (h : fs.all near49 = true) (hw : RightW w) : findX fs w = edgeQ fs w (findY fs w) := (edge_flat (find_is h hw).1).symm

theorem findY_49 {fs : List Fl} {w : Wt} (h : fs.all near49 = true) (hw : RightW w) : -562949953421312 ≤ findY fs w ∧ findY fs w ≤ 562949953421312 := by
  have hf := find_is h hw
  have hs := startQ_49 h hw
  have h1 := hf.1
  refine ⟨by omega, finds_le hf hs.2 ?_⟩
  rw [ok_flat hs.2]
  exact ok_free hw (bnd_free fun f hf _ => .inr (near49_all h f hf).b2)

theorem edgeN_49 {w : Wt} {L R : Int} (hw : RightW w) (hL : L ≤ 562949953421312) (hR : -562949953421312 ≤ R) (hok : okN w L R = true) : -562949953421312 ≤ edgeN w L R ∧ edgeN w L R ≤ 562949953421312 ∧ -562949953421312 ≤ edgeN w L R + w.wd ∧ edgeN w L R + w.wd ≤ 562949953421312 := by
  obtain ⟨f1, f2, t1, t2, wd1, wd2, ht1, ht2, y1, y2, sd, cl, ft⟩ := hw
  rw [okN_iff] at hok
  unfold edgeN
  by_cases e : w.s = 1
  · rw [if_pos e]; omega
  · rw [if_neg e]; omega

theorem find_49 {fs : List Fl} {w : Wt} (h : fs.all near49 = true) (hw : RightW w) : -562949953421312 ≤ findX fs w ∧ findX fs w ≤ 562949953421312 ∧ -562949953421312 ≤ findX fs w + w.wd ∧ findX fs w + w.wd ≤ 562949953421312 := by
  rw [findX_is h hw]
  exact edgeN_49 hw (bandL_49 h _ _).1 (bandR_49 h _ _).1 (find_is h hw).2.1

def placed (fs : List Fl) (w : Wt) : Fl := ⟨w.s, findX fs w, findY fs w, findX fs w + w.wd, findY fs w + w.ht⟩

theorem placed_near {fs : List Fl} {w : Wt} (h : fs.all near49 = true) (hw : RightW w) : nearF (placed fs w) = true := by
  have h1 := find_49 h hw
  have h2 := findY_49 h hw
  have := hw.ht1
  have := hw.ht2
  unfold nearF placed
  simp only [List.all_cons, List.all_nil, Bool.and_true, Bool.and_eq_true, inS_iff]
  omega

end Go.Proofs.YtdibdfalahjmbaaGreat.Place

namespace Go.Proofs.YtdibdfalahjmbaaGreat.Line

open Go.Proofs.YtdibdfalahjmbaaGreat.Shelf Go.Proofs.YtdibdfalahjmbaaGreat.Space Go.Proofs.YtdibdfalahjmbaaGreat.Place

set_option linter.unusedVariables false

structure Sz where
  wd : Int
  ht : Int

def wideL (l : List Sz) : Int := l.foldl (fun n z => n + z.wd) 0

def highL (l : List Sz) : Int := l.foldl (fun n z => if n < z.ht then z.ht else n) 0

theorem wideL_snoc (l : List Sz) (z : Sz) : wideL (l ++ [z]) = wideL l + z.wd := by unfold wideL; rw [List.foldl_append]; rfl

theorem highL_snoc (l : List Sz) (z : Sz) : highL (l ++ [z]) = if highL l < z.ht then z.ht else highL l := by unfold highL; rw [List.foldl_append]; rfl

theorem wideL_take {l : List Sz} {k : Nat} {z : Sz} (h : l[k]? = some z) : wideL (l.take (k + 1)) = wideL (l.take k) + z.wd := by rw [List.take_add_one, h]; exact wideL_snoc _ z

theorem highL_take {l : List Sz} {k : Nat} {z : Sz} (h : l[k]? = some z) : highL (l.take (k + 1)) = if highL (l.take k) < z.ht then z.ht else highL (l.take k) := by rw [List.take_add_one, h]; exact highL_snoc _ z

structure RightS (z : Sz) : Prop where
  w1 : 0 ≤ z.wd
  w2 : z.wd ≤ 2147483648
  h1 : 0 ≤ z.ht
  h2 : z.ht ≤ 2147483648

theorem wide_from : ∀ (l : List Sz) (n : Int), (∀ z ∈ l, RightS z) → n ≤ l.foldl (fun n z => n + z.wd) n ∧ l.foldl (fun n z => n + z.wd) n ≤ n + l.length * 2147483648
  | [], n, h => by simp
  | z :: l, n, h => by
    have h1 := h z (List.mem_cons_self ..)
    have h2 := wide_from l (n + z.wd) fun y hy => h y (List.mem_cons_of_mem _ hy)
    have := h1.w1
    have := h1.w2
    simp only [List.foldl_cons, List.length_cons]
    push_cast
    omega

theorem wideL_b {l : List Sz} (h : ∀ z ∈ l, RightS z) : 0 ≤ wideL l ∧ wideL l ≤ l.length * 2147483648 := by
  have := wide_from l 0 h
  unfold wideL
  omega

theorem high_from : ∀ (l : List Sz) (n : Int), n ≤ 2147483648 → (∀ z ∈ l, RightS z) → n ≤ l.foldl (fun n z => if n < z.ht then z.ht else n) n ∧ l.foldl (fun n z => if n < z.ht then z.ht else n) n ≤ 2147483648
  | [], n, hn, h => ⟨Int.le_refl _, hn⟩
  | z :: l, n, hn, h => by
    have h1 := h z (List.mem_cons_self ..)
    have := h1.h2
    have h2 := high_from l (if n < z.ht then z.ht else n) (by split <;> omega) fun y hy => h y (List.mem_cons_of_mem _ hy)
    simp only [List.foldl_cons]
    refine ⟨Int.le_trans ?_ h2.1, h2.2⟩
    split <;> omega

theorem highL_b {l : List Sz} (h : ∀ z ∈ l, RightS z) : 0 ≤ highL l ∧ highL l ≤ 2147483648 := high_from l 0 (by decide) h

def freeL (fs : List Fl) (f y h : Int) : Int := max f (bandL fs y (y + highZ h))

def freeR (fs : List Fl) (t y h : Int) : Int := min t (bandR fs y (y + highZ h))

theorem free_meet {fs : List Fl} {f t y h a b : Int} (h49 : fs.all near49 = true) (ha : freeL fs f y h = a) (hb : freeR fs t y h = b) {o : Fl} (ho : o ∈ fs) :
    (decide (max o.l a < min o.r b) && decide (max o.t y < min o.b (y + h))) = false := by
  unfold freeL at ha
  unfold freeR at hb
  have hz : h ≤ highZ h := by unfold highZ; split <;> omega
  have hsd := (near49_all h49 o ho).sd
  rw [← Bool.not_eq_true, Bool.and_eq_true, decide_eq_true_eq, decide_eq_true_eq]
  rintro ⟨m1, m2⟩
  have a1 : o.l < o.r := by omega
  have a2 : o.t < o.b := by omega
  have hhit : ∀ s, o.s = s → hitF s y (y + highZ h) o = true := fun s e => hitF_iff.2 ⟨cntF_iff.2 ⟨a1, a2, hsd⟩, e, by omega, by omega, by have := highZ_pos h; omega⟩
  rcases hsd with q | q
  · have := (bandL_le.1 (Int.le_refl _)).2 o ho (hhit 1 q); omega
  · have := (le_bandR.1 (Int.le_refl _)).2 o ho (hhit 2 q); omega

def okL (fs : List Fl) (f t : Int) (z : Sz) (y : Int) : Bool := decide (z.wd ≤ freeR fs t y z.ht - freeL fs f y z.ht) || (decide (t - f < z.wd) && decide (bandL fs y (y + highZ z.ht) ≤ f) && decide (t ≤ bandR fs y (y + highZ z.ht)))

theorem okL_iff {fs : List Fl} {f t : Int} {z : Sz} {y : Int} : okL fs f t z y = true ↔ z.wd ≤ freeR fs t y z.ht - freeL fs f y z.ht ∨ (t - f < z.wd ∧ bandL fs y (y + highZ z.ht) ≤ f ∧ t ≤ bandR fs y (y + highZ z.ht)) := by
  unfold okL
  simp only [Bool.or_eq_true, Bool.and_eq_true, decide_eq_true_eq, and_assoc]

theorem okL_up {fs : List Fl} {f t : Int} {z : Sz} (z0 x : Int) (h1 : z0 ≤ x) (hc : ∀ r, z0 ≤ r → r ≤ x → bndF fs r = bndF fs z0) (h : okL fs f t z x = true) : okL fs f t z z0 = true := by
  obtain ⟨e1, e2⟩ := band_covers hc h1 (highZ_pos z.ht)
  rw [okL_iff] at *
  unfold freeL freeR at *
  omega

theorem okL_free {fs : List Fl} {f t y : Int} {z : Sz} (hf : -4503599627370496 ≤ f) (ht : t ≤ 4503599627370496) (h : ∀ e ∈ fs, e.b ≤ y) : okL fs f t z y = true := by
  have e1 : bandL fs y (y + highZ z.ht) ≤ -far := bandL_le.2 ⟨Int.le_refl _, fun f hf hh => by have := (hitF_iff.1 hh).2.2.2.1; have := h f hf; omega⟩
  have e2 : far ≤ bandR fs y (y + highZ z.ht) := le_bandR.2 ⟨Int.le_refl _, fun f hf hh => by have := (hitF_iff.1 hh).2.2.2.1; have := h f hf; omega⟩
  rw [okL_iff]
  unfold freeL freeR
  unfold far at e1 e2
  omega

def topL (fs : List Fl) (f t : Int) (z : Sz) (y : Int) : Int := atD (okL fs f t z) (topsD fs y)

def Begins (fs : List Fl) (f t : Int) (z : Sz) (y top : Int) : Prop := y ≤ top ∧ okL fs f t z top = true ∧ ∀ q, y ≤ q → q < top → okL fs f t z q = false

theorem begins_one {fs : List Fl} {f t : Int} {z : Sz} {y a b : Int} (h : Begins fs f t z y a) (k : Begins fs f t z y b) : a = b := by
  rcases Int.lt_trichotomy a b with g | g | g
  · have := k.2.2 a h.1 g; rw [h.2.1] at this; cases this
  · exact g
  · have := h.2.2 b k.1 g; rw [k.2.1] at this; cases this

theorem topL_is {fs : List Fl} {f t : Int} (z : Sz) {y : Int} (h49 : fs.all near49 = true) (hf : -4503599627370496 ≤ f) (ht : t ≤ 4503599627370496) (hy : -4503599627370496 ≤ y) : Begins fs f t z y (topL fs f t z y) := by
  have hn := near_of (near49_near h49)
  have hat := atD_at (okL fs f t z) fs y
  have hge : y ≤ topL fs f t z y := tops_ge (List.mem_of_getElem? hat)
  refine ⟨hge, ?_, fun q h1 h2 => ?_⟩
  · rcases stopN_yes _ _ _ hat with e | e
    · exact e
    · refine okL_up (topL fs f t z y) (max (topL fs f t z y) 562949953421312) (by omega) (fun r r1 r2 => ?_) (okL_free hf ht fun e he => by have := (near49_all h49 e he).b2; omega)
      refine bnd_between hn (by unfold far; omega) (fun s hs' hlt => ?_) r r1 (show r ≤ r from Int.le_refl _)
      exfalso
      obtain ⟨j, hj⟩ := List.getElem?_of_mem (tops_has hs' (show y < s.1 by omega))
      have hr := tops_rise hn y
      have hjl := (List.getElem?_eq_some_iff.1 hj).1
      rcases Nat.lt_or_ge j (stopN (okL fs f t z) (topsD fs y)) with g | g
      · have := rise_at hr hj hat g
        unfold topL at hlt
        omega
      · have e2 : j = stopN (okL fs f t z) (topsD fs y) := by omega
        rw [e2, hat] at hj
        injection hj with e3
        unfold topL at hlt
        omega
  · exact first_none hn (by unfold far; omega) _ (fun z0 x g1 g2 g3 => okL_up z0 x g1 g2 g3) q h1 h2

theorem begins_le {fs : List Fl} {f t : Int} {z : Sz} {y top q : Int} (h : Begins fs f t z y top) (h1 : y ≤ q) (h2 : okL fs f t z q = true) : top ≤ q := by
  by_cases g : q < top
  · have := h.2.2 q h1 g; rw [h2] at this; cases this
  · omega

theorem topL_b {fs : List Fl} {f t : Int} (z : Sz) {y : Int} (h49 : fs.all near49 = true) (hf : -4503599627370496 ≤ f) (ht : t ≤ 4503599627370496) (hy : -4503599627370496 ≤ y) : y ≤ topL fs f t z y ∧ topL fs f t z y ≤ max y 562949953421312 := by
  have h := topL_is z h49 hf ht hy
  exact ⟨h.1, begins_le h (by omega) (okL_free hf ht fun e he => by have := (near49_all h49 e he).b2; omega)⟩

def SeeksL (fs : List Fl) (f t : Int) (z : Sz) (y q : Int) : Prop := y ≤ q ∧ q ≤ max y 562949953421312 ∧ ∀ r, y ≤ r → r < q → okL fs f t z r = false

theorem seeksL_found {fs : List Fl} {f t : Int} {z : Sz} {y q : Int} (h : SeeksL fs f t z y q) (h49 : fs.all near49 = true) (hf : -4503599627370496 ≤ f) (ht : t ≤ 4503599627370496) (hy : -4503599627370496 ≤ y) (hok : okL fs f t z q = true) : q = topL fs f t z y :=
  begins_one ⟨h.1, hok, h.2.2⟩ (topL_is z h49 hf ht hy)

theorem seeksL_next {fs : List Fl} {f t : Int} {z : Sz} {y q : Int} (h : SeeksL fs f t z y q) (h49 : fs.all near49 = true) (hf : -4503599627370496 ≤ f) (ht : t ≤ 4503599627370496) (hok : okL fs f t z q = false) : (nextF fs q).2 = true ∧ q < (nextF fs q).1 ∧ SeeksL fs f t z y (nextF fs q).1 := by
  have hl := nextF_least fs q
  unfold Least at hl
  cases hm : (nextF fs q).2 with
  | false =>
    exfalso
    rw [hm] at hl
    have hno := hl.2
    have : okL fs f t z q = true := by
      refine okL_up q (max q 562949953421312) (by omega) (fun r r1 r2 => bnd_same r1 fun e he hze => absurd hze (hno e he)) (okL_free hf ht fun e he => by have := (near49_all h49 e he).b2; omega)
    rw [hok] at this
    cases this
  | true =>
    rw [hm] at hl
    obtain ⟨h1, ⟨g, hg, hc, hge⟩, h3⟩ := hl
    refine ⟨rfl, h1, by have := h.1; omega, ?_, fun r r1 r2 => ?_⟩
    · have := (near49_all h49 g hg).t2
      have := (near49_all h49 g hg).b2
      omega
    · by_cases hr : r < q
      · exact h.2.2 r r1 hr
      · cases hq : okL fs f t z r with
        | false => rfl
        | true =>
          have := okL_up q r (by omega) (fun x x1 x2 => bnd_same x1 fun e he hze => by have := h3 e he hze; omega) hq
          rw [hok] at this
          cases this

structure Mk where
  fs : List Fl
  f : Int
  t : Int
  y : Int
  top : Int
  az : List Sz

def Mk.l (m : Mk) : Int := freeL m.fs m.f m.top (highL m.az)

def Mk.r (m : Mk) : Int := freeR m.fs m.t m.top (highL m.az)

def Mk.b (m : Mk) : Int := m.top + highL m.az

def Mk.more (m : Mk) (z : Sz) : Mk := { m with az := m.az ++ [z] }

def Mk.fresh (m : Mk) (z : Sz) : Mk := { m with az := [z], top := topL m.fs m.f m.t z m.y }

def Mk.fits (m : Mk) (z : Sz) : Bool := decide (wideL (m.more z).az ≤ (m.more z).r - (m.more z).l)

def Mk.add (m : Mk) (z : Sz) : Mk × Bool := match m.az with
  | [] => (m.fresh z, true)
  | _ :: _ => if m.fits z then (m.more z, true) else (m, false)

def Mk.fin (m : Mk) : Mk := match m.az with
  | [] => m
  | _ :: _ => { m with y := m.b, az := [] }

structure Std (m : Mk) : Prop where
  h49 : m.fs.all near49 = true
  f1 : -4503599627370496 ≤ m.f
  t1 : m.t ≤ 4503599627370496
  y1 : -4503599627370496 ≤ m.y

theorem add_nil {m : Mk} (h : m.az = []) (z : Sz) : m.add z = (m.fresh z, true) := by unfold Mk.add; rw [h]

theorem add_fits {m : Mk} (h : m.az ≠ []) {z : Sz} (hz : m.fits z = true) : m.add z = (m.more z, true) := by
  unfold Mk.add
  cases e : m.az with
  | nil => exact absurd e h
  | cons a l => simp only [hz, if_true]

theorem add_not {m : Mk} (h : m.az ≠ []) {z : Sz} (hz : m.fits z = false) : m.add z = (m, false) := by
  unfold Mk.add
  cases e : m.az with
  | nil => exact absurd e h
  | cons a l => simp [hz]

theorem fin_some {m : Mk} (h : m.az ≠ []) : m.fin = { m with y := m.b, az := [] } := by
  unfold Mk.fin
  cases e : m.az with
  | nil => exact absurd e h
  | cons a l => rfl

theorem more_ne (m : Mk) (z : Sz) : (m.more z).az ≠ [] := by
  show m.az ++ [z] ≠ []
  simp


def Mk.beside (m : Mk) (w : Wt) : Mk × Option Fl := match m.az with
  | [] => (m, none)
  | _ :: _ =>
    let r := placed m.fs w
    let n : Mk := { m with fs := m.fs ++ [r] }
    if r.t ≠ m.top ∨ (decide (r.l < r.r) && decide (r.t < r.b)) = true ∧ n.r - n.l < wideL m.az then (m, none) else (n, some r)

end Go.Proofs.YtdibdfalahjmbaaGreat.Line

namespace Go.Proofs.YtdibdfalahjmbaaGreat.Text

open Go.Proofs.YtdibdfalahjmbaaGreat.Shelf Go.Proofs.YtdibdfalahjmbaaGreat.Space Go.Proofs.YtdibdfalahjmbaaGreat.Place Go.Proofs.YtdibdfalahjmbaaGreat.Line

set_option linter.unusedVariables false

structure It where
  sd : Int
  cl : Int
  wd : Int
  ht : Int

def It.z (x : It) : Sz := ⟨x.wd, x.ht⟩

def It.want (x : It) (f t y : Int) : Wt := ⟨x.sd, x.cl, f, t, x.wd, x.ht, y⟩

structure RightI (x : It) : Prop where
  s : x.sd = 0 ∨ x.sd = 1 ∨ x.sd = 2
  c : 0 ≤ x.cl ∧ x.cl ≤ 3
  w1 : -2147483648 ≤ x.wd
  w2 : x.wd ≤ 2147483648
  h1 : -2147483648 ≤ x.ht
  h2 : x.ht ≤ 2147483648
  z : x.sd = 0 → 0 ≤ x.wd ∧ 0 ≤ x.ht

theorem RightI.size {x : It} (h : RightI x) (h0 : x.sd = 0) : RightS x.z := ⟨(h.z h0).1, h.w2, (h.z h0).2, h.h2⟩

structure NearZ (Z : Int) (g : Fl) : Prop where
  sd : g.s = 1 ∨ g.s = 2
  l1 : -281474976710656 ≤ g.l
  l2 : g.l ≤ 281474976710656
  r1 : -281474976710656 ≤ g.r
  r2 : g.r ≤ 281474976710656
  t1 : -281474976710656 ≤ g.t
  t2 : g.t ≤ Z
  b1 : -281474976710656 ≤ g.b
  b2 : g.b ≤ Z

theorem NearZ.up {Z Y : Int} {g : Fl} (h : NearZ Z g) (k : Z ≤ Y) : NearZ Y g := by
  obtain ⟨a, b, c, d, e, f, i, j, l⟩ := h
  exact ⟨a, b, c, d, e, f, by omega, j, by omega⟩

theorem nearZ_49 {Z : Int} {fs : List Fl} (h : ∀ g ∈ fs, NearZ Z g) (hz : Z ≤ 281474976710656) : fs.all near49 = true := by
  rw [List.all_eq_true]
  intro g hg
  obtain ⟨a, b, c, d, e, f, i, j, l⟩ := h g hg
  exact near49_iff.2 ⟨by omega, by omega, by omega, by omega, by omega, by omega, by omega, by omega, a⟩

theorem startQ_Z {Z : Int} {fs : List Fl} {w : Wt} (h : ∀ g ∈ fs, NearZ Z g) (hy : w.y ≤ Z) : startQ fs w ≤ Z := by
  rcases startQ_is fs w with e | ⟨g, hg, e | e⟩
  · omega
  · have := (h g hg).t2; omega
  · have := (h g hg).b2; omega

theorem findY_Z {Z : Int} {fs : List Fl} {w : Wt} (h : ∀ g ∈ fs, NearZ Z g) (hz : Z ≤ 281474976710656) (hw : RightW w) (hy : w.y ≤ Z) : w.y ≤ findY fs w ∧ findY fs w ≤ Z := by
  have h49 := nearZ_49 h hz
  have hf := find_is h49 hw
  have hs := startQ_Z h hy
  have h1 := startQ_ge fs w
  refine ⟨by have := hf.1; omega, finds_le hf hs ?_⟩
  rw [ok_flat hs]
  exact ok_free hw (bnd_free fun g hg _ => .inr (h g hg).b2)

theorem edgeN_Z {w : Wt} {L R : Int} (hf : w.f ≤ w.t) (h1 : -2147483648 ≤ w.wd) (h2 : w.wd ≤ 2147483648) (hok : okN w L R = true) : w.f - 2147483648 ≤ edgeN w L R ∧ edgeN w L R ≤ w.t + 2147483648 ∧ w.f - 2147483648 ≤ edgeN w L R + w.wd ∧ edgeN w L R + w.wd ≤ w.t + 2147483648 := by
  rw [okN_iff] at hok
  unfold edgeN
  by_cases e : w.s = 1
  · rw [if_pos e]; omega
  · rw [if_neg e]; omega

theorem topL_Z {Z : Int} {fs : List Fl} {f t y : Int} (z : Sz) (h : ∀ g ∈ fs, NearZ Z g) (hz : Z ≤ 281474976710656) (hf : -4503599627370496 ≤ f) (ht : t ≤ 4503599627370496) (hy1 : -4503599627370496 ≤ y) (hy : y ≤ Z) : y ≤ topL fs f t z y ∧ topL fs f t z y ≤ Z := by
  have hb := topL_is z (nearZ_49 h hz) hf ht hy1
  exact ⟨hb.1, begins_le hb hy (okL_free hf ht fun g hg => (h g hg).b2)⟩

def putM (m : Mk) (w : Wt) : Mk := { m with fs := m.fs ++ [placed m.fs w] }

structure Lo (Z : Int) (m : Mk) : Prop where
  fl : ∀ g ∈ m.fs, NearZ Z g
  f1 : -140737488355328 ≤ m.f
  f2 : m.f ≤ 140737488355328
  t1 : -140737488355328 ≤ m.t
  t2 : m.t ≤ 140737488355328
  ft : m.f ≤ m.t
  y1 : -140737488355328 ≤ m.y
  y2 : m.y ≤ Z
  ha : ∀ z ∈ m.az, RightS z
  p1 : m.az ≠ [] → m.y ≤ m.top
  p2 : m.az ≠ [] → m.top + 2147483648 ≤ Z

theorem Lo.up {Z Y : Int} {m : Mk} (h : Lo Z m) (k : Z ≤ Y) : Lo Y m := by
  obtain ⟨a, b, c, d, e, f, g, i, j, l, n⟩ := h
  exact ⟨fun x hx => (a x hx).up k, b, c, d, e, f, g, by omega, j, l, fun hn => by have := n hn; omega⟩

theorem RightI.want {x : It} (h : RightI x) (h0 : x.sd ≠ 0) {f t y : Int} (f1 : -140737488355328 ≤ f) (f2 : f ≤ 140737488355328) (t1 : -140737488355328 ≤ t) (t2 : t ≤ 140737488355328) (ft : f ≤ t) (y1 : -140737488355328 ≤ y) (y2 : y ≤ 281474976710656) : RightW (x.want f t y) := by
  obtain ⟨s, c, w1, w2, h1, h2, z⟩ := h
  unfold It.want
  refine ⟨?_, ?_, ?_, ?_, ?_, ?_, ?_, ?_, ?_, ?_, ?_, c, ft⟩
  all_goals dsimp only
  all_goals omega

theorem placed_Z {Z : Int} {m : Mk} {x : It} {y : Int} (h : Lo Z m) (hz : Z ≤ 140737488355328 + 140000000000000) (hx : RightI x) (h0 : x.sd ≠ 0) (hy1 : -140737488355328 ≤ y) (hy2 : y ≤ Z) :
    NearZ (Z + 2147483648) (placed m.fs (x.want m.f m.t y)) ∧ y ≤ (placed m.fs (x.want m.f m.t y)).t := by
  have hw := hx.want h0 h.f1 h.f2 h.t1 h.t2 h.ft hy1 (by omega)
  have h49 := nearZ_49 h.fl (by omega)
  have hY := findY_Z h.fl (by omega) hw hy2
  have hX := edgeN_Z (L := bandL m.fs (findY m.fs (x.want m.f m.t y)) (findY m.fs (x.want m.f m.t y) + highZ x.ht)) (R := bandR m.fs (findY m.fs (x.want m.f m.t y)) (findY m.fs (x.want m.f m.t y) + highZ x.ht)) hw.ft hx.w1 hx.w2 (find_is h49 hw).2.1
  have e : findX m.fs (x.want m.f m.t y) = edgeN (x.want m.f m.t y) (bandL m.fs (findY m.fs (x.want m.f m.t y)) (findY m.fs (x.want m.f m.t y) + highZ x.ht)) (bandR m.fs (findY m.fs (x.want m.f m.t y)) (findY m.fs (x.want m.f m.t y) + highZ x.ht)) := findX_is h49 hw
  rw [← e] at hX
  have e1 : (x.want m.f m.t y).f = m.f := rfl
  have e2 : (x.want m.f m.t y).t = m.t := rfl
  have e3 : (x.want m.f m.t y).wd = x.wd := rfl
  have e4 : (x.want m.f m.t y).y = y := rfl
  rw [e1, e2, e3] at hX
  rw [e4] at hY
  have := h.f1
  have := h.f2
  have := h.t1
  have := h.t2
  have := hx.h1
  have := hx.h2
  have hs : (x.want m.f m.t y).s = 1 ∨ (x.want m.f m.t y).s = 2 := by have := hx.s; show x.sd = 1 ∨ x.sd = 2; omega
  refine ⟨⟨hs, ?_, ?_, ?_, ?_, ?_, ?_, ?_, ?_⟩, hY.1⟩
  all_goals unfold placed
  all_goals dsimp only [It.want] at *
  all_goals omega

theorem lo_put {Z : Int} {m : Mk} {x : It} {y : Int} (h : Lo Z m) (hz : Z ≤ 140737488355328 + 140000000000000) (hx : RightI x) (h0 : x.sd ≠ 0) (hy1 : -140737488355328 ≤ y) (hy2 : y ≤ Z) : Lo (Z + 2147483648) (putM m (x.want m.f m.t y)) := by
  have hp := (placed_Z h hz hx h0 hy1 hy2).1
  obtain ⟨a, b, c, d, e, f, g, i, j, l, n⟩ := h.up (show Z ≤ Z + 2147483648 by omega)
  refine ⟨fun g hg => ?_, b, c, d, e, f, g, i, j, l, n⟩
  rcases List.mem_append.1 hg with q | q
  · exact a g q
  · rw [List.mem_singleton.1 q]; exact hp

theorem highL_Z {l : List Sz} (h : ∀ z ∈ l, RightS z) : 0 ≤ highL l ∧ highL l ≤ 2147483648 := by
  rw [← List.reverse_reverse l] at h ⊢
  generalize l.reverse = k at *
  induction k with
  | nil => exact ⟨by decide, by decide⟩
  | cons z k ih =>
    rw [List.reverse_cons] at h ⊢
    have h1 := ih fun y hy => h y (List.mem_append_left _ hy)
    have h2 := h z (List.mem_append_right _ (List.mem_singleton.2 rfl))
    have h3 := h2.h1
    have h4 := h2.h2
    rw [highL_snoc]
    split <;> omega

theorem lo_fin {Z : Int} {m : Mk} (h : Lo Z m) : Lo Z m.fin := by
  unfold Mk.fin
  obtain ⟨a, b, c, d, e, f, g, i, j, l, n⟩ := h
  split
  · exact ⟨a, b, c, d, e, f, g, i, j, l, n⟩
  · rename_i q
    have hne : m.az ≠ [] := by rw [q]; exact List.cons_ne_nil _ _
    have h1 := l hne
    have h2 := n hne
    have h3 := highL_Z j
    refine ⟨a, b, c, d, e, f, ?_, ?_, fun z hz => absurd hz List.not_mem_nil, fun k => absurd rfl k, fun k => absurd rfl k⟩
    all_goals unfold Mk.b
    all_goals dsimp only
    all_goals omega

theorem lo_add {Z : Int} {m : Mk} {z : Sz} (h : Lo Z m) (hz : Z ≤ 140737488355328 + 140000000000000) (hs : RightS z) : Lo (Z + 2147483648) (m.add z).1 := by
  have h0 := h
  obtain ⟨a, b, c, d, e, f, g, i, j, l, n⟩ := h.up (show Z ≤ Z + 2147483648 by omega)
  unfold Mk.add
  split
  · have ht := topL_Z (f := m.f) (t := m.t) (y := m.y) z h0.fl (by omega) (by have := h0.f1; omega) (by have := h0.t2; omega) (by have := h0.y1; omega) h0.y2
    refine ⟨a, b, c, d, e, f, g, i, fun q hq => ?_, fun _ => ht.1, fun _ => ?_⟩
    · rw [List.mem_singleton.1 hq]; exact hs
    · show topL m.fs m.f m.t z m.y + 2147483648 ≤ Z + 2147483648
      omega
  · rename_i q
    have hne : m.az ≠ [] := by rw [q]; exact List.cons_ne_nil _ _
    split
    · refine ⟨a, b, c, d, e, f, g, i, fun q hq => ?_, fun _ => l hne, fun _ => n hne⟩
      rcases List.mem_append.1 hq with r | r
      · exact j q r
      · rw [List.mem_singleton.1 r]; exact hs
    · exact ⟨a, b, c, d, e, f, g, i, j, l, n⟩

theorem lo_beside {Z : Int} {m : Mk} {x : It} (h : Lo Z m) (hz : Z ≤ 140737488355328 + 140000000000000) (hx : RightI x) (h0 : x.sd ≠ 0) : Lo (Z + 2147483648) (m.beside (x.want m.f m.t m.top)).1 := by
  have h' := h.up (show Z ≤ Z + 2147483648 by omega)
  unfold Mk.beside
  split
  · exact h'
  · rename_i q
    have hne : m.az ≠ [] := by rw [q]; exact List.cons_ne_nil _ _
    have h1 := h.p1 hne
    have h2 := h.p2 hne
    have := h.y1
    dsimp only
    split
    · exact h'
    · exact lo_put h hz hx h0 (by omega) (by omega)

end Go.Proofs.YtdibdfalahjmbaaGreat.Text

namespace Go.Proofs.YtdibdfalahjmbaaGreat.Place

open Go.RowKit Go.Sort Go.Proofs.YtdibdfalahjmbaaGreat.Rect Go.Proofs.YtdibdfalahjmbaaGreat.More Go.Proofs.YtdibdfalahjmbaaGreat.Shelf Go.Proofs.YtdibdfalahjmbaaGreat.Space

set_option linter.unusedVariables false

set_option linter.unusedSimpArgs false

abbrev Wt.v (x : Wt) : Value := .agg #[.int .i64 x.s, .int .i64 x.c, .int .i64 x.f, .int .i64 x.t, .int .i64 x.wd, .int .i64 x.ht, .int .i64 x.y]

def AtW (w : World) (b : Nat) (x : Wt) : Prop :=
  w.cell? ⟨b, 0, none⟩ = some (.int .i64 x.s) ∧ w.cell? ⟨b, 1, none⟩ = some (.int .i64 x.c) ∧ w.cell? ⟨b, 2, none⟩ = some (.int .i64 x.f) ∧ w.cell? ⟨b, 3, none⟩ = some (.int .i64 x.t) ∧ w.cell? ⟨b, 4, none⟩ = some (.int .i64 x.wd) ∧ w.cell? ⟨b, 5, none⟩ = some (.int .i64 x.ht) ∧ w.cell? ⟨b, 6, none⟩ = some (.int .i64 x.y)

theorem AtW.below {w w' : World} {b : Nat} {x : Wt} (h : AtW w b x) (k : Below w.heap.size w w') : AtW w' b x := by
  obtain ⟨h0, h1, h2, h3, h4, h5, h6⟩ := h
  have hb := block_lt_of_cell h0
  exact ⟨(k.cell (p := ⟨b, 0, none⟩) hb).trans h0, (k.cell (p := ⟨b, 1, none⟩) hb).trans h1, (k.cell (p := ⟨b, 2, none⟩) hb).trans h2, (k.cell (p := ⟨b, 3, none⟩) hb).trans h3, (k.cell (p := ⟨b, 4, none⟩) hb).trans h4, (k.cell (p := ⟨b, 5, none⟩) hb).trans h5, (k.cell (p := ⟨b, 6, none⟩) hb).trans h6⟩

theorem AtW.block {w : World} {b : Nat} {x : Wt} (h : AtW w b x) : b < w.heap.size := block_lt_of_cell h.1

theorem atW_boxed (w : World) (x : Wt) (T : TypeId) : AtW (w.alloc (.cells #[.int .i64 x.s, .int .i64 x.c, .int .i64 x.f, .int .i64 x.t, .int .i64 x.wd, .int .i64 x.ht, .int .i64 x.y] T)) w.heap.size x := by
  refine ⟨?_, ?_, ?_, ?_, ?_, ?_, ?_⟩ <;> simp [go_sem]

theorem thruS {S : World → (Nat → Prop) → Addr → List Fl → Prop} (hO : SpaceOk S) {w w' : World} {F : Nat → Prop} {p : Addr} {fs : List Fl} (h : S w F p fs) (k : Below w.heap.size w w') : S w' F p fs :=
  hO.keep _ _ _ (fun _ => False) _ _ h (But.of_below k) (fun _ _ h => h)


end Go.Proofs.YtdibdfalahjmbaaGreat.Place

namespace Go.Proofs.YtdibdfalahjmbaaGreat.Place

open Go.RowKit Go.Sort Go.Proofs.YtdibdfalahjmbaaGreat.Rect Go.Proofs.YtdibdfalahjmbaaGreat.More Go.Proofs.YtdibdfalahjmbaaGreat.Shelf Go.Proofs.YtdibdfalahjmbaaGreat.Space

set_option linter.unusedVariables false

set_option linter.unusedSimpArgs false

def numsF (f : Fl) : List Int := [f.l, f.t, f.r, f.b]

section

variable {S : World → (Nat → Prop) → Addr → List Fl → Prop}

end

end Go.Proofs.YtdibdfalahjmbaaGreat.Place

namespace Go.Proofs.YtdibdfalahjmbaaGreat.Text

open Go.RowKit Go.Sort Go.Proofs.YtdibdfalahjmbaaGreat.Rect Go.Proofs.YtdibdfalahjmbaaGreat.More Go.Proofs.YtdibdfalahjmbaaGreat.Shelf Go.Proofs.YtdibdfalahjmbaaGreat.Space Go.Proofs.YtdibdfalahjmbaaGreat.Place

set_option linter.unusedVariables false

set_option linter.unusedSimpArgs false

def AtI (w : World) (p : Addr) (x : It) : Prop := w.cell? p = some (.int .i64 x.sd) ∧ w.cell? ⟨p.block, p.off + 1, none⟩ = some (.int .i64 x.cl) ∧ w.cell? ⟨p.block, p.off + 2, none⟩ = some (.int .i64 x.wd) ∧ w.cell? ⟨p.block, p.off + 3, none⟩ = some (.int .i64 x.ht)

theorem AtI.below {w w' : World} {B : Nat} {p : Addr} {x : It} (h : AtI w p x) (hp : p.block < B) (k : Below B w w') : AtI w' p x :=
  ⟨(k.cell (p := p) hp).trans h.1, (k.cell (p := ⟨p.block, p.off + 1, none⟩) hp).trans h.2.1, (k.cell (p := ⟨p.block, p.off + 2, none⟩) hp).trans h.2.2.1, (k.cell (p := ⟨p.block, p.off + 3, none⟩) hp).trans h.2.2.2⟩

def Items (w : World) (B : Nat) (A : Option Addr) (its : List It) : Prop :=
  ∀ k x, its[k]? = some x → ∃ ad : Addr, A = some ad ∧ ad.block < B ∧ AtI w (ad.add (k * 4)) x

theorem Items.below {w w' : World} {B : Nat} {A : Option Addr} {its : List It} (h : Items w B A its) (k : Below B w w') : Items w' B A its := fun i f hi => by
  obtain ⟨ad, e, hb, hc⟩ := h i f hi
  exact ⟨ad, e, hb, hc.below (by rw [block_of_add]; exact hb) k⟩

theorem Items.more {w : World} {B C : Nat} {A : Option Addr} {its : List It} (h : Items w B A its) (hc : B ≤ C) : Items w C A its := fun i f hi => by
  obtain ⟨ad, e, hb, hx⟩ := h i f hi
  exact ⟨ad, e, by omega, hx⟩

theorem Items.thru {w w' : World} {A : Option Addr} {its : List It} (h : Items w w.heap.size A its) (k : Below w.heap.size w w') : Items w' w'.heap.size A its := (h.below k).more k.size

def okA (x : It) : Bool := decide (0 ≤ x.sd) && decide (x.sd ≤ 2) && decide (0 ≤ x.cl) && decide (x.cl ≤ 3)

def okB (x : It) (n : Int) : Bool := decide (n ≤ 2147483648) && decide (-2147483648 ≤ n) && (decide (0 ≤ n) || !decide (x.sd = 0))

theorem okB_is (x : It) (n : Int) : (!okB x n) = decide (2147483648 < n ∨ n < -2147483648 ∨ (n < 0 ∧ x.sd = 0)) := by
  rw [Bool.eq_iff_iff]
  unfold okB
  simp only [Bool.not_eq_true', ← Bool.not_eq_true, Bool.and_eq_true, Bool.or_eq_true, decide_eq_true_eq]
  omega

def rightI (x : It) : Bool := okA x && okB x x.wd && okB x x.ht

theorem rightI_iff {x : It} : rightI x = true ↔ RightI x := by
  unfold rightI okA okB
  simp only [Bool.and_eq_true, Bool.or_eq_true, decide_eq_true_eq, Bool.not_eq_true', decide_eq_false_iff_not]
  constructor
  · rintro ⟨⟨⟨⟨⟨a, b⟩, c⟩, d⟩, ⟨e, f⟩, g⟩, ⟨i, j⟩, k⟩
    exact ⟨by omega, ⟨c, d⟩, f, e, j, i, fun h => ⟨g.elim id fun n => absurd h n, k.elim id fun n => absurd h n⟩⟩
  · rintro ⟨a, b, c, d, e, f, g⟩
    refine ⟨⟨⟨⟨⟨by omega, by omega⟩, b.1⟩, b.2⟩, ⟨d, c⟩, ?_⟩, ⟨f, e⟩, ?_⟩
    · by_cases h : x.sd = 0
      · exact .inl (g h).1
      · exact .inr h
    · by_cases h : x.sd = 0
      · exact .inl (g h).2
      · exact .inr h

theorem rightI_all {its : List It} (h : its.all rightI = true) : ∀ x ∈ its, RightI x := fun x hx => rightI_iff.1 (List.all_eq_true.1 h x hx)

theorem rightI_take {its : List It} {k : Nat} {x : It} (h : its[k]? = some x) (ha : (its.take k).all rightI = true) (hz : rightI x = true) : (its.take (k + 1)).all rightI = true := by
  rw [List.take_add_one, h, List.all_append, ha]
  simp [hz]

theorem rightI_not {its : List It} {k : Nat} {x : It} (h : its[k]? = some x) (hz : rightI x = false) : its.all rightI = false := by
  rw [List.all_eq_false]
  exact ⟨x, List.mem_of_getElem? h, by rw [hz]; simp⟩

set_option maxRecDepth 100000 in
set_option maxHeartbeats 2000000 in
theorem tright_is (A : Option Addr) (n c : Nat) (its : List It) (v : Bool) (w : World) (hn : n = its.length) (hlen : n ≤ 9223372036854775807) (hx : Items w w.heap.size A its) (hv : its.all rightI = v) :
    Calls Tryz.prog 13 #[.slice A n c] w fun e w' => e = .returned (.bool v) ∧ Below w.heap.size w w' := by
  have HX := Lib.hid hx
  have HN := Lib.hid (⟨hn, hlen⟩ : n = its.length ∧ n ≤ 9223372036854775807)
  have HV := Lib.hid hv
  clear hx hn hlen hv
  go_enter Tryz.func13, Tryz.ntmps13
  go_wp2_with fail
  go_loopw [3] (fun i wr => ∃ k : Nat, k ≤ n ∧ i = .int .i64 (k : Int) ∧ Hid ((its.take k).all rightI = true ∧ Below w.heap.size w wr)) (fun i _ => n - (intOf i).toNat)
  case atStart => exact ⟨0, Nat.zero_le _, rfl, Lib.hid ⟨rfl, Below.refl _ _⟩⟩
  case round =>
    obtain ⟨k, hk, rfl, H⟩ := hrel
    by_cases hlt : k < n
    · have hki : (k : Int) < (n : Int) := by omega
      have hk0 : ¬ (k : Int) < 0 := by omega
      have hwk : IntKind.i64.wrap ((k : Int) + 1) = (k : Int) + 1 := by have := HN.out.2; exact IntWalk.i64_in _ (by omega)
      obtain ⟨x, hz⟩ : ∃ x, its[k]? = some x := ⟨_, List.getElem?_eq_getElem (by rw [← HN.out.1]; exact hlt)⟩
      obtain ⟨ad, rfl, -, d0, d1, d2, d3⟩ := (HX.out.thru H.out.2) k x hz
      have HZ := Lib.hid hz
      clear hz
      go_upto_region 5 with fail
      generalize hW : World.alloc wr _ = W
      obtain ⟨b, hb⟩ : ∃ b, wr.heap.size = b := ⟨_, rfl⟩
      have k1 : Below wr.heap.size wr W := by rw [← hW]; exact ba1 _ _
      have z1 : W.heap[b]? = some (.cells #[.int .i64 x.sd, .int .i64 x.cl, .int .i64 x.wd, .int .i64 x.ht] 76) := by rw [← hW, ← hb]; exact heap_alloc_new wr _
      rw [hb]
      have K1 := Lib.hid (thru H.out.2 k1)
      have HR := Lib.hid (fun w' (j : Below W.heap.size W w') => (R4.of_block z1).below j)
      obtain ⟨r0, r1, r2, r3⟩ := R4.of_block z1
      clear hW hb k1 z1 d0 d1 d2 d3
      obtain ⟨o, ho⟩ : ∃ o, okA x = o := ⟨_, rfl⟩
      have HO := Lib.hid ho
      clear ho
      go_cut [34] (fun t wx => t = .bool (!o) ∧ wx = W)
      case first => as_aux_lemma =>
        have hO := HO.out
        unfold okA at hO
        clear HO HX HV HZ H HR K1
        go_wp2_with fail
        all_goals (go_meet; exact ⟨congrArg Value.bool (by rw [← hO, Bool.eq_iff_iff]; simp <;> omega), rfl⟩)
      case rest =>
      obtain ⟨rfl, rfl⟩ := hcut
      cases o with
      | false =>
        have hvf : v = false := by rw [← HV.out, rightI_not HZ.out (by unfold rightI; rw [HO.out]; rfl)]
        subst hvf
        go_wp2_with fail
        go_ret
        exact ⟨rfl, K1.out⟩
      | true =>
        have hd : decide ((k : Int) < (n : Int)) = true := by simp; omega
        go_upto_region 7 with fail
        obtain ⟨b2, hb2⟩ : ∃ b2, wc.heap.size = b2 := ⟨_, rfl⟩
        go_wp2_with fail
        generalize hW2 : World.alloc wc _ = W2
        have k2 : Below wc.heap.size wc W2 := by rw [← hW2]; exact ba1 _ _
        have y0 : W2.cell? ⟨b2, 0, none⟩ = some (.int .i64 x.wd) := by rw [← hW2, ← hb2]; simp [go_sem]
        have y1 : W2.cell? ⟨b2, 1, none⟩ = some (.int .i64 x.ht) := by rw [← hW2, ← hb2]; simp [go_sem]
        try rw [hb2]
        have K2 := Lib.hid (thru K1.out k2)
        obtain ⟨s0, s1, s2, s3⟩ := HR.out W2 k2
        have HC := Lib.hid (⟨s0, fun j (hj : j < 2) => show W2.cell? ⟨b2, j, none⟩ = some (.int .i64 (([x.wd, x.ht] : List Int).getD j 0)) by
          match j, hj with
          | 0, _ => exact y0
          | 1, _ => exact y1⟩ : W2.cell? ⟨b, 0, none⟩ = some (.int .i64 x.sd) ∧ ∀ j, j < 2 → W2.cell? ⟨b2, j, none⟩ = some (.int .i64 (([x.wd, x.ht] : List Int).getD j 0)))
        clear hW2 hb2 k2 r0 r1 r2 r3 s0 s1 s2 s3 y0 y1 HR
        go_loopw [41] (fun i wq => ∃ j : Nat, j ≤ 2 ∧ i = .int .i64 (j : Int) ∧ wq = W2 ∧ Hid (∀ m, m < j → okB x (([x.wd, x.ht] : List Int).getD m 0) = true)) (fun i _ => 2 - (intOf i).toNat)
        case atStart => exact ⟨0, Nat.zero_le _, rfl, rfl, Lib.hid fun m hm => by omega⟩
        case round =>
          obtain ⟨j, hj, rfl, rfl, G⟩ := hrel
          by_cases hlj : j < 2
          · have hji : (j : Int) < 2 := by omega
            have hj0 : ¬ (j : Int) < 0 := by omega
            have hwj : IntKind.i64.wrap ((j : Int) + 1) = (j : Int) + 1 := IntWalk.i64_in _ (by omega)
            have hc0 := HC.out.1
            have hcj := HC.out.2 j hlj
            obtain ⟨y, hy⟩ : ∃ y, ([x.wd, x.ht] : List Int).getD j 0 = y := ⟨_, rfl⟩
            rw [hy] at hcj
            have HY := Lib.hid hy
            clear hy
            obtain ⟨u, hu⟩ : ∃ u, okB x y = u := ⟨_, rfl⟩
            have HU := Lib.hid hu
            clear hu
            go_upto_region 10 with fail
            go_cut [59] (fun t wx => t = .bool (!u) ∧ wx = wr)
            case first => as_aux_lemma =>
              have hU : (!u) = decide (2147483648 < y ∨ y < -2147483648 ∨ (y < 0 ∧ x.sd = 0)) := by rw [← HU.out]; exact okB_is x y
              clear HU HX HV HZ H K1 K2 HC G HY HO
              go_wp2_with fail
              all_goals (go_meet; refine ⟨congrArg Value.bool ?_, rfl⟩; rw [hU]; first | exact (decide_eq_true (by omega)).symm | exact (decide_eq_false (by omega)).symm | (rw [Bool.eq_iff_iff]; simp only [Bool.or_eq_true, decide_eq_true_eq, beq_iff_eq]; omega))
            case rest =>
            obtain ⟨rfl, rfl⟩ := hcut
            cases u with
            | false =>
              have hvf : v = false := by
                rw [← HV.out]
                refine rightI_not HZ.out ?_
                have h1 := HU.out
                rw [← HY.out] at h1
                unfold rightI
                match j, hlj with
                | 0, _ => rw [show okB x x.wd = false from h1]; simp
                | 1, _ => rw [show okB x x.ht = false from h1]; simp
              subst hvf
              go_wp2_with fail
              go_ret
              exact ⟨rfl, K2.out⟩
            | true =>
              go_wp2_with fail
              go_roundw
              case rel => exact ⟨j + 1, by omega, by go_num, by first | trivial | rfl, Lib.hid fun m hm => by
                rcases Nat.lt_succ_iff_lt_or_eq.1 hm with q | q
                · exact G.out m q
                · rw [q, HY.out]; exact HU.out⟩
              case measure => simp [intOf]; omega
          · obtain rfl : j = 2 := by omega
            have HG := Lib.hid (rightI_take HZ.out H.out.1 (by
              unfold rightI
              rw [HO.out, show okB x x.wd = true from G.out 0 (by omega), show okB x x.ht = true from G.out 1 (by omega)]
              rfl))
            go_wp2_with fail
            go_roundw
            case rel => exact ⟨k + 1, by omega, by go_num, Lib.hid ⟨HG.out, K2.out⟩⟩
            case measure => simp [intOf]; omega
    · obtain rfl : k = n := by omega
      have he : its.take k = its := List.take_of_length_le (by rw [← HN.out.1]; exact Nat.le_refl _)
      have hvt : v = true := by rw [← HV.out, ← he]; exact H.out.1
      subst hvt
      go_wp2_with fail
      go_ret
      exact ⟨rfl, H.out.2⟩

end Go.Proofs.YtdibdfalahjmbaaGreat.Text

namespace Go.Proofs.YtdibdfalahjmbaaGreat.Text

open Go.ChangeShapes Go.WideShapes Go.ChangeAt Go.RowKit Go.Proofs.YtdibdfalahjmbaaGreat.Rect Go.Proofs.YtdibdfalahjmbaaGreat.Shelf

set_option linter.unusedVariables false

set_option maxRecDepth 100000

theorem cellsI4 : Tryz.prog.cellsOf 76 = 4 := by kernel_rfl

def cellsIt (x : It) : List Value := [.int .i64 x.sd, .int .i64 x.cl, .int .i64 x.wd, .int .i64 x.ht]

theorem atI_of {w : World} {p : Addr} {x : It} (h : ∀ j v, (cellsIt x)[j]? = some v → w.cell? (p.add j) = some v) : AtI w p x := by
  refine ⟨?_, cell_off _ _ _ _ (by omega) (h 1 _ rfl), cell_off _ _ _ _ (by omega) (h 2 _ rfl), cell_off _ _ _ _ (by omega) (h 3 _ rfl)⟩
  have := h 0 _ rfl
  simpa [Addr.add] using this

section

variable {H : Type} {enc : TypeId × Value → H} {w : World} {base : Nat} {spare : Nat → Bool} {held : Bool}

theorem list4 {α : Type} {l : List α} (h : l.length = 4) : ∃ c0 c1 c2 c3, l = [c0, c1, c2, c3] := by
  match l, h with
  | [c0, c1, c2, c3], _ => exact ⟨c0, c1, c2, c3, rfl⟩

theorem cells_item {n : Nat} {cs : List Value} {y : DataW H × List MemPlace} (hl : cs.length = 4) (h : DataW.trod enc Tryz.prog w base spare held n 76 cs = some y) : ∃ x : It, cs = cellsIt x := by
  obtain ⟨c0, c1, c2, c3, rfl⟩ := list4 hl
  obtain ⟨xs, n, _, _, _, hlen, hf⟩ := DataW.trod_struct Tryz.underlying76 h
  match xs, hlen with
  | [y0, y1, y2, y3], _ =>
    have f0 : DataW.trod enc Tryz.prog w base spare held n 3 ((([c0, c1, c2, c3] : List Value).drop 0).take (Tryz.prog.cellsOf 3)) = some y0 := hf 0 _ rfl
    have f1 : DataW.trod enc Tryz.prog w base spare held n 3 ((([c0, c1, c2, c3] : List Value).drop 1).take (Tryz.prog.cellsOf 3)) = some y1 := hf 1 _ rfl
    have f2 : DataW.trod enc Tryz.prog w base spare held n 3 ((([c0, c1, c2, c3] : List Value).drop 2).take (Tryz.prog.cellsOf 3)) = some y2 := hf 2 _ rfl
    have f3 : DataW.trod enc Tryz.prog w base spare held n 3 ((([c0, c1, c2, c3] : List Value).drop 3).take (Tryz.prog.cellsOf 3)) = some y3 := hf 3 _ rfl
    rw [cellsI] at f0 f1 f2 f3
    simp only [List.drop_succ_cons, List.drop_zero, List.take_succ_cons, List.take_zero] at f0 f1 f2 f3
    obtain ⟨x0, e0, -, -⟩ := DataW.trod_int Tryz.underlying3 f0
    obtain ⟨x1, e1, -, -⟩ := DataW.trod_int Tryz.underlying3 f1
    obtain ⟨x2, e2, -, -⟩ := DataW.trod_int Tryz.underlying3 f2
    obtain ⟨x3, e3, -, -⟩ := DataW.trod_int Tryz.underlying3 f3
    simp only [List.cons.injEq, and_true] at e0 e1 e2 e3
    subst e0 e1 e2 e3
    exact ⟨⟨x0, x1, x2, x3⟩, rfl⟩

end

theorem open_items {H : Type} {enc : TypeId × Value → H} {W : World} {v : Value} {d : DataW H} {ps : List MemPlace} (hv : ∃ a len cap, v = .slice a len cap)
    (h : DataW.Trod enc Tryz.prog W 0 (fun _ => true) true 23 v d ps) :
    ∃ A len cap xs, v = .slice A len cap ∧ len = xs.length ∧ len ≤ 9223372036854775807 ∧ len ≤ cap ∧ (A = none → cap = 0) ∧ Items W W.heap.size A xs := by
  obtain ⟨a0, len, cap, rfl⟩ := hv
  obtain ⟨fuel, hf⟩ := h
  rcases Go.Deep.open_slice Tryz.underlying23 hf with ⟨hcs, hx⟩ | ⟨a, len', cap', m, n, D, Pl, hcs, _, hl, hm, hz, hx, hcell⟩
  · simp [Value.cells] at hcs
    obtain ⟨rfl, rfl, rfl⟩ := hcs
    exact ⟨none, 0, 0, [], rfl, rfl, by omega, by omega, fun _ => rfl, fun k f hk => by simp at hk⟩
  · simp [Value.cells] at hcs
    obtain ⟨rfl, rfl, rfl⟩ := hcs
    simp only [if_true] at hz
    subst hz
    unfold maxLen at hm
    have each : ∀ i, ∃ f : It, i < len → a.block < W.heap.size ∧ AtI W (a.add (i * 4)) f := fun i => by
      by_cases hi : i < len
      · obtain ⟨cs', hc, ht⟩ := hcell i (by omega)
        rw [cellsI4] at hc
        unfold World.cells? at hc
        split at hc
        · have hl2 : cs'.length = 4 := by
            have := lenM hc
            simpa using this
          obtain ⟨f, rfl⟩ := cells_item hl2 ht
          refine ⟨f, fun _ => ?_⟩
          have hat : ∀ j v, (cellsIt f)[j]? = some v → W.cell? ((a.add (i * 4)).add j) = some v := fun j v hv => by
            have hj : j < 4 := (List.getElem?_eq_some_iff.1 hv).1
            obtain ⟨y, hy, hfy⟩ := mapM_at hc j j (by simp [List.getElem?_range hj])
            rw [hv] at hy
            injection hy with hy
            rw [hy]
            exact hfy
          refine ⟨?_, atI_of hat⟩
          have hb := World.block_lt_of_cell? _ _ (hat 0 _ rfl)
          rw [block_of_add, block_of_add] at hb
          exact hb
        · simp at hc
      · exact ⟨⟨0, 0, 0, 0⟩, fun h => absurd h hi⟩
    obtain ⟨f, hf⟩ := Classical.axiomOfChoice each
    refine ⟨some a, len, _, (List.range len).map f, rfl, by simp, by omega, hl, fun e => (by cases e), fun k x hk => ?_⟩
    have hk' : k < len := by have := (List.getElem?_eq_some_iff.1 hk).1; simpa using this
    obtain ⟨h1, h2⟩ := hf k hk'
    refine ⟨a, rfl, h1, ?_⟩
    have : f k = x := by simpa [hk'] using hk
    rw [← this]
    exact h2

end Go.Proofs.YtdibdfalahjmbaaGreat.Text

namespace Go.Proofs.YtdibdfalahjmbaaGreat.Shelf

open Go.RowKit Go.Sort Go.Proofs.YtdibdfalahjmbaaGreat.Rect Go.Proofs.YtdibdfalahjmbaaGreat.More

set_option linter.unusedVariables false

set_option maxHeartbeats 400000 in
theorem alike_any (a b : Sh) (w : World) :
    Calls Tryz.prog 86 #[.agg #[.int .i64 a.1, .int .i64 a.2.1, .int .i64 a.2.2], .agg #[.int .i64 b.1, .int .i64 b.2.1, .int .i64 b.2.2]] w fun e w' => e = .returned (.bool (decide (a.2 = b.2))) ∧ Below w.heap.size w w' := by
  obtain ⟨a1, a2, a3⟩ := a
  obtain ⟨b1, b2, b3⟩ := b
  have hv : decide (((a2, a3) : Int × Int) = (b2, b3)) = (decide (a2 = b2) && decide (a3 = b3)) := by simp [Prod.mk.injEq]
  dsimp only
  rw [hv]
  clear hv
  by_cases h1 : a2 = b2
  · subst h1
    by_cases h2 : a3 = b3
    · subst h2
      go_enter Tryz.func86, Tryz.ntmps86
      go_wp2
      go_ret
      exact ⟨by simp, ba2 _ _ _⟩
    · go_enter Tryz.func86, Tryz.ntmps86
      go_wp2
      go_ret
      exact ⟨by simp [h2], ba2 _ _ _⟩
  · go_enter Tryz.func86, Tryz.ntmps86
    go_wp2
    go_ret
    exact ⟨by simp [h1], ba2 _ _ _⟩


def compL : List Sh → List Sh
  | [] => []
  | x :: r => x :: compR x r

theorem compR_snoc : ∀ (l : List Sh) (q y z : Sh), (q :: l).getLast? = some z → compR q (l ++ [y]) = compR q l ++ (if y.2 = z.2 then [] else [y])
  | [], q, y, z, h => by
    have h' : q = z := by simpa using h
    subst h'
    simp [compR]
  | x :: l, q, y, z, h => by
    rw [List.getLast?_cons_cons] at h
    rw [List.cons_append, compR, compR, compR_snoc l x y z h, List.append_assoc]

theorem compL_snoc (l : List Sh) (y z : Sh) (h : l.getLast? = some z) : compL (l ++ [y]) = compL l ++ (if y.2 = z.2 then [] else [y]) := by
  cases l with
  | nil => simp at h
  | cons x r =>
    rw [List.cons_append]
    show x :: compR x (r ++ [y]) = x :: compR x r ++ _
    rw [compR_snoc r x y z h, List.cons_append]

theorem compL_next {mid : List Sh} {k : Nat} {y z : Sh} (hy : mid[k + 1]? = some y) (hz : mid[k]? = some z) : compL (mid.take (k + 2)) = compL (mid.take (k + 1)) ++ (if y.2 = z.2 then [] else [y]) := by
  rw [show k + 2 = (k + 1) + 1 by omega, List.take_add_one, hy]
  refine compL_snoc _ y z ?_
  rw [List.take_add_one, hz]
  simp

theorem compL_one {mid : List Sh} (h : 1 ≤ mid.length) : compL (mid.take 1) = mid.take 1 := by
  cases mid with
  | nil => simp at h
  | cons x r => rfl

theorem row_at {w : World} {B g n c : Nat} {xs : List Sh} (h : MineE encSh 116 w B (some ⟨g, 0, none⟩) n c xs) {k j : Nat} {x : Sh} (hx : xs[k]? = some x) (hj : k * 3 = j) :
    w.cell? ⟨g, j, none⟩ = some (.int .i64 x.1) ∧ w.cell? ⟨g, j + 1, none⟩ = some (.int .i64 x.2.1) ∧ w.cell? ⟨g, j + 2, none⟩ = some (.int .i64 x.2.2) := by
  subst hj
  exact ⟨MineE.at h k x hx 0 (by decide), MineE.at h k x hx 1 (by decide), MineE.at h k x hx 2 (by decide)⟩

theorem row_put {w : World} {B g n c : Nat} {xs : List Sh} (h : MineE encSh 116 w B (some ⟨g, 0, none⟩) n c xs) {k j : Nat} {x : Sh} (hx : xs[k]? = some x) (hj : k * 3 = j) (y : Sh) :
    MineE encSh 116 (((w.setCell ⟨g, j, none⟩ (.int .i64 y.1)).setCell ⟨g, j + 1, none⟩ (.int .i64 y.2.1)).setCell ⟨g, j + 2, none⟩ (.int .i64 y.2.2)) B (some ⟨g, 0, none⟩) n c (xs.set k y) ∧
      w.grownBy (((w.setCell ⟨g, j, none⟩ (.int .i64 y.1)).setCell ⟨g, j + 1, none⟩ (.int .i64 y.2.1)).setCell ⟨g, j + 2, none⟩ (.int .i64 y.2.2)) (some g) := by
  subst hj
  have hk := (List.getElem?_eq_some_iff.1 hx).1
  obtain ⟨h1, g1⟩ := MineE.stored h k x (y.1, x.2) hx 0 (by decide) (.int .i64 y.1) rfl
  obtain ⟨h2, g2⟩ := MineE.stored h1 k (y.1, x.2) (y.1, (y.2.1, x.2.2)) (List.getElem?_set_self hk) 1 (by decide) (.int .i64 y.2.1) rfl
  rw [List.set_set] at h2
  obtain ⟨h3, g3⟩ := MineE.stored h2 k (y.1, (y.2.1, x.2.2)) y (List.getElem?_set_self hk) 2 (by decide) (.int .i64 y.2.2) rfl
  rw [List.set_set] at h3
  exact ⟨h3, (g1.trans g2).trans g3⟩

theorem zeroSh (w : World) : (zeroValue 116).run Tryz.prog w = .ok (.agg #[.int .i64 0, .int .i64 0, .int .i64 0]) w := by kernel_rfl

def Compacted (w : World) (B g n c b0 cc : Nat) (pre mid post : List Sh) (r : Ending) (w' : World) : Prop :=
  r = .returned (.slice (some ⟨g, b0, none⟩) (compL mid).length cc) ∧ (∃ tl : List Sh, (compL mid).length + tl.length = mid.length ∧ MineE encSh 116 w' B (some ⟨g, 0, none⟩) n c (pre ++ (compL mid ++ tl) ++ post)) ∧ w.grownBy w' (some g)

structure Comp2 (B g n c : Nat) (pre mid post : List Sh) (w wr : World) (k j : Nat) : Prop where
  len : (compL (mid.take (j + 1))).length = k
  lt : k ≤ j
  row : MineE encSh 116 wr B (some ⟨g, 0, none⟩) n c (pre ++ (compL (mid.take (j + 1)) ++ mid.drop k) ++ post)
  grown : w.grownBy wr (some g)

theorem comp_at {pre A D post : List Sh} {k i : Nat} {mid : List Sh} (hA : A.length = k) (hD : D = mid.drop k) (hki : k ≤ i) {x : Sh} (hx : mid[i]? = some x) : (pre ++ (A ++ D) ++ post)[pre.length + i]? = some x := by
  have hi := (List.getElem?_eq_some_iff.1 hx).1
  have hdl : D.length = mid.length - k := by rw [hD, List.length_drop]
  rw [List.append_assoc, List.getElem?_append_right (by omega), Nat.add_sub_cancel_left, List.getElem?_append_left (by rw [List.length_append]; omega), List.getElem?_append_right (by omega), hD, List.getElem?_drop, show k + (i - A.length) = i by omega]
  exact hx

theorem comp_set {pre A post mid : List Sh} {k : Nat} (hA : A.length = k) (hk : k < mid.length) (y : Sh) : (pre ++ (A ++ mid.drop k) ++ post).set (pre.length + k) y = pre ++ ((A ++ [y]) ++ mid.drop (k + 1)) ++ post := by
  rw [List.append_assoc, List.set_append_right _ _ (by omega), Nat.add_sub_cancel_left, List.set_append_left _ _ (by rw [List.length_append, List.length_drop]; omega), List.set_append_right _ _ (by omega), hA, Nat.sub_self, List.drop_eq_getElem_cons hk, List.set_cons_zero]
  simp [List.append_assoc]

end Go.Proofs.YtdibdfalahjmbaaGreat.Shelf
