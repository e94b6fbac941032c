/- Texts of this proof that follow each other, in one file. -/
import Derived.Test.YtfomhdhiibcdfaaGreatPart11
import Derived.Test.YtfomhdhiibcdfaaGreatPart2
import Derived.Test.YtfomhdhiibcdfaaGreatPart1
import Derived.Laws.Rows
import Derived.Test.YtfomhdhiibcdfaaGreatRows
import Derived.WalkKit
import Derived.WalkSpells
import Derived.WalkLawsBesides
import Derived.BigQuiet
import Derived.Lib.Hide
import Derived.Lib.QuietBelow
import Derived.Deep.DeepCutAuto
/-! What is asked of the program's trees, whatever they look like in memory; the law's example, and its Begin. -/
namespace Go.Proofs.YtfomhdhiibcdfaaGreat.Tree
open Go.RowKit Go.Sort Go.Proofs.YtfomhdhiibcdfaaGreat.Record Go.Proofs.YtfomhdhiibcdfaaGreat.Script

/-- Has a tree a place? -/
def hasT (bs : List Bx) (i : Int) : Prop := 0 ≤ i ∧ i < bs.length

instance (bs : List Bx) (i : Int) : Decidable (hasT bs i) := inferInstanceAs (Decidable (_ ∧ _))

def boxT (bs : List Bx) (i : Int) : Bx := if hasT bs i then bs.getD i.toNat noB else noB
def parT (bs : List Bx) (i : Int) : Int := if hasT bs i then par (dOf bs) i.toNat else -1
def enT (bs : List Bx) (i : Int) : Int := if hasT bs i then (en (dOf bs) bs.length i.toNat : Int) else -1
def ctxT (bs : List Bx) (i : Int) : Int := if hasT bs i then (ctx (dOf bs) (oOf bs) i.toNat : Int) else -1
def kidsT (bs : List Bx) (i : Int) : List Int := if hasT bs i then (kids (dOf bs) bs.length i.toNat).map Int.ofNat else []
def opensT (bs : List Bx) : List Int := (((List.range bs.length).filter (oOf bs)).map Int.ofNat).reverse

theorem hasT_nat {bs : List Bx} {i : Nat} (h : i < bs.length) : hasT bs (i : Int) := ⟨by omega, by omega⟩
theorem boxT_nat {bs : List Bx} {i : Nat} (h : i < bs.length) : boxT bs (i : Int) = bs.getD i noB := by unfold boxT; rw [if_pos (hasT_nat h)]; rfl
theorem parT_nat {bs : List Bx} {i : Nat} (h : i < bs.length) : parT bs (i : Int) = par (dOf bs) i := by unfold parT; rw [if_pos (hasT_nat h)]; rfl
theorem enT_nat {bs : List Bx} {i : Nat} (h : i < bs.length) : enT bs (i : Int) = en (dOf bs) bs.length i := by unfold enT; rw [if_pos (hasT_nat h)]; rfl
theorem ctxT_nat {bs : List Bx} {i : Nat} (h : i < bs.length) : ctxT bs (i : Int) = ctx (dOf bs) (oOf bs) i := by unfold ctxT; rw [if_pos (hasT_nat h)]; rfl
theorem kidsT_nat {bs : List Bx} {i : Nat} (h : i < bs.length) : kidsT bs (i : Int) = (kids (dOf bs) bs.length i).map Int.ofNat := by unfold kidsT; rw [if_pos (hasT_nat h)]; rfl

/-- A slice of numbers that lies somewhere. -/
def GivesL (xs : List Int) (w : World) (u : Value) : Prop := ∃ A c, u = .slice A xs.length c ∧ Nums w w.heap.size A xs

/-- .. in new memory, if it has numbers. -/
def GivesN (B : Nat) (xs : List Int) (w : World) (u : Value) : Prop := ∃ A c, u = .slice A xs.length c ∧ Nums w w.heap.size A xs ∧ (xs ≠ [] → ∀ ad, A = some ad → B ≤ ad.block)

/-- The contracts of the program's trees. -/
structure TreeOk (T : World → Addr → List Bx → Prop) : Prop where
  keep : ∀ w w' p bs, T w p bs → Below w.heap.size w w' → T w' p bs
  yes : ∀ (A : Option Addr) (n c : Nat) (bs : List Bx) (w : World), n = bs.length → n ≤ 1000 → 0 < n → Boxes w w.heap.size A bs → (∀ b ∈ bs, OkB b) → Fine bs n →
    Calls Tryz.prog 18 #[.slice A n c] w fun r w' => (∃ p, r = .returned (.tuple #[.pointer (some p), .int .i64 (-1), .int .i64 0]) ∧ T w' p bs) ∧ Below w.heap.size w w'
  no : ∀ (A : Option Addr) (n c : Nat) (bs : List Bx) (w : World) (a e : Int), n = bs.length → n ≤ 1000 → Boxes w w.heap.size A bs → (∀ b ∈ bs, OkB b) → chk bs = (a, e) → e ≠ 0 →
    Calls Tryz.prog 18 #[.slice A n c] w fun r w' => r = .returned (.tuple #[.pointer none, .int .i64 a, .int .i64 e]) ∧ Below w.heap.size w w'
  box : ∀ w p bs (i : Int), T w p bs → Calls Tryz.prog 43 #[.pointer (some p), .int .i64 i] w fun r w' => r = .returned (boxT bs i).v ∧ Below w.heap.size w w'
  en : ∀ w p bs (i : Int), T w p bs → Calls Tryz.prog 62 #[.pointer (some p), .int .i64 i] w fun r w' => r = .returned (.int .i64 (enT bs i)) ∧ Below w.heap.size w w'

/-- What a list's Check answers is right: no error just if it's fine. -/
theorem chkF_fine (bs : List Bx) : ∀ f i, (∀ j, i ≤ j → j < i + f → badAt bs j = 0) → chkF bs f i = (-1, 0)
  | 0, _, _ => rfl
  | f + 1, i, h => by
    rw [chkF, if_pos (h i (Nat.le_refl _) (by omega))]
    exact chkF_fine bs f (i + 1) (fun j a b => h j (by omega) (by omega))

theorem chkF_ok (bs : List Bx) : ∀ f i a, chkF bs f i = (a, 0) → a = -1 ∧ ∀ j, i ≤ j → j < i + f → badAt bs j = 0
  | 0, i, a, h => by
    rw [chkF] at h
    injection h with h1 h2
    exact ⟨h1.symm, fun j x y => by omega⟩
  | f + 1, i, a, h => by
    rw [chkF] at h
    split at h
    · rename_i hb
      obtain ⟨h1, h2⟩ := chkF_ok bs f (i + 1) a h
      refine ⟨h1, fun j x y => ?_⟩
      by_cases e : j = i
      · subst e; exact hb
      · exact h2 j (by omega) (by omega)
    · rename_i hb
      injection h with h1 h2
      exact absurd h2 hb

theorem chk_fine {bs : List Bx} {n : Nat} (hn : n = bs.length) (h0 : 0 < n) (h : Fine bs n) : chk bs = (-1, 0) := by
  unfold chk
  rw [if_neg (by omega), ← hn]
  exact chkF_fine bs n 0 (fun j _ hj => h j (by omega))

theorem chk_ok {bs : List Bx} {n : Nat} {a : Int} (hn : n = bs.length) (h : chk bs = (a, 0)) : a = -1 ∧ 0 < n ∧ Fine bs n := by
  unfold chk at h
  split at h
  · injection h with h1 h2
    exact absurd h2 (by decide)
  · rename_i h0
    obtain ⟨h1, h2⟩ := chkF_ok bs bs.length 0 a h
    exact ⟨h1, by omega, fun j hj => h2 j (by omega) (by omega)⟩

section
variable {T : World → Addr → List Bx → Prop}

theorem oneB_boxes (w : World) (b : Bx) (t : TypeId) : Boxes (w.alloc (.cells (cellsOfB b).toArray t)) (w.alloc (.cells (cellsOfB b).toArray t)).heap.size (some ⟨w.heap.size, 0, none⟩) [b] := by
  have hm : MineB t (w.alloc (.cells (cellsOfB b).toArray t)) 0 (some ⟨w.heap.size, 0, none⟩) 1 1 [b] := by
    have := World.ownsRow_lit (e := t) (size := 14) (base := 0) w (cellsOfB b).toArray 1 (Nat.zero_le _) (by unfold maxLen; omega) rfl
    simpa [MineB] using this
  exact hm.boxes

theorem okB_zero (k : Int) (hk : (Lit.int .i64 k).wf = true) : OkB ⟨0, k, 0, 0, 0, 0, 0, 0, 0, 0, 0, 0, 0, 0⟩ := by
  intro x hx
  simp only [List.mem_cons, List.not_mem_nil, or_false] at hx
  rcases hx with h | h | h | h | h | h | h | h | h | h | h | h | h | h <;> subst h <;> first | exact hk | decide

set_option maxRecDepth 100000 in
set_option maxHeartbeats 1000000 in
theorem begin_some (hT : TreeOk T) (A : Option Addr) (n c : Nat) (bs : List Bx) (w : World) (hn : n = bs.length) (hlen : n ≤ 1000) (h0 : 0 < n) (hx : Boxes w w.heap.size A bs) (hb : ∀ b ∈ bs, OkB b) (hf : Fine bs n) :
    Calls Tryz.prog 16 #[.slice A n c] w fun r w' => (∃ p, r = .returned (.pointer (some p)) ∧ T w' p bs) ∧ Below w.heap.size w w' := by
  have HX := Lib.hid hx
  have HN := Lib.hid hn
  have HB := Lib.hid hb
  have HF := Lib.hid hf
  clear hx hn hb hf
  go_enter Tryz.func16, Tryz.ntmps16
  go_wp2_with fail
  refine (ofs_any A n c bs w HN.out (by omega) HX.out).mono ?_; rintro e w1 ⟨⟨A1, c1, rfl, h1⟩, k1⟩
  have K1 := Lib.hid k1
  have HM := Lib.hid h1
  clear k1 h1
  go_wp2_with fail
  refine (hT.yes A1 n c1 bs w1 HN.out hlen h0 HM.out.boxes HB.out HF.out).mono ?_; rintro e w2 ⟨⟨p, rfl, ht⟩, k2⟩
  have K2 := Lib.hid (thru K1.out k2)
  have HT2 := Lib.hid ht
  clear k2 ht
  go_wp2_with fail
  go_ret
  exact ⟨⟨p, rfl, HT2.out⟩, K2.out⟩

set_option maxRecDepth 100000 in
set_option maxHeartbeats 1000000 in
theorem begin_none (hT : TreeOk T) (A : Option Addr) (n c : Nat) (bs : List Bx) (w : World) (a e : Int) (hn : n = bs.length) (hlen : n ≤ 1000) (hx : Boxes w w.heap.size A bs) (hb : ∀ b ∈ bs, OkB b) (hc : chk bs = (a, e)) (he : e ≠ 0) :
    Calls Tryz.prog 16 #[.slice A n c] w fun r w' => r = .returned (.pointer none) ∧ Below w.heap.size w w' := by
  have HX := Lib.hid hx
  have HN := Lib.hid hn
  have HB := Lib.hid hb
  have HC := Lib.hid hc
  clear hx hn hb hc
  have he' : (e == 0) = false := by simp [he]
  go_enter Tryz.func16, Tryz.ntmps16
  go_wp2_with fail
  refine (ofs_any A n c bs w HN.out (by omega) HX.out).mono ?_; rintro r w1 ⟨⟨A1, c1, rfl, h1⟩, k1⟩
  have K1 := Lib.hid k1
  have HM := Lib.hid h1
  clear k1 h1
  go_wp2_with fail
  refine (hT.no A1 n c1 bs w1 a e HN.out hlen HM.out.boxes HB.out HC.out he).mono ?_; rintro r w2 ⟨rfl, k2⟩
  have K2 := Lib.hid (thru K1.out k2)
  clear k2
  go_wp2_with fail
  go_ret
  exact ⟨rfl, K2.out⟩

end

end Go.Proofs.YtfomhdhiibcdfaaGreat.Tree

/-! What the document says of a space: the last float's top, the bottom of what is cleared, the height of rows. -/
namespace Go.Proofs.YtfomhdhiibcdfaaGreat.Space
open Go.Proofs.YtfomhdhiibcdfaaGreat.Shelf

/-- The greatest top. -/
def lastD : List Fl → Int
  | [] => 0
  | f :: fs => fs.foldl (fun m g => max m g.t) f.t

theorem lastD_snoc (fs : List Fl) (f : Fl) : lastD (fs ++ [f]) = if fs = [] then f.t else max (lastD fs) f.t := by
  cases fs with
  | nil => rfl
  | cons g gs => simp [lastD, List.foldl_append]

theorem lastD_take {fs : List Fl} {k : Nat} {f : Fl} (h : fs[k]? = some f) : lastD (fs.take (k + 1)) = if k = 0 then f.t else max (lastD (fs.take k)) f.t := by
  rw [List.take_add_one, h]
  show lastD (fs.take k ++ [f]) = _
  rw [lastD_snoc]
  have hk : k < fs.length := by
    rcases Nat.lt_or_ge k fs.length with g | g
    · exact g
    · rw [List.getElem?_eq_none g] at h; cases h
  by_cases e : k = 0
  · subst e; simp
  · rw [if_neg e, if_neg]
    intro h0
    have := congrArg List.length h0
    rw [List.length_take, List.length_nil] at this
    omega

theorem lastD_ge (fs : List Fl) (f : Fl) (h : f ∈ fs) : f.t ≤ lastD fs := by
  have key : ∀ (gs : List Fl) (m : Int), m ≤ gs.foldl (fun m g => max m g.t) m ∧ ∀ g ∈ gs, g.t ≤ gs.foldl (fun m g => max m g.t) m := by
    intro gs
    induction gs with
    | nil => intro m; exact ⟨Int.le_refl _, fun g hg => by cases hg⟩
    | cons a gs ih =>
      intro m
      obtain ⟨h1, h2⟩ := ih (max m a.t)
      simp only [List.foldl_cons]
      refine ⟨by omega, fun g hg => ?_⟩
      rcases List.mem_cons.1 hg with rfl | hg
      · omega
      · exact h2 g hg
  cases fs with
  | nil => cases h
  | cons g gs =>
    obtain ⟨h1, h2⟩ := key gs g.t
    rcases List.mem_cons.1 h with rfl | h
    · exact h1
    · exact h2 f h

theorem lastD_mem (fs : List Fl) (h : fs ≠ []) : ∃ f ∈ fs, f.t = lastD fs := by
  have key : ∀ (gs : List Fl) (m : Int), gs.foldl (fun m g => max m g.t) m = m ∨ ∃ g ∈ gs, g.t = gs.foldl (fun m g => max m g.t) m := by
    intro gs
    induction gs with
    | nil => intro m; exact .inl rfl
    | cons a gs ih =>
      intro m
      simp only [List.foldl_cons]
      rcases ih (max m a.t) with e | ⟨g, hg, e⟩
      · by_cases hm : a.t ≤ m
        · left; rw [e]; omega
        · right; exact ⟨a, List.mem_cons_self .., by rw [e]; omega⟩
      · exact .inr ⟨g, List.mem_cons_of_mem _ hg, e⟩
  cases fs with
  | nil => exact absurd rfl h
  | cons g gs =>
    rcases key gs g.t with e | ⟨f, hf, e⟩
    · exact ⟨g, List.mem_cons_self .., e.symm⟩
    · exact ⟨f, List.mem_cons_of_mem _ hf, e⟩

/-- Is a float of this side cleared? -/
def clrB (c s : Int) : Bool := c == 3 || (c != 0 && c == s)

def botStep (c : Int) (s : Int × Bool) (f : Fl) : Int × Bool := if clrB c f.s && (!s.2 || decide (s.1 < f.b)) then (f.b, true) else s

/-- The greatest bottom of what is cleared, and whether there is one. -/
def botS (fs : List Fl) (c : Int) : Int × Bool := fs.foldl (botStep c) (0, false)

theorem botS_snoc (fs : List Fl) (f : Fl) (c : Int) : botS (fs ++ [f]) c = botStep c (botS fs c) f := by unfold botS; rw [List.foldl_append]; rfl

theorem botS_take {fs : List Fl} {k : Nat} {f : Fl} (h : fs[k]? = some f) (c : Int) : botS (fs.take (k + 1)) c = botStep c (botS (fs.take k) c) f := by
  rw [List.take_add_one, h]
  exact botS_snoc _ f c

/-- None: nothing is cleared. -/
theorem botS_none (fs : List Fl) : botS fs 0 = (0, false) := by
  unfold botS
  induction fs with
  | nil => rfl
  | cons f fs ih => exact ih

def clearS (fs : List Fl) (c y : Int) : Int := if (botS fs c).2 && decide (y < (botS fs c).1) then (botS fs c).1 else y

/-- The bottom as a greatest number of a list. -/
def cleared (fs : List Fl) (c : Int) : List Fl := fs.filter (fun f => clrB c f.s)

theorem botS_is (fs : List Fl) (c : Int) : ((botS fs c).2 = false ∧ cleared fs c = [] ∧ (botS fs c).1 = 0) ∨ ((botS fs c).2 = true ∧ (∃ f ∈ cleared fs c, f.b = (botS fs c).1) ∧ ∀ f ∈ cleared fs c, f.b ≤ (botS fs c).1) := by
  rw [← List.reverse_reverse fs]
  induction fs.reverse with
  | nil => exact .inl ⟨rfl, rfl, rfl⟩
  | cons f gs ih =>
    rw [List.reverse_cons]
    generalize gs.reverse = fs at ih ⊢
    rw [botS_snoc]
    have hc : cleared (fs ++ [f]) c = cleared fs c ++ (if clrB c f.s then [f] else []) := by
      unfold cleared; rw [List.filter_append]; congr 1; by_cases g : clrB c f.s = true <;> simp [g]
    rw [hc]
    unfold botStep
    by_cases h1 : clrB c f.s = true
    · rw [if_pos h1]
      rcases ih with ⟨e1, e2, e3⟩ | ⟨e1, ⟨g, hg, e2⟩, e3⟩
      · rw [e1, e2, if_pos (by rw [h1]; rfl)]
        exact .inr ⟨rfl, ⟨f, by simp, rfl⟩, fun g hg => by simp at hg; rw [hg]; exact Int.le_refl _⟩
      · by_cases h2 : (botS fs c).1 < f.b
        · rw [if_pos (by rw [h1]; simp [h2])]
          refine .inr ⟨rfl, ⟨f, by simp, rfl⟩, fun g hg => ?_⟩
          rcases List.mem_append.1 hg with hg | hg
          · have := e3 g hg; show g.b ≤ f.b; omega
          · rw [List.mem_singleton.1 hg]; exact Int.le_refl _
        · rw [if_neg (by rw [h1, e1]; simp [h2])]
          refine .inr ⟨e1, ⟨g, List.mem_append_left _ hg, e2⟩, fun g hg => ?_⟩
          rcases List.mem_append.1 hg with hg | hg
          · exact e3 g hg
          · rw [List.mem_singleton.1 hg]; omega
    · rw [if_neg (by simp [h1]), if_neg h1, List.append_nil]
      exact ih

theorem clearS_ge (fs : List Fl) (c y : Int) : y ≤ clearS fs c y := by
  unfold clearS
  split
  · next h => simp at h; omega
  · exact Int.le_refl _

/-- A clear is the greatest of y and of all that is cleared. -/
theorem clearS_is (fs : List Fl) (c y : Int) : (clearS fs c y = y ∨ ∃ f ∈ cleared fs c, f.b = clearS fs c y) ∧ ∀ f ∈ cleared fs c, f.b ≤ clearS fs c y := by
  unfold clearS
  rcases botS_is fs c with ⟨e1, e2, e3⟩ | ⟨e1, ⟨g, hg, e2⟩, e3⟩
  · rw [e1, e2]; simp
  · by_cases h : y < (botS fs c).1
    · rw [e1, if_pos (by simp [h])]; exact ⟨.inr ⟨g, hg, e2⟩, e3⟩
    · rw [e1, if_neg (by simp [h])]; exact ⟨.inl rfl, fun f hf => by have := e3 f hf; omega⟩

theorem clearS_eq {fs gs : List Fl} {c d : Int} (y : Int) (h : ∀ f, f ∈ cleared fs c ↔ f ∈ cleared gs d) : clearS fs c y = clearS gs d y := by
  obtain ⟨a1, a2⟩ := clearS_is fs c y
  obtain ⟨b1, b2⟩ := clearS_is gs d y
  have g1 := clearS_ge fs c y
  have g2 := clearS_ge gs d y
  have h1 : clearS fs c y ≤ clearS gs d y := by
    rcases a1 with e | ⟨f, hf, e⟩
    · omega
    · have := b2 f ((h f).1 hf); omega
  have h2 : clearS gs d y ≤ clearS fs c y := by
    rcases b1 with e | ⟨f, hf, e⟩
    · omega
    · have := a2 f ((h f).2 hf); omega
  omega

/-- More is cleared: never higher up. -/
theorem clearS_mono {fs gs : List Fl} {c d : Int} (y : Int) (h : ∀ f, f ∈ cleared fs c → f ∈ cleared gs d) : clearS fs c y ≤ clearS gs d y := by
  obtain ⟨a1, a2⟩ := clearS_is fs c y
  obtain ⟨b1, b2⟩ := clearS_is gs d y
  have g2 := clearS_ge gs d y
  rcases a1 with e | ⟨f, hf, e⟩
  · omega
  · have := b2 f (h f hf); omega

/-- Both: the greater one of the two. -/
theorem clearS_both {fs gs hs : List Fl} {c d e : Int} (y : Int) (h : ∀ f, f ∈ cleared fs c ↔ f ∈ cleared gs d ∨ f ∈ cleared hs e) : clearS fs c y = max (clearS gs d y) (clearS hs e y) := by
  obtain ⟨a1, a2⟩ := clearS_is fs c y
  have g0 := clearS_ge fs c y
  have m1 := clearS_mono (fs := gs) (gs := fs) (c := d) (d := c) y fun f hf => (h f).2 (.inl hf)
  have m2 := clearS_mono (fs := hs) (gs := fs) (c := e) (d := c) y fun f hf => (h f).2 (.inr hf)
  obtain ⟨-, b2⟩ := clearS_is gs d y
  obtain ⟨-, c2⟩ := clearS_is hs e y
  have g1 := clearS_ge gs d y
  have : clearS fs c y ≤ max (clearS gs d y) (clearS hs e y) := by
    rcases a1 with q | ⟨f, hf, q⟩
    · omega
    · rcases (h f).1 hf with hf | hf
      · have := b2 f hf; omega
      · have := c2 f hf; omega
  omega

/-- As high as it is, but one at least. -/
def highZ (h : Int) : Int := if h < 1 then 1 else h

theorem highZ_pos (h : Int) : 1 ≤ highZ h := by unfold highZ; split <;> omega

end Go.Proofs.YtfomhdhiibcdfaaGreat.Space

/-! Blocks whose cells are known, and what a store of one's own leaves. -/
namespace Go.Proofs.YtfomhdhiibcdfaaGreat.Spot
open Go.RowKit Go.Sort
set_option linter.unusedVariables false
set_option linter.unusedSimpArgs false

/-- A block whose cells are these, none of them frozen. -/
structure Lies (w : World) (b : Nat) (xs : List Value) : Prop where
  at' : ∀ o, w.cell? ⟨b, o, none⟩ = xs[o]?
  frz : ∀ o, w.frozen? ⟨b, o, none⟩ = false

/-- Nothing that lay there is turned, but in some blocks. -/
structure Save (S : Nat → Prop) (w w' : World) : Prop where
  os : w'.os = w.os
  tape : w'.tape = w.tape
  output : w'.output = w.output
  size : w.heap.size ≤ w'.heap.size
  block : ∀ k, k < w.heap.size → ¬ S k → w'.heap[k]? = w.heap[k]?

section
variable {w w' w'' : World} {b : Nat} {xs : List Value} {S S' : Nat → Prop}

theorem Lies.lt (h : Lies w b xs) (hn : 0 < xs.length) : b < w.heap.size := by
  have := h.at' 0
  rw [List.getElem?_eq_getElem hn] at this
  exact block_lt_of_cell this

theorem Lies.kept (h : Lies w b xs) (e : w'.heap[b]? = w.heap[b]?) : Lies w' b xs :=
  ⟨fun o => (World.cell?_of_block (a := ⟨b, o, none⟩) e).trans (h.at' o), fun o => (World.frozen?_of_block (a := ⟨b, o, none⟩) e).trans (h.frz o)⟩

theorem Lies.set (h : Lies w b xs) (o : Nat) (v : Value) (ho : o < xs.length) : Lies (w.setCell ⟨b, o, none⟩ v) b (xs.set o v) := by
  refine ⟨fun j => ?_, fun j => by rw [World.frozen?_setCell]; exact h.frz j⟩
  rw [List.getElem?_set]
  by_cases e : o = j
  · subst e
    rw [if_pos rfl, if_pos ho]
    have := h.at' o
    rw [List.getElem?_eq_getElem ho] at this
    exact World.cell?_setCell_same _ _ _ this
  · rw [if_neg e, ← h.at' j]
    exact World.cell?_setCell_other _ _ _ _ (by simp [e])

theorem Lies.below (h : Lies w b xs) (hn : 0 < xs.length) (k : Below w.heap.size w w') : Lies w' b xs := h.kept (k.block b (h.lt hn))
theorem Lies.save (h : Lies w b xs) (hn : 0 < xs.length) (k : Save S w w') (hs : ¬ S b) : Lies w' b xs := h.kept (k.block b (h.lt hn) hs)

theorem Lies.new (w : World) (xs : List Value) (T : TypeId) : Lies (w.alloc (.cells xs.toArray T)) w.heap.size xs := by
  refine ⟨fun o => ?_, fun o => by simp [go_sem]⟩
  rw [cell_of_row _ w.heap.size o xs.toArray T (0, 0) (heap_alloc_new w _)]
  simp

theorem Save.refl (S : Nat → Prop) (w : World) : Save S w w := ⟨rfl, rfl, rfl, Nat.le_refl _, fun _ _ _ => rfl⟩
theorem Save.of_below (h : Below w.heap.size w w') : Save S w w' := ⟨h.os, h.tape, h.output, h.size, fun k hk _ => h.block k hk⟩
theorem Save.trans (h : Save S w w') (k : Save S' w' w'') (hs : ∀ j, j < w.heap.size → S' j → S j) : Save S w w'' :=
  ⟨k.os.trans h.os, k.tape.trans h.tape, k.output.trans h.output, Nat.le_trans h.size k.size, fun j hj hn => (k.block j (Nat.lt_of_lt_of_le hj h.size) (fun q => hn (hs j hj q))).trans (h.block j hj hn)⟩
theorem Save.below {B : Nat} (h : Save S w w') (hB : B ≤ w.heap.size) (hs : ∀ k, S k → B ≤ k) : Below B w w' :=
  ⟨h.os, h.tape, h.output, h.size, fun k hk => h.block k (by omega) (fun q => by have := hs k q; omega)⟩
theorem Save.set (b o : Nat) (v : Value) : Save (fun k => k = b) w (w.setCell ⟨b, o, none⟩ v) :=
  ⟨rfl, rfl, rfl, by simp [World.setCell], fun k _ hk => Below.heap_setCell _ _ _ k (fun e => hk e)⟩
theorem Save.onto (h : Save (fun k => k = b) w w') (o : Nat) (v : Value) : Save (fun k => k = b) w (w'.setCell ⟨b, o, none⟩ v) := h.trans (Save.set b o v) (fun _ _ h => h)

theorem Save.set_in (b o : Nat) (v : Value) (hb : S b) : Save S w (w.setCell ⟨b, o, none⟩ v) := ⟨rfl, rfl, rfl, by simp [World.setCell], fun k _ hk => Below.heap_setCell _ _ _ k (fun e => hk (e ▸ hb))⟩

/-- Five cells written anew, and four. -/
theorem Lies.five {a0 a1 a2 a3 a4 : Value} (h : Lies w b [a0, a1, a2, a3, a4]) (v0 v1 v2 v3 v4 : Value) : Lies (((((w.setCell ⟨b, 0, none⟩ v0).setCell ⟨b, 1, none⟩ v1).setCell ⟨b, 2, none⟩ v2).setCell ⟨b, 3, none⟩ v3).setCell ⟨b, 4, none⟩ v4) b [v0, v1, v2, v3, v4] :=
  ((((h.set 0 v0 (by simp)).set 1 v1 (by simp)).set 2 v2 (by simp)).set 3 v3 (by simp)).set 4 v4 (by simp)
theorem Lies.four {a0 a1 a2 a3 : Value} (h : Lies w b [a0, a1, a2, a3]) (v0 v1 v2 v3 : Value) : Lies ((((w.setCell ⟨b, 0, none⟩ v0).setCell ⟨b, 1, none⟩ v1).setCell ⟨b, 2, none⟩ v2).setCell ⟨b, 3, none⟩ v3) b [v0, v1, v2, v3] :=
  (((h.set 0 v0 (by simp)).set 1 v1 (by simp)).set 2 v2 (by simp)).set 3 v3 (by simp)
theorem Save.five (w : World) (b : Nat) (v0 v1 v2 v3 v4 : Value) : Save (fun k => k = b) w (((((w.setCell ⟨b, 0, none⟩ v0).setCell ⟨b, 1, none⟩ v1).setCell ⟨b, 2, none⟩ v2).setCell ⟨b, 3, none⟩ v3).setCell ⟨b, 4, none⟩ v4) :=
  ((((Save.set b 0 v0).onto 1 v1).onto 2 v2).onto 3 v3).onto 4 v4
theorem Save.four (w : World) (b : Nat) (v0 v1 v2 v3 : Value) : Save (fun k => k = b) w ((((w.setCell ⟨b, 0, none⟩ v0).setCell ⟨b, 1, none⟩ v1).setCell ⟨b, 2, none⟩ v2).setCell ⟨b, 3, none⟩ v3) :=
  (((Save.set b 0 v0).onto 1 v1).onto 2 v2).onto 3 v3
theorem Save.blw {B : Nat} (h : Save (fun k => k = b) w w') (hB : B ≤ b) (hw : B ≤ w.heap.size) : Below B w w' := h.below hw fun k hk => by rw [hk]; exact hB

/-- Two new blocks. -/
theorem two_news (w : World) (T T2 : TypeId) (xs ys : List Value) (hx : 0 < xs.length) :
    Lies ((w.alloc (.cells xs.toArray T)).alloc (.cells ys.toArray T2)) w.heap.size xs ∧ Lies ((w.alloc (.cells xs.toArray T)).alloc (.cells ys.toArray T2)) (w.heap.size + 1) ys ∧ Below w.heap.size w ((w.alloc (.cells xs.toArray T)).alloc (.cells ys.toArray T2)) := by
  have m2 := Lies.new (w.alloc (.cells xs.toArray T)) ys T2
  rw [show (w.alloc (.cells xs.toArray T)).heap.size = w.heap.size + 1 by simp] at m2
  exact ⟨(Lies.new w xs T).below hx (ba1 _ _), m2, ba2 _ _ _⟩

theorem Save.onto_in (h : Save S w w') (b o : Nat) (v : Value) (hb : S b) : Save S w (w'.setCell ⟨b, o, none⟩ v) := h.trans (Save.set_in b o v hb) (fun _ _ h => h)

theorem mine_save {B n c : Nat} {A : Option Addr} {xs : List Int} (h : Mine w B A n c xs) (k : Save S w w') (hS : ∀ j, blk A = some j → ¬ S j) : Mine w' B A n c xs := by
  refine ⟨h.1, ?_⟩
  rcases h.2 with e | ⟨g, cap, cur, e, hb, hg, r⟩
  · exact .inl e
  · have hgl : g < w.heap.size := (Array.getElem?_eq_some_iff.1 hg).1
    have hA : blk A = some g := by injection e with e1 e2 e3; rw [e1]; rfl
    exact .inr ⟨g, cap, cur, e, hb, (k.block g hgl (hS g hA)).trans hg, r⟩

theorem Mine.mono {B C n c : Nat} {A : Option Addr} {xs : List Int} (h : Mine w B A n c xs) (hC : C ≤ B) : Mine w C A n c xs := by
  refine ⟨h.1, ?_⟩
  rcases h.2 with e | ⟨g, cap, cur, e, hb, r⟩
  · exact .inl e
  · exact .inr ⟨g, cap, cur, e, Nat.le_trans hC hb, r⟩

/-- A list of numbers that may be read. -/
structure Held (w : World) (A : Option Addr) (n c : Nat) (xs : List Int) : Prop where
  len : n = xs.length
  nil : A = none → c = 0
  nums : Nums w w.heap.size A xs

theorem Held.below {A : Option Addr} {n c : Nat} {xs : List Int} (h : Held w A n c xs) (k : Below w.heap.size w w') : Held w' A n c xs := ⟨h.len, h.nil, h.nums.thru k⟩
theorem Held.src {A : Option Addr} {n c : Nat} {xs : List Int} (h : Held w A n c xs) : Src w A n c xs := ⟨h.len.symm, h.nil, fun k hk => by obtain ⟨ad, e, -, hc⟩ := h.nums k hk; exact ⟨ad, e, hc⟩⟩
theorem Mine.held {B n c : Nat} {A : Option Addr} {xs : List Int} (h : Mine w B A n c xs) : Held w A n c xs := ⟨h.len.symm, (Mine.src h).2.1, Mine.nums h⟩
theorem Held.save {A : Option Addr} {n c : Nat} {xs : List Int} (h : Held w A n c xs) (k : Save S w w') (hS : ∀ ad, A = some ad → 0 < xs.length → ¬ S ad.block) : Held w' A n c xs := by
  refine ⟨h.len, h.nil, fun i hi => ?_⟩
  obtain ⟨ad, e, hb, hc⟩ := h.nums i hi
  refine ⟨ad, e, by have := k.size; omega, ?_⟩
  rw [← hc]
  exact World.cell?_of_block (a := ad.add i) (by rw [block_of_add]; exact k.block _ hb (hS ad e (by omega)))

theorem mine_none (w : World) (B : Nat) : Mine w B none 0 0 [] := ⟨rfl, .inl ⟨rfl, rfl⟩⟩

end

end Go.Proofs.YtfomhdhiibcdfaaGreat.Spot

/-! The contracts of strut's small functions, of the document's, and of the law's look at numbers. -/
namespace Go.Proofs.YtfomhdhiibcdfaaGreat.Strut
open Go.RowKit

theorem ba1 (w : World) (o : Obj) : Below w.heap.size w (w.alloc o) := (Below.refl _ _).alloc (Nat.le_refl _) o
theorem ba2 (w : World) (o p : Obj) : Below w.heap.size w ((w.alloc o).alloc p) := (ba1 w o).alloc (by simp) p
theorem ba3 (w : World) (o p q : Obj) : Below w.heap.size w (((w.alloc o).alloc p).alloc q) := (ba2 w o p).alloc (by simp; omega) q

theorem bcell {W w1 : World} (hb : Below W.heap.size W w1) : (∀ b o, b < W.heap.size → w1.cell? ⟨b, o, none⟩ = W.cell? ⟨b, o, none⟩) ∧ (∀ b o, b < W.heap.size → w1.frozen? ⟨b, o, none⟩ = W.frozen? ⟨b, o, none⟩) :=
  ⟨fun b o h => hb.cell (p := ⟨b, o, none⟩) h, fun b o h => hb.frozen (p := ⟨b, o, none⟩) h⟩

theorem thru {w W w1 : World} (h1 : Below w.heap.size w W) (h2 : Below W.heap.size W w1) : Below w.heap.size w w1 := h1.trans (h2.mono h1.size)

set_option maxHeartbeats 400000 in
theorem sum_any (m l : Int) (hm : -1152921504606846976 ≤ m ∧ m ≤ 1152921504606846976) (hl : -1152921504606846976 ≤ l ∧ l ≤ 1152921504606846976) (w : World) :
    Calls Tryz.prog 40 #[.agg #[.int .i64 m, .int .i64 l]] w fun e w' => e = .returned (.int .i64 (m + l)) ∧ Below w.heap.size w w' := by
  obtain ⟨hm, km⟩ := hm
  obtain ⟨hl, kl⟩ := hl
  go_enter Tryz.func40, Tryz.ntmps40
  go_wp2
  all_goals (go_ret; exact ⟨rfl, ba1 _ _⟩)

set_option maxHeartbeats 400000 in
theorem join_any (a b c d : Int) (w : World) :
    Calls Tryz.prog 74 #[.agg #[.int .i64 a, .int .i64 b], .agg #[.int .i64 c, .int .i64 d]] w fun e w' => e = .returned (.agg #[.int .i64 (max a c), .int .i64 (min b d)]) ∧ Below w.heap.size w w' := by
  go_enter Tryz.func74, Tryz.ntmps74
  go_wp2
  all_goals exact bodyPost_ret (v := .agg #[.int .i64 (max a c), .int .i64 (min b d)]) (by simp [results, Tryz.results74, go_sem]; try omega) rfl ⟨rfl, by first | exact ba1 _ _ | exact ba2 _ _ _ | exact ba3 _ _ _ _⟩

set_option maxHeartbeats 400000 in
theorem with_any (a b m : Int) (w : World) :
    Calls Tryz.prog 61 #[.agg #[.int .i64 a, .int .i64 b], .int .i64 m] w fun e w' => e = .returned (.agg #[.int .i64 (max a m), .int .i64 (min b m)]) ∧ Below w.heap.size w w' := by
  go_enter Tryz.func61, Tryz.ntmps61
  go_wp2_with fail
  refine (join_any _ _ _ _ _).mono ?_; rintro e w1 ⟨rfl, hb⟩
  obtain ⟨hc, hf⟩ := bcell hb
  have hz := hb.size
  simp at hz
  go_wp2_with fail
  exact bodyPost_ret (v := .agg #[.int .i64 (max a m), .int .i64 (min b m)]) (by simp [results, Tryz.results61, go_sem, hc]) rfl ⟨rfl, ((thru (ba2 _ _ _) hb).setCell (by simp <;> omega) _).setCell (by simp <;> omega) _⟩

/-! Lists that are read. -/
theorem block_of_add (a : Addr) (n : Nat) : (a.add n).block = a.block := by unfold Addr.add; split <;> rfl

/-- The numbers of a slice, below block B. -/
def Nums (w : World) (B : Nat) (A : Option Addr) (xs : List Int) : Prop :=
  ∀ k, k < xs.length → ∃ ad : Addr, A = some ad ∧ ad.block < B ∧ w.cell? (ad.add k) = some (.int .i64 (xs.getD k 0))

theorem Nums.below {w w' : World} {B : Nat} {A : Option Addr} {xs : List Int} (h : Nums w B A xs) (k : Below B w w') : Nums w' B A xs := fun i hi => by
  obtain ⟨ad, e, hb, hc⟩ := h i hi
  exact ⟨ad, e, hb, by rw [k.cell (by rw [block_of_add]; exact hb)]; exact hc⟩

theorem Nums.more {w : World} {B C : Nat} {A : Option Addr} {xs : List Int} (h : Nums w B A xs) (hc : B ≤ C) : Nums w C A xs := fun i hi => by
  obtain ⟨ad, e, hb, hx⟩ := h i hi
  exact ⟨ad, e, by omega, hx⟩

theorem Nums.thru {w w' : World} {A : Option Addr} {xs : List Int} (h : Nums w w.heap.size A xs) (k : Below w.heap.size w w') : Nums w' w'.heap.size A xs :=
  (h.below k).more k.size

def inB (n : Int) : Bool := decide (-1152921504606846976 ≤ n ∧ n ≤ 1152921504606846976)

theorem take_next (xs : List Int) (k : Nat) (h : k < xs.length) : xs.take (k + 1) = xs.take k ++ [xs.getD k 0] := by
  rw [List.take_succ_eq_append_getElem h]; simp [List.getD, h]

theorem all_out (xs : List Int) (k : Nat) (h : k < xs.length) (y : Int) (hy : y = xs.getD k 0) (hb : inB y = false) : xs.all inB = false := by
  rw [List.all_eq_false]
  refine ⟨y, ?_, by rw [hb]; simp⟩
  rw [hy]; simp [List.getD, h]

theorem ret_int {a b : Int} (h : a = b) : Ending.returned (.int .i64 a) = .returned (.int .i64 b) := by rw [h]
theorem ret_bool {a b : Bool} (h : a = b) : Ending.returned (.bool a) = .returned (.bool b) := by rw [h]

/-- The greatest one above 0, and the least one below 0. -/
def mostOf (xs : List Int) : Int := xs.foldl max 0
def leastOf (xs : List Int) : Int := xs.foldl min 0

theorem mostOf_take (xs : List Int) (k : Nat) (h : k < xs.length) : mostOf (xs.take (k + 1)) = max (mostOf (xs.take k)) (xs.getD k 0) := by
  unfold mostOf; rw [take_next xs k h, List.foldl_append]; rfl
theorem leastOf_take (xs : List Int) (k : Nat) (h : k < xs.length) : leastOf (xs.take (k + 1)) = min (leastOf (xs.take k)) (xs.getD k 0) := by
  unfold leastOf; rw [take_next xs k h, List.foldl_append]; rfl

set_option maxHeartbeats 400000 in
theorem most_any (A : Option Addr) (n c : Nat) (xs : List Int) (w : World) (hn : n = xs.length) (hlen : n ≤ 9223372036854775807) (B : Nat) (hx : Nums w B A xs) :
    Calls Tryz.prog 41 #[.slice A n c] w fun e w' => e = .returned (.int .i64 (mostOf xs)) ∧ w = w' := by
  have HX := Lib.hid hx
  have HN := Lib.hid hn
  clear hx hn
  go_enter Tryz.func41, Tryz.ntmps41
  go_wp2
  go_loop [3, 4] (fun v i => ∃ k : Nat, ∃ m : Int, k ≤ n ∧ i = .int .i64 k ∧ v = .int .i64 m ∧ m = mostOf (xs.take k)) (fun _ i => n - (intOf i).toNat)
  case atStart => exact ⟨0, 0, Nat.zero_le _, rfl, rfl, rfl⟩
  case round =>
    obtain ⟨k, m, hk, rfl, rfl, hm⟩ := hrel
    have HM := Lib.hid hm
    clear hm
    by_cases hlt : k < n
    · obtain ⟨ad, hA, _, hcx⟩ := HX.out k (by rw [← HN.out]; exact hlt)
      subst hA
      obtain ⟨y, hy⟩ : ∃ y, y = xs.getD k 0 := ⟨_, rfl⟩
      rw [← hy] at hcx
      have HY := Lib.hid hy
      clear hy
      have HS := Lib.hid (mostOf_take xs k (by rw [← HN.out]; exact hlt))
      by_cases hg : m < y
      · go_wp2
        go_round
        case rel => exact ⟨k + 1, y, by omega, by go_num, rfl, by rw [HS.out, ← HM.out, ← HY.out]; omega⟩
        case measure => simp [intOf]; omega
      · go_wp2
        go_round
        case rel => exact ⟨k + 1, m, by omega, by go_num, rfl, by rw [HS.out, ← HM.out, ← HY.out]; omega⟩
        case measure => simp [intOf]; omega
    · have hv : m = mostOf xs := by rw [HM.out, List.take_of_length_le (by rw [← HN.out]; omega)]
      have HV := Lib.hid hv
      clear hv
      go_wp2
      go_ret
      exact ⟨ret_int HV.out, rfl⟩

set_option maxHeartbeats 400000 in
theorem least_any (A : Option Addr) (n c : Nat) (xs : List Int) (w : World) (hn : n = xs.length) (hlen : n ≤ 9223372036854775807) (B : Nat) (hx : Nums w B A xs) :
    Calls Tryz.prog 42 #[.slice A n c] w fun e w' => e = .returned (.int .i64 (leastOf xs)) ∧ w = w' := by
  have HX := Lib.hid hx
  have HN := Lib.hid hn
  clear hx hn
  go_enter Tryz.func42, Tryz.ntmps42
  go_wp2
  go_loop [3, 4] (fun v i => ∃ k : Nat, ∃ m : Int, k ≤ n ∧ i = .int .i64 k ∧ v = .int .i64 m ∧ m = leastOf (xs.take k)) (fun _ i => n - (intOf i).toNat)
  case atStart => exact ⟨0, 0, Nat.zero_le _, rfl, rfl, rfl⟩
  case round =>
    obtain ⟨k, m, hk, rfl, rfl, hm⟩ := hrel
    have HM := Lib.hid hm
    clear hm
    by_cases hlt : k < n
    · obtain ⟨ad, hA, _, hcx⟩ := HX.out k (by rw [← HN.out]; exact hlt)
      subst hA
      obtain ⟨y, hy⟩ : ∃ y, y = xs.getD k 0 := ⟨_, rfl⟩
      rw [← hy] at hcx
      have HY := Lib.hid hy
      clear hy
      have HS := Lib.hid (leastOf_take xs k (by rw [← HN.out]; exact hlt))
      by_cases hg : y < m
      · go_wp2
        go_round
        case rel => exact ⟨k + 1, y, by omega, by go_num, rfl, by rw [HS.out, ← HM.out, ← HY.out]; omega⟩
        case measure => simp [intOf]; omega
      · go_wp2
        go_round
        case rel => exact ⟨k + 1, m, by omega, by go_num, rfl, by rw [HS.out, ← HM.out, ← HY.out]; omega⟩
        case measure => simp [intOf]; omega
    · have hv : m = leastOf xs := by rw [HM.out, List.take_of_length_le (by rw [← HN.out]; omega)]
      have HV := Lib.hid hv
      clear hv
      go_wp2
      go_ret
      exact ⟨ret_int HV.out, rfl⟩

end Go.Proofs.YtfomhdhiibcdfaaGreat.Strut

/-! What margins come to in the document's words; the law's own example; the walk of StrutRaw. -/
namespace Go.Proofs.YtfomhdhiibcdfaaGreat.Strut
open Go.RowKit

theorem bounds_step (xs : List Int) : ∀ p q : Int, xs.all inB = true → (0 ≤ p ∧ p ≤ 1152921504606846976) → (-1152921504606846976 ≤ q ∧ q ≤ 0) →
    (0 ≤ xs.foldl max p ∧ xs.foldl max p ≤ 1152921504606846976) ∧ (-1152921504606846976 ≤ xs.foldl min q ∧ xs.foldl min q ≤ 0) := by
  induction xs with
  | nil => intro p q _ hp hq; exact ⟨hp, hq⟩
  | cons n l ih =>
    intro p q h hp hq
    simp only [List.all_cons, Bool.and_eq_true] at h
    have hn := h.1
    unfold inB at hn
    simp at hn
    exact ih (max p n) (min q n) h.2 (by omega) (by omega)

theorem bounds_of (xs : List Int) (h : xs.all inB = true) : (0 ≤ mostOf xs ∧ mostOf xs ≤ 1152921504606846976) ∧ (-1152921504606846976 ≤ leastOf xs ∧ leastOf xs ≤ 0) :=
  bounds_step xs 0 0 h (by omega) (by omega)

theorem inB_iff {n : Int} (h : inB n = true) : -1152921504606846976 ≤ n ∧ n ≤ 1152921504606846976 := by
  unfold inB at h; simpa using h

set_option maxHeartbeats 400000 in
theorem rsum_any (A : Option Addr) (n c : Nat) (xs : List Int) (w : World) (hn : n = xs.length) (hlen : n ≤ 9223372036854775807) (B : Nat) (hx : Nums w B A xs) (hb : xs.all inB = true) :
    Calls Tryz.prog 51 #[.slice A n c] w fun e w' => e = .returned (.int .i64 (mostOf xs + leastOf xs)) ∧ w = w' := by
  obtain ⟨⟨h1, h2⟩, h3, h4⟩ := bounds_of xs hb
  have HX := Lib.hid hx
  have HN := Lib.hid hn
  clear hx hn
  go_enter Tryz.func51, Tryz.ntmps51
  go_wp2_with fail
  refine (most_any _ _ _ xs _ HN.out hlen _ HX.out).mono ?_; rintro e w1 ⟨rfl, rfl⟩
  go_wp2_with fail
  refine (least_any _ _ _ xs _ HN.out hlen _ HX.out).mono ?_; rintro e w1 ⟨rfl, rfl⟩
  go_wp2_with fail
  go_ret
  exact ⟨rfl, rfl⟩

/-! Lists that are written out. -/
theorem nums3 (w : World) (a b c : Int) : Nums (w.alloc (.cells #[.int .i64 a, .int .i64 b, .int .i64 c] 3)) (w.alloc (.cells #[.int .i64 a, .int .i64 b, .int .i64 c] 3)).heap.size (some ⟨w.heap.size, 0, none⟩) [a, b, c] := by
  intro k hk
  refine ⟨_, rfl, by simp, ?_⟩
  match k, hk with
  | 0, _ => simp [go_sem, Addr.add]
  | 1, _ => simp [go_sem, Addr.add]
  | 2, _ => simp [go_sem, Addr.add]
  | k + 3, h => (simp only [List.length_cons, List.length_nil] at h; omega)
theorem nums2 (w : World) (a b : Int) : Nums (w.alloc (.cells #[.int .i64 a, .int .i64 b] 3)) (w.alloc (.cells #[.int .i64 a, .int .i64 b] 3)).heap.size (some ⟨w.heap.size, 0, none⟩) [a, b] := by
  intro k hk
  refine ⟨_, rfl, by simp, ?_⟩
  match k, hk with
  | 0, _ => simp [go_sem, Addr.add]
  | 1, _ => simp [go_sem, Addr.add]
  | k + 2, h => (simp only [List.length_cons, List.length_nil] at h; omega)
theorem nums1 (w : World) (a : Int) : Nums (w.alloc (.cells #[.int .i64 a] 3)) (w.alloc (.cells #[.int .i64 a] 3)).heap.size (some ⟨w.heap.size, 0, none⟩) [a] := by
  intro k hk
  refine ⟨_, rfl, by simp, ?_⟩
  match k, hk with
  | 0, _ => simp [go_sem, Addr.add]
  | k + 1, h => (simp only [List.length_cons, List.length_nil] at h; omega)
theorem nums0 (w : World) (B : Nat) (A : Option Addr) : Nums w B A [] := fun k hk => by simp at hk

end Go.Proofs.YtfomhdhiibcdfaaGreat.Strut

/-! The walk of StrutTells. -/
namespace Go.Proofs.YtfomhdhiibcdfaaGreat.Strut
open Go.RowKit Go.Sort

theorem calls_same_below {P : Program} {f : FuncId} {args : Array Value} {w : World} {v : Value} (h : Calls P f args w fun e w' => e = .returned v ∧ w = w') :
    Calls P f args w fun e w' => e = .returned v ∧ Below w.heap.size w w' := h.mono fun _ _ ⟨he, hw⟩ => ⟨he, by subst hw; exact Below.refl _ _⟩

theorem most_is {A : Option Addr} {n c : Nat} {xs : List Int} {w W : World} {p : Int} {d : Nat} {os : Array Obj} (hp : mostOf xs = p) (hn : n = xs.length) (h60 : n ≤ 60) (hx : Nums w w.heap.size A xs) (hb : Below w.heap.size w W) :
    Calls Tryz.prog 41 #[.slice A n c] (grow (redrawn W d) os) fun e w' => e = .returned (.int .i64 p) ∧ Below (grow (redrawn W d) os).heap.size (grow (redrawn W d) os) w' := by
  subst hp; exact calls_same_below (most_any A n c xs _ hn (by omega) _ ((hx.thru hb).below (below_regrown _ _ _)))
theorem least_is {A : Option Addr} {n c : Nat} {xs : List Int} {w W : World} {p : Int} {d : Nat} {os : Array Obj} (hp : leastOf xs = p) (hn : n = xs.length) (h60 : n ≤ 60) (hx : Nums w w.heap.size A xs) (hb : Below w.heap.size w W) :
    Calls Tryz.prog 42 #[.slice A n c] (grow (redrawn W d) os) fun e w' => e = .returned (.int .i64 p) ∧ Below (grow (redrawn W d) os).heap.size (grow (redrawn W d) os) w' := by
  subst hp; exact calls_same_below (least_any A n c xs _ hn (by omega) _ ((hx.thru hb).below (below_regrown _ _ _)))
theorem rsum_is {A : Option Addr} {n c : Nat} {xs : List Int} {w W : World} {p q : Int} {d : Nat} {os : Array Obj} (hp : mostOf xs = p) (hq : leastOf xs = q) (hn : n = xs.length) (h60 : n ≤ 60) (hx : Nums w w.heap.size A xs) (hs : xs.all inB = true) (hb : Below w.heap.size w W) :
    Calls Tryz.prog 51 #[.slice A n c] (grow (redrawn W d) os) fun e w' => e = .returned (.int .i64 (p + q)) ∧ Below (grow (redrawn W d) os).heap.size (grow (redrawn W d) os) w' := by
  subst hp hq; exact calls_same_below (rsum_any A n c xs _ hn (by omega) _ ((hx.thru hb).below (below_regrown _ _ _)) hs)
theorem sum_is {p q : Int} (hb : (0 ≤ p ∧ p ≤ 1152921504606846976) ∧ (-1152921504606846976 ≤ q ∧ q ≤ 0)) (w : World) :
    Calls Tryz.prog 40 #[.agg #[.int .i64 p, .int .i64 q]] w fun e w' => e = .returned (.int .i64 (p + q)) ∧ Below w.heap.size w w' :=
  sum_any p q (by omega) (by omega) w

end Go.Proofs.YtfomhdhiibcdfaaGreat.Strut
