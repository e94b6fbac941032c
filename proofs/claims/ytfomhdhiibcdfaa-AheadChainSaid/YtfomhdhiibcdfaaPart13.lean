/- Texts of this proof that follow each other, in one file. -/
import Derived.Test.YtfomhdhiibcdfaaPart11
import Derived.Test.YtfomhdhiibcdfaaPart12
import Derived.Test.YtfomhdhiibcdfaaPart9
import Derived.Test.YtfomhdhiibcdfaaRows
import Derived.WalkKit
import Derived.WalkSpells
import Derived.WalkLawsBesides
import Derived.BigQuiet
import Derived.Lib.Hide
import Derived.Lib.QuietBelow
import Derived.Test.YtfomhdhiibcdfaaPart1
import Derived.Deep.DeepCutAuto
/-! What the laws of layer 15 have in common: the example, whether numbers are small, a list with one number ahead of it. -/
namespace Go.Proofs.Ytfomhdhiibcdfaa.Spot
open Go.RowKit Go.Sort Go.Proofs.Ytfomhdhiibcdfaa.Strut Go.Proofs.Ytfomhdhiibcdfaa.More
set_option linter.unusedVariables false
set_option linter.unusedSimpArgs false

theorem gwith_is {x z : Sp} {m : Int} (h : withS x m = z) (w : World) : Calls Try.prog 14 #[x.v, .int .i64 m] w fun e w' => e = .returned z.v ∧ Below w.heap.size w w' := by
  subst h; exact gwith_any x m w

theorem gat_is {x : Sp} {a : Int} (hx : FineS x) (h : atS x = a) (w : World) : Calls Try.prog 18 #[x.v] w fun e w' => e = .returned (.int .i64 a) ∧ Below w.heap.size w w' := by
  subst h; exact gat_any x hx w

def in50 (n : Int) : Bool := decide (-1125899906842624 ≤ n ∧ n ≤ 1125899906842624)

theorem in50_iff {n : Int} : in50 n = true ↔ -1125899906842624 ≤ n ∧ n ≤ 1125899906842624 := by unfold in50; simp

theorem all50_out (xs : List Int) (k : Nat) (h : k < xs.length) (y : Int) (hy : y = xs.getD k 0) (hb : in50 y = false) : xs.all in50 = false := by
  rw [List.all_eq_false]
  refine ⟨y, ?_, by rw [hb]; simp⟩
  rw [hy]; simp [List.getD, h]

theorem all50_at {xs : List Int} (h : xs.all in50 = true) (k : Nat) : -1125899906842624 ≤ xs.getD k 0 ∧ xs.getD k 0 ≤ 1125899906842624 := by
  by_cases hk : k < xs.length
  · exact in50_iff.1 (List.all_eq_true.1 h _ (by simp [List.getD, hk]))
  · simp [List.getD, List.getElem?_eq_none (Nat.le_of_not_lt hk)]

theorem all50_inB {xs : List Int} (h : xs.all in50 = true) : xs.all inB = true := by
  rw [List.all_eq_true] at h ⊢
  intro x hx
  have := in50_iff.1 (h x hx)
  unfold inB
  simp; omega

/-- Margins of such numbers come to no more. -/
theorem most50 : ∀ (xs : List Int), xs.all in50 = true → 0 ≤ Strut.mostOf xs ∧ Strut.mostOf xs ≤ 1125899906842624 := by
  intro xs
  induction xs with
  | nil => intro _; exact ⟨Int.le_refl _, by show (0 : Int) ≤ _; omega⟩
  | cons x xs ih =>
    intro h
    rw [List.all_cons, Bool.and_eq_true] at h
    have h1 := in50_iff.1 h.1
    have h2 := ih h.2
    have h3 : Strut.mostOf (x :: xs) = max (Strut.mostOf [x]) (Strut.mostOf xs) := most_append [x] xs
    have h4 : Strut.mostOf [x] = max 0 x := rfl
    omega

theorem least50 : ∀ (xs : List Int), xs.all in50 = true → -1125899906842624 ≤ Strut.leastOf xs ∧ Strut.leastOf xs ≤ 0 := by
  intro xs
  induction xs with
  | nil => intro _; exact ⟨by show _ ≤ (0 : Int); omega, Int.le_refl _⟩
  | cons x xs ih =>
    intro h
    rw [List.all_cons, Bool.and_eq_true] at h
    have h1 := in50_iff.1 h.1
    have h2 := ih h.2
    have h3 : Strut.leastOf (x :: xs) = min (Strut.leastOf [x]) (Strut.leastOf xs) := least_append [x] xs
    have h4 : Strut.leastOf [x] = min 0 x := rfl
    omega

/-- An append that its guard wants. -/
theorem wpList_append_on (w : World) {ops : Array Oper} {rest : List Oper} {o : Oper} {a : Act} {Q : Exit → Act → World → Prop} (hw : Region.wanted o (yielded ops a.tmps) = true) (s x : Operand)
    (ho : o.op = .call { callee := .builtin .append, args := #[s, x], argTypes := #[22, 22] })
    (B : Nat) (A : Option Addr) (n c : Nat) (xs : List Int) (hs : a.eval s = .slice A n c) (hown : Mine w B A n c xs) (A2 : Option Addr) (m c2 : Nat) (ys : List Int) (hx : a.eval x = .slice A2 m c2) (hsrc : Src w A2 m c2 ys)
    (hlen : n + m ≤ 1000000) (hB : B ≤ w.heap.size)
    (h : ∀ A' c' w', Appended w B A n xs ys m A' c' w' → wpList Try.prog ops Q rest (a.put o.dst (.slice A' (n + m) c')) w') : wpList Try.prog ops Q (o :: rest) a w :=
  wpList_step fun K hK => by rw [if_pos hw]; exact wp_append_mine w s x ho B A n c xs hs hown A2 m c2 ys hx hsrc hlen hB fun A' c' w' h2 => hK _ _ (h A' c' w' h2)

theorem nums_src {w : World} {B : Nat} {A : Option Addr} {n c : Nat} {xs : List Int} (h : Nums w B A xs) (hn : n = xs.length) (hz : A = none → c = 0) : Src w A n c xs :=
  ⟨hn.symm, hz, fun k hk => by obtain ⟨ad, e, -, hc⟩ := h k hk; exact ⟨ad, e, hc⟩⟩

/-- The spot behind some margins. -/
abbrev cumS (y : Int) (xs : List Int) (k : Nat) : Sp := ⟨y, Strut.mostOf (xs.take k), Strut.leastOf (xs.take k), false, false⟩

theorem all50_take {xs : List Int} (h : xs.all in50 = true) (k : Nat) : (xs.take k).all in50 = true := by
  rw [List.all_eq_true] at h ⊢
  exact fun x hx => h x (List.mem_of_mem_take hx)

theorem getD_drop (xs : List Int) (k i : Nat) : (xs.drop k).getD i 0 = xs.getD (k + i) 0 := by simp [List.getD]

/-- Five cells of a new block, written anew. -/
theorem only_putS {T : TypeId} {w : World} {g : Nat} (z x : Sp) (h : w.heap[g]? = some (.cells (sprow z).toArray T)) :
    (((((w.setCell ⟨g, 0, none⟩ (.int .i64 x.y)).setCell ⟨g, 1, none⟩ (.int .i64 x.p)).setCell ⟨g, 2, none⟩ (.int .i64 x.q)).setCell ⟨g, 3, none⟩ (.bool x.h)).setCell ⟨g, 4, none⟩ (.bool x.s)).heap[g]? = some (.cells (sprow x).toArray T) ∧
    Draw.Only g w (((((w.setCell ⟨g, 0, none⟩ (.int .i64 x.y)).setCell ⟨g, 1, none⟩ (.int .i64 x.p)).setCell ⟨g, 2, none⟩ (.int .i64 x.q)).setCell ⟨g, 3, none⟩ (.bool x.h)).setCell ⟨g, 4, none⟩ (.bool x.s)) :=
  ⟨by simp [World.setCell, Array.getElem?_modify, h], ((((Draw.Only.set g _ 0 _).trans (Draw.Only.set g _ 1 _)).trans (Draw.Only.set g _ 2 _)).trans (Draw.Only.set g _ 3 _)).trans (Draw.Only.set g _ 4 _)⟩

theorem lies_of {w : World} {b : Nat} {xs : List Value} {T : TypeId} (h : w.heap[b]? = some (.cells xs.toArray T (0, 0))) : Lies w b xs := by
  refine ⟨fun o => ?_, fun o => frozen_of_row w b o _ _ h⟩
  rw [cell_of_row w b o _ _ _ h]
  simp

/-- What an operation that only reads leaves. -/
def reads (w : World) (v : Value) : Result Next → Prop
  | .ok (.value u) w' => w' = w ∧ u = v
  | _ => False

theorem wpList_slice (w : World) {ops : Array Oper} {rest : List Oper} {o : Oper} {a : Act} {Q : Exit → Act → World → Prop} (hgd : o.guard = none) (x : Operand) (lo hi mx : Option Operand)
    (ho : o.op = .slice 22 x lo hi mx) (v : Value) (hr : reads w v ((execOp a.eval o).run Try.prog w)) (h : wpList Try.prog ops Q rest (a.put o.dst v) w) : wpList Try.prog ops Q (o :: rest) a w :=
  wpList_plain hgd fun _ hK => by
    unfold Oper.wp
    generalize (execOp a.eval o).run Try.prog w = r at *
    cases r with
    | ok nx w' =>
      cases nx <;> simp only [reads] at hr <;> simp only [Oper.upon]
      obtain ⟨rfl, rfl⟩ := hr
      exact hK _ _ h
    | halt x w' => simp only [reads] at hr

theorem one_all (y : Int) (xs : List Int) : ([y] ++ xs).all in50 = (in50 y && xs.all in50) := by simp

end Go.Proofs.Ytfomhdhiibcdfaa.Spot

/-! What a look comes to, in the document's words; how many margins it takes up on its way. No program is in it. -/
namespace Go.Proofs.Ytfomhdhiibcdfaa.Ahead
open Go.RowKit Go.Sort Go.Proofs.Ytfomhdhiibcdfaa.Record Go.Proofs.Ytfomhdhiibcdfaa.Script Go.Proofs.Ytfomhdhiibcdfaa.Tree Go.Proofs.Ytfomhdhiibcdfaa.Shelf Go.Proofs.Ytfomhdhiibcdfaa.Space Go.Proofs.Ytfomhdhiibcdfaa.Spot
set_option linter.unusedVariables false
set_option linter.unusedSimpArgs false

/-- A look: a spot, which sides' floats wait, and whether something stands there. -/
structure Rl where
  x : Rp
  l : Bool
  r : Bool
  e : Bool

/-- Does a clear clear sides? -/
abbrev clrL (c : Int) (l r : Bool) : Bool := (l && (c == 1 || c == 3)) || (r && (c == 2 || c == 3))

/-- One that stands in a box. -/
def stepK (bs : List Bx) (past : Nat → Rl → Rl) (c : Nat) (k : Rl) : Rl :=
  if (bs.getD c noB).k = 2 then { k with l := k.l || (bs.getD c noB).s == 1, r := k.r || (bs.getD c noB).s == 2 }
  else if (bs.getD c noB).k = 5 then { k with e := true }
  else if (bs.getD c noB).k = 3 then { k with x := (bif clrL (bs.getD c noB).c k.l k.r then k.x else withR k.x (bs.getD c noB).m0), e := true }
  else past c k

def goK (bs : List Bx) (past : Nat → Rl → Rl) : List Nat → Rl → Rl
  | [], k => k
  | c :: cs, k => if (stepK bs past c k).e = true then stepK bs past c k else goK bs past cs (stepK bs past c k)

def endK (b : Bx) (k : Rl) : Rl := if k.e = true then k else { k with e := decide (0 < b.e2) || decide (0 ≤ b.h) }

def intoOf (bs : List Bx) (past : Nat → Rl → Rl) (i : Nat) (k : Rl) : Rl :=
  if 0 < (bs.getD i noB).e0 then { k with x := withR k.x (bs.getD i noB).m0, e := true }
  else endK (bs.getD i noB) (goK bs past (kids (dOf bs) bs.length i) { k with x := withR k.x (bs.getD i noB).m0 })

def pastOf (bs : List Bx) (fs : List Fl) (into : Nat → Rl → Rl) (i : Nat) (k : Rl) : Rl :=
  if clrL (bs.getD i noB).c k.l k.r = true then { k with e := true }
  else if (botS fs (bs.getD i noB).c).2 = true ∧ atS (into i k).x.sp < (botS fs (bs.getD i noB).c).1 then { k with e := true }
  else if (into i k).e = true then into i k else { into i k with x := withR (into i k).x (bs.getD i noB).m2 }

/-- The look past a box, with so many boxes behind it at most; and the one into it. -/
def pastF (bs : List Bx) (fs : List Fl) : Nat → Nat → Rl → Rl
  | 0, _, k => k
  | f + 1, i, k => pastOf bs fs (intoOf bs (pastF bs fs f)) i k

abbrev intoF (bs : List Bx) (fs : List Fl) (f i : Nat) (k : Rl) : Rl := intoOf bs (pastF bs fs f) i k

/-- What a place may be asked: a Block's or a Text's. -/
def asks (bs : List Bx) (i : Int) : Bool := decide (hasT bs i) && ((boxT bs i).k == 1 || (boxT bs i).k == 4)
def intoT (bs : List Bx) (fs : List Fl) (i : Int) (k : Rl) : Rl := if (!k.e && asks bs i) = true then intoF bs fs bs.length i.toNat k else k
def pastT (bs : List Bx) (fs : List Fl) (i : Int) (k : Rl) : Rl := if (!k.e && asks bs i) = true then pastF bs fs bs.length i.toNat k else k

theorem kid_end {d : Nat → Int} {n i c : Nat} (hi : i < n) (hc : c ∈ kids d n i) : en d n c ≤ en d n i := by
  obtain ⟨h1, h2, h3⟩ := (mem_kids d n i c).1 hc
  obtain ⟨a1, a2, a3, a4⟩ := en_spec d n i hi
  obtain ⟨b1, b2, b3, b4⟩ := en_spec d n c (by omega)
  rcases Nat.lt_or_ge (en d n i) (en d n c) with h | h
  · have := b3 (en d n i) h1 h
    rcases a4 with a4 | a4 <;> omega
  · exact h

theorem kid_next {d : Nat → Int} {n i c c' : Nat} (hi : i < n) (hc : c ∈ kids d n i) (hc' : c' ∈ kids d n i) (h : c < c') : en d n c ≤ c' := by
  obtain ⟨h1, h2, h3⟩ := (mem_kids d n i c).1 hc
  obtain ⟨g1, g2, g3⟩ := (mem_kids d n i c').1 hc'
  obtain ⟨a1, a2, a3, a4⟩ := en_spec d n i hi
  obtain ⟨b1, b2, b3, b4⟩ := en_spec d n c (by omega)
  rcases Nat.lt_or_ge c' (en d n c) with q | q
  · have := b3 c' h q; omega
  · exact q

/-- No look has more margins than two for each box that it goes through. -/
structure Less (k k' : Rl) (t : Nat) : Prop where
  y : k'.x.y = k.x.y
  h : k'.x.h = k.x.h
  s : k'.x.s = k.x.s
  all : k.x.ms.all in50 = true → k'.x.ms.all in50 = true
  len : k'.x.ms.length ≤ k.x.ms.length + t

theorem Less.refl (k : Rl) : Less k k 0 := ⟨rfl, rfl, rfl, id, Nat.le_refl _⟩
theorem Less.same {k k' : Rl} (h : k'.x = k.x) : Less k k' 0 := ⟨by rw [h], by rw [h], by rw [h], by rw [h]; exact id, by rw [h]; exact Nat.le_refl _⟩
theorem Less.trans {k k' k'' : Rl} {s t : Nat} (h : Less k k' s) (g : Less k' k'' t) : Less k k'' (s + t) :=
  ⟨g.y.trans h.y, g.h.trans h.h, g.s.trans h.s, fun q => g.all (h.all q), by have := h.len; have := g.len; omega⟩
theorem Less.more {k k' : Rl} {s t : Nat} (h : Less k k' s) (hst : s ≤ t) : Less k k' t := ⟨h.y, h.h, h.s, h.all, by have := h.len; omega⟩
theorem Less.with {k k' : Rl} {m : Int} (h : k'.x = withR k.x m) (hm : in50 m = true) : Less k k' 1 :=
  ⟨by rw [h], by rw [h], by rw [h], fun q => by rw [h, List.all_append, q]; simp [hm], by rw [h]; simp⟩

/-- All margins are small. -/
def Marg (bs : List Bx) : Prop := ∀ i, i < bs.length → in50 (bs.getD i noB).m0 = true ∧ in50 (bs.getD i noB).m2 = true

section
variable {bs : List Bx} {fs : List Fl} {past : Nat → Rl → Rl}

theorem step_less (hm : Marg bs) (c : Nat) (hc : c < bs.length) (hp : ∀ k, Less k (past c k) (2 * (en (dOf bs) bs.length c - c))) (k : Rl) : Less k (stepK bs past c k) (2 * (en (dOf bs) bs.length c - c)) := by
  have he := (en_spec (dOf bs) bs.length c hc).1
  unfold stepK
  split
  · exact Less.more (s := 0) (by exact Less.same rfl) (Nat.zero_le _)
  · split
    · exact Less.more (s := 0) (by exact Less.same rfl) (Nat.zero_le _)
    · split
      · cases clrL (bs.getD c noB).c k.l k.r
        · exact (Less.with rfl (hm c hc).1).more (by omega)
        · exact Less.more (s := 0) (by exact Less.same rfl) (Nat.zero_le _)
      · exact hp k

theorem go_less (hm : Marg bs) (i : Nat) (hi : i < bs.length) (hp : ∀ c, i < c → c < bs.length → ∀ k, Less k (past c k) (2 * (en (dOf bs) bs.length c - c))) :
    ∀ (cs : List Nat) (lo : Nat) (k : Rl), cs.Pairwise (· < ·) → (∀ c ∈ cs, c ∈ kids (dOf bs) bs.length i ∧ lo ≤ c) → lo ≤ en (dOf bs) bs.length i → Less k (goK bs past cs k) (2 * (en (dOf bs) bs.length i - lo))
  | [], lo, k, _, _, _ => (Less.refl k).more (Nat.zero_le _)
  | c :: cs, lo, k, hs, hc, hlo => by
    obtain ⟨hk, hl⟩ := hc c (List.mem_cons_self ..)
    obtain ⟨h1, h2, -⟩ := (mem_kids _ _ _ _).1 hk
    have he := kid_end hi hk
    have hn := (en_spec (dOf bs) bs.length i hi).2.1
    have hce := (en_spec (dOf bs) bs.length c (by omega)).1
    have hst := step_less (past := past) hm c (by omega) (hp c h2 (by omega)) k
    have hpw := List.pairwise_cons.1 hs
    unfold goK
    split
    · exact hst.more (by omega)
    · exact (hst.trans (go_less hm i hi hp cs (en (dOf bs) bs.length c) _ hpw.2 (fun c' hc' => ⟨(hc c' (List.mem_cons_of_mem _ hc')).1, kid_next hi hk (hc c' (List.mem_cons_of_mem _ hc')).1 (hpw.1 c' hc')⟩) he)).more (by omega)

theorem end_less (b : Bx) (k : Rl) : Less k (endK b k) 0 := by
  unfold endK
  split
  · exact Less.refl k
  · exact Less.same rfl

theorem into_less (hm : Marg bs) (i : Nat) (hi : i < bs.length) (hp : ∀ c, i < c → c < bs.length → ∀ k, Less k (past c k) (2 * (en (dOf bs) bs.length c - c))) (k : Rl) :
    Less k (intoOf bs past i k) (2 * (en (dOf bs) bs.length i - i) - 1) := by
  have he := (en_spec (dOf bs) bs.length i hi).1
  have h1 : Less k { k with x := withR k.x (bs.getD i noB).m0 } 1 := Less.with rfl (hm i hi).1
  unfold intoOf
  split
  · exact (Less.with (k' := { k with x := withR k.x (bs.getD i noB).m0, e := true }) rfl (hm i hi).1).more (by omega)
  · exact ((h1.trans (go_less hm i hi hp (kids (dOf bs) bs.length i) (i + 1) _ (kids_sorted _ _ _) (fun c hc => ⟨hc, by have := ((mem_kids _ _ _ _).1 hc).2.1; omega⟩) (by omega))).trans (end_less _ _)).more (by omega)

theorem past_less (hm : Marg bs) : ∀ (f i : Nat), i < bs.length → bs.length - i ≤ f → ∀ k, Less k (pastF bs fs f i k) (2 * (en (dOf bs) bs.length i - i))
  | 0, i, hi, hf, _ => by omega
  | f + 1, i, hi, hf, k => by
    have he := (en_spec (dOf bs) bs.length i hi).1
    have hin := into_less (past := pastF bs fs f) hm i hi (fun c h1 h2 => past_less hm f c h2 (by omega)) k
    unfold pastF pastOf
    split
    · exact Less.more (s := 0) (by exact Less.same rfl) (Nat.zero_le _)
    · split
      · exact Less.more (s := 0) (by exact Less.same rfl) (Nat.zero_le _)
      · split
        · exact hin.more (by omega)
        · exact (hin.trans (Less.with (k' := { intoOf bs (pastF bs fs f) i k with x := withR (intoOf bs (pastF bs fs f) i k).x (bs.getD i noB).m2 }) rfl (hm i hi).2)).more (by omega)

theorem intoF_less (hm : Marg bs) (f i : Nat) (hi : i < bs.length) (hf : bs.length - i ≤ f + 1) (k : Rl) : Less k (intoF bs fs f i k) (2 * (en (dOf bs) bs.length i - i) - 1) :=
  into_less hm i hi (fun c h1 h2 => past_less hm f c h2 (by omega)) k

end

/-- A look whose numbers are small, with so many margins at most. -/
def Slim (t : Nat) (k : Rl) : Prop := (-2251799813685248 ≤ k.x.y ∧ k.x.y ≤ 2251799813685248) ∧ k.x.ms.all in50 = true ∧ k.x.ms.length ≤ t
theorem Slim.fine {t : Nat} {k : Rl} (h : Slim t k) (ht : t ≤ 1000) : FineR k.x := ⟨by have := h.1; omega, all50_inB h.2.1, by have := h.2.2; omega⟩
theorem Slim.less {t s u : Nat} {k k' : Rl} (h : Slim t k) (g : Less k k' s) (hu : t + s ≤ u) : Slim u k' :=
  ⟨by rw [g.y]; exact h.1, g.all h.2.1, by have := g.len; have := h.2.2; omega⟩

end Go.Proofs.Ytfomhdhiibcdfaa.Ahead

/-! The contracts of rect's small functions, of the document's, and of the law's own conversion. -/
namespace Go.Proofs.Ytfomhdhiibcdfaa.Rect
open Go.RowKit

theorem ba1 (w : World) (o : Obj) : Below w.heap.size w (w.alloc o) := (Below.refl _ _).alloc (Nat.le_refl _) o
theorem ba2 (w : World) (o p : Obj) : Below w.heap.size w ((w.alloc o).alloc p) := (ba1 w o).alloc (by simp) p
theorem ba3 (w : World) (o p q : Obj) : Below w.heap.size w (((w.alloc o).alloc p).alloc q) := (ba2 w o p).alloc (by simp; omega) q

set_option maxHeartbeats 400000 in
theorem columns_any (l t r b : Int) (w : World) :
    Calls Try.prog 81 #[.agg #[.int .i64 l, .int .i64 t, .int .i64 r, .int .i64 b]] w fun e w' => e = .returned (.agg #[.int .i64 l, .int .i64 r]) ∧ Below w.heap.size w w' := by
  go_enter Try.func81, Try.ntmps81
  go_wp2
  all_goals exact bodyPost_ret (v := .agg #[.int .i64 l, .int .i64 r]) (by simp [results, Try.results81, go_sem]) rfl ⟨rfl, by first | exact ba1 _ _ | exact ba2 _ _ _ | exact ba3 _ _ _ _⟩

set_option maxHeartbeats 400000 in
theorem rows_any (l t r b : Int) (w : World) :
    Calls Try.prog 63 #[.agg #[.int .i64 l, .int .i64 t, .int .i64 r, .int .i64 b]] w fun e w' => e = .returned (.agg #[.int .i64 t, .int .i64 b]) ∧ Below w.heap.size w w' := by
  go_enter Try.func63, Try.ntmps63
  go_wp2
  all_goals exact bodyPost_ret (v := .agg #[.int .i64 t, .int .i64 b]) (by simp [results, Try.results63, go_sem]) rfl ⟨rfl, by first | exact ba1 _ _ | exact ba2 _ _ _ | exact ba3 _ _ _ _⟩

set_option maxHeartbeats 400000 in
theorem of_any (x0 x1 x2 x3 : Int) (w : World) :
    Calls Try.prog 39 #[.agg #[.int .i64 x0, .int .i64 x1, .int .i64 x2, .int .i64 x3]] w fun e w' => e = .returned (.agg #[.int .i64 x0, .int .i64 x1, .int .i64 x2, .int .i64 x3]) ∧ Below w.heap.size w w' := by
  go_enter Try.func39, Try.ntmps39
  go_wp2
  all_goals exact bodyPost_ret (v := .agg #[.int .i64 x0, .int .i64 x1, .int .i64 x2, .int .i64 x3]) (by simp [results, Try.results39, go_sem]) rfl ⟨rfl, by first | exact ba1 _ _ | exact ba2 _ _ _ | exact ba3 _ _ _ _⟩

set_option maxHeartbeats 400000 in
theorem some_any (a b : Int) (w : World) :
    Calls Try.prog 82 #[.agg #[.int .i64 a, .int .i64 b]] w fun e w' => e = .returned (.bool (decide (a < b))) ∧ Below w.heap.size w w' := by
  go_enter Try.func82, Try.ntmps82
  go_wp2
  all_goals (go_ret; exact ⟨by simp [*] <;> omega, by first | exact ba1 _ _ | exact ba2 _ _ _⟩)

end Go.Proofs.Ytfomhdhiibcdfaa.Rect

/-! The contracts of what rect and the document make of two rectangles. -/
namespace Go.Proofs.Ytfomhdhiibcdfaa.Rect
open Go.RowKit Go.Sort

theorem bcell {W w1 : World} (hb : Below W.heap.size W w1) : (∀ b o, b < W.heap.size → w1.cell? ⟨b, o, none⟩ = W.cell? ⟨b, o, none⟩) ∧ (∀ b o, b < W.heap.size → w1.frozen? ⟨b, o, none⟩ = W.frozen? ⟨b, o, none⟩) :=
  ⟨fun b o h => hb.cell (p := ⟨b, o, none⟩) h, fun b o h => hb.frozen (p := ⟨b, o, none⟩) h⟩

theorem thru {w W w1 : World} (h1 : Below w.heap.size w W) (h2 : Below W.heap.size W w1) : Below w.heap.size w w1 := h1.trans (h2.mono h1.size)

theorem calls_same_below {P : Program} {f : FuncId} {args : Array Value} {w : World} {v : Value} (h : Calls P f args w fun e w' => e = .returned v ∧ w = w') :
    Calls P f args w fun e w' => e = .returned v ∧ Below w.heap.size w w' := h.mono fun _ _ ⟨he, hw⟩ => ⟨he, by subst hw; exact Below.refl _ _⟩

theorem some_is (a b : Int) (v : Bool) (hv : decide (a < b) = v) (w : World) :
    Calls Try.prog 82 #[.agg #[.int .i64 a, .int .i64 b]] w fun e w' => e = .returned (.bool v) ∧ Below w.heap.size w w' := by
  subst hv; exact some_any a b w

set_option maxHeartbeats 400000 in
theorem full_is (l t r b : Int) (v : Bool) (hv : (decide (l < r) && decide (t < b)) = v) (w : World) :
    Calls Try.prog 61 #[.agg #[.int .i64 l, .int .i64 t, .int .i64 r, .int .i64 b]] w fun e w' => e = .returned (.bool v) ∧ Below w.heap.size w w' := by
  obtain ⟨p, hp⟩ : ∃ p : Bool, decide (l < r) = p := ⟨_, rfl⟩
  obtain ⟨q, hq⟩ : ∃ q : Bool, decide (t < b) = q := ⟨_, rfl⟩
  rw [hp, hq] at hv
  subst hv
  have HP := Lib.hid hp
  have HQ := Lib.hid hq
  clear hp hq
  cases p
  all_goals
    go_enter Try.func61, Try.ntmps61
    go_wp2_with fail
    refine (columns_any _ _ _ _ _).mono ?_; rintro e w1 ⟨rfl, b1⟩
    obtain ⟨c1, f1⟩ := bcell b1
    go_wp2_with fail
    refine (some_is _ _ _ HP.out _).mono ?_; rintro e w2 ⟨rfl, b2⟩
    replace b2 := thru b1 b2
    clear b1 c1 f1
    obtain ⟨c2, f2⟩ := bcell b2
    go_wp2_with fail
  · go_ret
    exact ⟨rfl, thru (ba1 _ _) b2⟩
  · refine (rows_any _ _ _ _ _).mono ?_; rintro e w3 ⟨rfl, b3⟩
    replace b3 := thru b2 b3
    clear b2 c2 f2
    go_wp2_with fail
    refine (some_is _ _ _ HQ.out _).mono ?_; rintro e w4 ⟨rfl, b4⟩
    replace b4 := thru b3 b4
    clear b3
    go_wp2_with fail
    go_ret
    exact ⟨by simp, thru (ba1 _ _) b4⟩

end Go.Proofs.Ytfomhdhiibcdfaa.Rect

/-! The contract of the document's look at numbers: whether all lie within its bounds. -/
namespace Go.Proofs.Ytfomhdhiibcdfaa.Rect
open Go.RowKit Go.Sort

def inB (n : Int) : Bool := decide (-1152921504606846976 ≤ n ∧ n ≤ 1152921504606846976)

theorem take_next (xs : List Int) (k : Nat) (h : k < xs.length) : xs.take (k + 1) = xs.take k ++ [xs.getD k 0] := by
  rw [List.take_succ_eq_append_getElem h]; simp [List.getD, h]

theorem all_out (xs : List Int) (k : Nat) (h : k < xs.length) (y : Int) (hy : y = xs.getD k 0) (hb : inB y = false) : xs.all inB = false := by
  rw [List.all_eq_false]
  refine ⟨y, ?_, by rw [hb]; simp⟩
  rw [hy]; simp [List.getD, h]

theorem ret_bool {a b : Bool} (h : a = b) : Ending.returned (.bool a) = .returned (.bool b) := by rw [h]

end Go.Proofs.Ytfomhdhiibcdfaa.Rect

/-! A law on regions that draw their order, over any program: operations that only read, callees that only make memory, and new blocks, in whichever order, ahead of a forced tail: what each leaves is listed once. -/
namespace Go.Proofs.Ytfomhdhiibcdfaa.Rect
open Go.RowKit Go.Sort

/-- What an operation leaves: a value, or a new block. -/
inductive Yield where
  | val (v : Value)
  | box (o : Obj)

def Yield.value (y : Yield) (g : Nat) : Value := match y with
  | .val v => v
  | .box _ => .pointer (some ⟨g, 0, none⟩)
def Yield.isBox : Yield → Bool
  | .val _ => false
  | .box _ => true

section
variable {P : Program}

/-- What is asked of an operation that leaves the value v: that it only reads, or that its callee only makes memory. -/
def stays (P : Program) (w : World) (v : Value) : Result Next → Prop
  | .ok (.value u) w' => w' = w ∧ u = v
  | .ok (.enter f args) w' => w' = w ∧ Calls P f args w (fun e w'' => e = .returned v ∧ Below w.heap.size w w'')
  | _ => False

theorem stays_call {w : World} {v : Value} {f : FuncId} {args : Array Value} (h : Calls P f args w (fun e w'' => e = .returned v ∧ Below w.heap.size w w'')) : stays P w v (.ok (.enter f args) w) := ⟨rfl, h⟩
theorem stays_val {w : World} {v : Value} : stays P w v (.ok (.value v) w) := ⟨rfl, rfl⟩

def yields (P : Program) (o : Oper) (F : Act) (W : World) : Yield → Prop
  | .val v => ∀ w, Below W.heap.size W w → stays P w v ((execOp F.eval o).run P w)
  | .box b => ∀ w, (execOp F.eval o).run P w = .ok (.value (.pointer (some ⟨w.heap.size, 0, none⟩))) (w.alloc b)

def allYield (P : Program) (F : Act) (W : World) : List Oper → List Yield → Prop
  | o :: os, y :: ys => yields P o F W y ∧ allYield P F W os ys
  | _, _ => True

theorem allYield_at {F : Act} {W : World} : ∀ {os : List Oper} {ys : List Yield} {i : Nat} {o : Oper} {y : Yield}, allYield P F W os ys → os[i]? = some o → ys[i]? = some y → yields P o F W y
  | o :: os, y :: ys, 0, _, _, h, h1, h2 => by
    simp only [List.getElem?_cons_zero, Option.some.injEq] at h1 h2; subst h1 h2; exact h.1
  | o :: os, y :: ys, i + 1, _, _, h, h1, h2 => by
    simp only [List.getElem?_cons_succ] at h1 h2; exact allYield_at h.2 h1 h2
  | [], _, _, _, _, _, h1, _ => by simp at h1
  | _ :: _, [], _, _, _, _, _, h2 => by simp at h2

/-- The frame with all that was left. -/
def fill (g : Nat → Nat) : Nat → List Oper → List Yield → Act → Act
  | k, o :: os, y :: ys, a => fill g (k + 1) os ys (a.put o.dst (y.value (g k)))
  | _, _, _, a => a

theorem put_size (a : Act) (d : Option Tmp) (v : Value) : (a.put d v).tmps.size = a.tmps.size := by cases d <;> simp [Act.put]
theorem put_defers (a : Act) (d : Option Tmp) (v : Value) : (a.put d v).defers = a.defers := by cases d <;> rfl
theorem put_slot (a : Act) (d : Tmp) (v : Value) (h : d < a.tmps.size) : (a.put (some d) v).tmps.getD d undef = v := by simp [Act.put, h]
theorem put_other (a : Act) (d : Option Tmp) (v : Value) (t : Tmp) (h : d ≠ some t) : (a.put d v).tmps.getD t undef = a.tmps.getD t undef := by
  cases d with
  | none => rfl
  | some d =>
    have hne : d ≠ t := fun e => h (by rw [e])
    simp [Act.put, Array.getElem?_setIfInBounds_ne hne]

theorem fill_size (g : Nat → Nat) : ∀ (k : Nat) (os : List Oper) (ys : List Yield) (a : Act), (fill g k os ys a).tmps.size = a.tmps.size
  | k, o :: os, y :: ys, a => by rw [fill, fill_size g (k + 1) os ys, put_size]
  | _, [], _, _ => rfl
  | _, _ :: _, [], _ => rfl
theorem fill_defers (g : Nat → Nat) : ∀ (k : Nat) (os : List Oper) (ys : List Yield) (a : Act), (fill g k os ys a).defers = a.defers
  | k, o :: os, y :: ys, a => by rw [fill, fill_defers g (k + 1) os ys, put_defers]
  | _, [], _, _ => rfl
  | _, _ :: _, [], _ => rfl
theorem fill_other (g : Nat → Nat) (t : Tmp) : ∀ (k : Nat) (os : List Oper) (ys : List Yield) (a : Act), (∀ i o, i < ys.length → os[i]? = some o → o.dst ≠ some t) → (fill g k os ys a).tmps.getD t undef = a.tmps.getD t undef
  | k, o :: os, y :: ys, a, h => by
    rw [fill, fill_other g t (k + 1) os ys _ (fun i o hi ho => h (i + 1) o (by simp; omega) (by simpa using ho)), put_other _ _ _ _ (h 0 o (by simp) rfl)]
  | _, [], _, _, _ => rfl
  | _, _ :: _, [], _, _ => rfl
theorem fill_slot (g : Nat → Nat) (d : Tmp) : ∀ (k : Nat) (os : List Oper) (ys : List Yield) (a : Act) (i : Nat) (o : Oper) (y : Yield), d < a.tmps.size → os[i]? = some o → ys[i]? = some y → o.dst = some d →
    (∀ j p, j < ys.length → j ≠ i → os[j]? = some p → p.dst ≠ some d) → (fill g k os ys a).tmps.getD d undef = y.value (g (k + i))
  | k, o :: os, y :: ys, a, 0, _, _, hd, ho, hy, hdst, hne => by
    simp only [List.getElem?_cons_zero, Option.some.injEq] at ho hy
    subst ho hy
    rw [fill, fill_other g d (k + 1) os ys _ (fun i p hi hp => hne (i + 1) p (by simp; omega) (by omega) (by simpa using hp)), hdst, put_slot _ _ _ hd]
    rfl
  | k, o :: os, y :: ys, a, i + 1, o', y', hd, ho, hy, hdst, hne => by
    simp only [List.getElem?_cons_succ] at ho hy
    rw [fill, fill_slot g d (k + 1) os ys _ i o' y' (by rw [put_size]; exact hd) ho hy hdst (fun j p hj hji hp => hne (j + 1) p (by simp; omega) (by omega) (by simpa using hp))]
    congr 2
    omega
  | _, [], _, _, _, _, _, _, ho, _, _, _ => by simp at ho
  | _, _ :: _, [], _, _, _, _, _, _, hy, _, _ => by simp at hy

/-- What is asked of a region's text: of its first operations, that each writes a slot of its own and looks only at what it waits for, and at no new block. -/
def headB (l : List Oper) (bx : List Bool) (size : Nat) : Bool :=
  (List.range bx.length).all fun i => match l[i]? with
    | none => false
    | some o => o.guard.isNone && (match o.dst with | none => false | some d => decide (d < size)) && (o.after.all fun e => !Region.binds .any e || decide (e.on < i)) &&
      (List.range bx.length).all fun j => match l[j]? with
        | none => false
        | some p => (decide (i = j) || p.dst != o.dst) &&
          (match p.dst with | none => false | some d => !(o.looksAt l.toArray).contains d || (o.after.any (fun e => Region.binds .any e && e.on == j) && !(bx.getD j true)))

structure HeadOk (l : List Oper) (bx : List Bool) (size : Nat) : Prop where
  guard : ∀ i o, i < bx.length → l[i]? = some o → o.guard = none
  dst : ∀ i o, i < bx.length → l[i]? = some o → ∃ d, o.dst = some d ∧ d < size
  back : ∀ i o, i < bx.length → l[i]? = some o → ∀ e ∈ o.after, Region.binds .any e = true → e.on < i
  apart : ∀ i j o p, i < bx.length → j < bx.length → l[i]? = some o → l[j]? = some p → i ≠ j → p.dst ≠ o.dst
  looks : ∀ i j o p d, i < bx.length → j < bx.length → l[i]? = some o → l[j]? = some p → p.dst = some d → d ∈ o.looksAt l.toArray → (∃ e ∈ o.after, Region.binds .any e = true ∧ e.on = j) ∧ bx.getD j true = false
  there : ∀ i, i < bx.length → ∃ o, l[i]? = some o

theorem headOk {l : List Oper} {bx : List Bool} {size : Nat} (h : headB l bx size = true) : HeadOk l bx size := by
  have key : ∀ i, i < bx.length → ∃ o, l[i]? = some o ∧ o.guard = none ∧ (∃ d, o.dst = some d ∧ d < size) ∧ (∀ e ∈ o.after, Region.binds .any e = true → e.on < i) ∧
      ∀ j, j < bx.length → ∃ p, l[j]? = some p ∧ (i ≠ j → p.dst ≠ o.dst) ∧ ∀ d, p.dst = some d → d ∈ o.looksAt l.toArray → (∃ e ∈ o.after, Region.binds .any e = true ∧ e.on = j) ∧ bx.getD j true = false := by
    intro i hi
    have h1 := List.all_eq_true.1 h i (List.mem_range.2 hi)
    cases ho : l[i]? with
    | none => rw [ho] at h1; cases h1
    | some o =>
      simp only [ho, Bool.and_eq_true] at h1
      obtain ⟨⟨⟨h2, h3⟩, h4⟩, h5⟩ := h1
      refine ⟨o, rfl, by simpa using h2, ?_, ?_, ?_⟩
      · cases hd : o.dst with
        | none => rw [hd] at h3; cases h3
        | some d => rw [hd] at h3; exact ⟨d, rfl, by simpa using h3⟩
      · intro e he hb
        have := Array.all_eq_true'.1 h4 e he
        simpa [hb] using this
      · intro j hj
        have h6 := List.all_eq_true.1 h5 j (List.mem_range.2 hj)
        cases hp : l[j]? with
        | none => rw [hp] at h6; cases h6
        | some p =>
          simp only [hp, Bool.and_eq_true] at h6
          obtain ⟨h7, h8⟩ := h6
          refine ⟨p, rfl, fun hij => ?_, fun d hd hm => ?_⟩
          · have : (p.dst != o.dst) = true := by simpa [hij] using h7
            simpa using this
          · rw [hd] at h8
            have hc : (o.looksAt l.toArray).contains d = true := by simpa using hm
            simp only [hc, Bool.not_true, Bool.false_or, Bool.and_eq_true] at h8
            obtain ⟨h9, h10⟩ := h8
            obtain ⟨e, he, he2⟩ := Array.any_eq_true'.1 h9
            simp only [Bool.and_eq_true, beq_iff_eq] at he2
            exact ⟨⟨e, he, he2⟩, by simpa using h10⟩
  refine ⟨?_, ?_, ?_, ?_, ?_, ?_⟩
  · intro i o hi ho; obtain ⟨o', ho', h1, _⟩ := key i hi; rw [ho] at ho'; cases ho'; exact h1
  · intro i o hi ho; obtain ⟨o', ho', _, h1, _⟩ := key i hi; rw [ho] at ho'; cases ho'; exact h1
  · intro i o hi ho; obtain ⟨o', ho', _, _, h1, _⟩ := key i hi; rw [ho] at ho'; cases ho'; exact h1
  · intro i j o p hi hj ho hp hij; obtain ⟨o', ho', _, _, _, h1⟩ := key i hi; rw [ho] at ho'; cases ho'
    obtain ⟨p', hp', h2, _⟩ := h1 j hj; rw [hp] at hp'; cases hp'; exact h2 hij
  · intro i j o p d hi hj ho hp hd hm; obtain ⟨o', ho', _, _, _, h1⟩ := key i hi; rw [ho] at ho'; cases ho'
    obtain ⟨p', hp', _, h2⟩ := h1 j hj; rw [hp] at hp'; cases hp'; exact h2 d hd hm
  · intro i hi; obtain ⟨o', ho', _⟩ := key i hi; exact ⟨o', ho'⟩

/-- The state of the region's head. -/
structure Boxing (l : List Oper) (ys : List Yield) (a0 : Act) (W : World) (g : Nat → Nat) (listed : Array Bool) (a : Act) (w : World) : Prop where
  size : a.tmps.size = a0.tmps.size
  defers : a.defers = a0.defers
  below : Below W.heap.size W w
  other : ∀ t, (∀ i o, i < ys.length → l[i]? = some o → listed.getD i false = true → o.dst ≠ some t) → a.tmps.getD t undef = a0.tmps.getD t undef
  slot : ∀ i o y d, l[i]? = some o → ys[i]? = some y → listed.getD i false = true → o.dst = some d → a.tmps.getD d undef = y.value (g i)
  boxes : ∀ i b, ys[i]? = some (.box b) → listed.getD i false = true → W.heap.size ≤ g i ∧ w.heap[g i]? = some b
  apart : ∀ i j b c, i ≠ j → ys[i]? = some (.box b) → ys[j]? = some (.box c) → listed.getD i false = true → listed.getD j false = true → g i ≠ g j

theorem getD_set_cases {listed : Array Bool} {i j : Nat} (h : (listed.setIfInBounds i true).getD j false = true) : j = i ∨ listed.getD j false = true := by
  by_cases hji : i = j
  · exact .inl hji.symm
  · rw [getD_set_ne false hji] at h; exact .inr h

theorem Yield.value_val {y : Yield} (h : y.isBox = false) (g g' : Nat) : y.value g = y.value g' := by cases y <;> first | rfl | cases h

variable {l : List Oper} {ys : List Yield} {a0 : Act} {W : World}

theorem eval_tmp (a : Act) (t : Tmp) : a.eval (.tmp t) = a.tmps.getD t undef := rfl

/-- An operation whose turn it is does in the frame at hand what it does in the full one. -/
theorem Boxing.same {g g' : Nat → Nat} {listed : Array Bool} {a : Act} {w : World} (ok : HeadOk l (ys.map Yield.isBox) a0.tmps.size) (h : Boxing l ys a0 W g listed a w) (hs : Region.noSelect l.toArray = true) {i : Nat} {o : Oper} (hi : i < ys.length) (ho : l[i]? = some o)
    (hd : ∀ e ∈ o.after, Region.binds .any e = true → listed.getD e.on false = true) : execOp a.eval o = execOp (fill g' 0 l ys a0).eval o := by
  have hsel : ∀ cs b, o.op ≠ .select cs b := fun cs b => Region.noSelect_spec hs i o cs b (by simpa using ho)
  refine execOp_congr o hsel fun x hx => ?_
  cases x with
  | tmp t =>
    have hm : t ∈ o.looksAt l.toArray := List.mem_append_left _ (List.mem_filterMap.2 ⟨.tmp t, by simpa using hx, rfl⟩)
    rw [eval_tmp, eval_tmp]
    by_cases hex : ∃ j p, j < ys.length ∧ l[j]? = some p ∧ p.dst = some t
    · obtain ⟨j, p, hj, hp, hpt⟩ := hex
      obtain ⟨⟨e, he, hb, hon⟩, hbx⟩ := ok.looks i j o p t (by simpa using hi) (by simpa using hj) ho hp hpt hm
      have hlj : listed.getD j false = true := by rw [← hon]; exact hd e he hb
      have hy : ys[j]? = some ys[j] := by simp [hj]
      have hbx' : (ys[j]).isBox = false := by simpa [hj] using hbx
      obtain ⟨d, hd1, hd2⟩ := ok.dst j p (by simpa using hj) hp
      have htd : t = d := by rw [hd1] at hpt; exact (Option.some.inj hpt).symm
      rw [h.slot j p _ t hp hy hlj hpt, fill_slot g' t 0 l ys a0 j p _ (by rw [htd]; exact hd2) hp hy hpt (fun k q hk hkj hq e => ok.apart j k p q (by simpa using hj) (by simpa using hk) hp hq (Ne.symm hkj) (by rw [e, hpt]))]
      exact Yield.value_val hbx' _ _
    · rw [h.other t (fun j p hj hp _ e => hex ⟨j, p, hj, hp, e⟩), fill_other g' t 0 l ys a0 (fun j p hj hp e => hex ⟨j, p, hj, hp, e⟩)]
  | _ => rfl

theorem Boxing.step {g g' : Nat → Nat} {listed : Array Bool} {a : Act} {w : World} {Q : Exit → Act → World → Prop} (ok : HeadOk l (ys.map Yield.isBox) a0.tmps.size) (h : Boxing l ys a0 W g listed a w) (hs : Region.noSelect l.toArray = true)
    (hall : allYield P (fill g' 0 l ys a0) W l ys) (hsz : listed.size = l.toArray.size) {i : Nat} (hi : i < ys.length) (hr : i ∈ Region.ready .any l.toArray listed) :
    wpOp P l.toArray Q i (fun a' w' => ∃ g, Boxing l ys a0 W g (listed.setIfInBounds i true) a' w') a w := by
  obtain ⟨hun, o, ho, hdep⟩ := mem_ready.1 hr
  have ho' : l[i]? = some o := by simpa using ho
  have hy : ys[i]? = some ys[i] := by simp [hi]
  obtain ⟨d, hd1, hd2⟩ := ok.dst i o (by simpa using hi) ho'
  have hg := ok.guard i o (by simpa using hi) ho'
  have hw : Region.wanted o (yielded l.toArray a.tmps) = true := by simp [Region.wanted, hg]
  have hsame := h.same (g' := g') ok hs hi ho' hdep
  have hY := allYield_at hall ho' hy
  have hun' : listed.getD i false = false := getD_both hun
  have hin : i < listed.size := by
    rw [hsz]; simpa using (List.getElem?_eq_some_iff.1 ho').1
  have hset : (listed.setIfInBounds i true).getD i false = true := by simp [hin]
  -- what the frame is behind it
  have size' : ∀ v, (a.put o.dst v).tmps.size = a0.tmps.size := fun v => by rw [put_size, h.size]
  have other' : ∀ v t, (∀ j p, j < ys.length → l[j]? = some p → (listed.setIfInBounds i true).getD j false = true → p.dst ≠ some t) → (a.put o.dst v).tmps.getD t undef = a0.tmps.getD t undef := by
    intro v t ht
    rw [put_other _ _ _ _ (ht i o hi ho' hset)]
    refine h.other t fun j p hj hp hl => ht j p hj hp ?_
    by_cases hij : i = j
    · subst hij; rw [hun'] at hl; cases hl
    · rw [getD_set_ne false hij]; exact hl
  have slot' : ∀ (gg : Nat → Nat) (v : Value), v = (ys[i]).value (gg i) → (∀ j, j ≠ i → gg j = g j) → ∀ j p y t, l[j]? = some p → ys[j]? = some y → (listed.setIfInBounds i true).getD j false = true → p.dst = some t →
      (a.put o.dst v).tmps.getD t undef = y.value (gg j) := by
    intro gg v hv hgg j p y t hp hyj hl ht
    by_cases hij : j = i
    · subst hij
      rw [ho'] at hp; cases hp
      rw [hy] at hyj; cases hyj
      rw [hd1] at ht; cases ht
      rw [hd1, put_slot _ _ _ (by rw [h.size]; exact hd2), hv]
    · rcases getD_set_cases hl with e | hl'
      · exact absurd e hij
      · have hj : j < ys.length := (List.getElem?_eq_some_iff.1 hyj).1
        rw [put_other _ _ _ _ (fun e => ok.apart j i p o (by simpa using hj) (by simpa using hi) hp ho' hij (by rw [e, ht])), h.slot j p y t hp hyj hl' ht, hgg j hij]
  -- boxes stay under a world that only grows
  have boxes' : ∀ (w' : World), Below w.heap.size w w' → (∀ b, ys[i]? ≠ some (.box b)) → ∀ j b, ys[j]? = some (.box b) → (listed.setIfInBounds i true).getD j false = true → W.heap.size ≤ g j ∧ w'.heap[g j]? = some b := by
    intro w' hb hnb j b hyj hl
    rcases getD_set_cases hl with e | hl'
    · subst e; exact absurd hyj (hnb b)
    · obtain ⟨h1, h2⟩ := h.boxes j b hyj hl'
      exact ⟨h1, by rw [hb.block _ (lt_of_block h2)]; exact h2⟩
  have apart' : (∀ b, ys[i]? ≠ some (.box b)) → ∀ j k b c, j ≠ k → ys[j]? = some (.box b) → ys[k]? = some (.box c) → (listed.setIfInBounds i true).getD j false = true → (listed.setIfInBounds i true).getD k false = true → g j ≠ g k := by
    intro hnb j k b c hjk hj hk hlj hlk
    rcases getD_set_cases hlj with e | hlj'
    · subst e; exact absurd hj (hnb b)
    · rcases getD_set_cases hlk with e | hlk'
      · subst e; exact absurd hk (hnb c)
      · exact h.apart j k b c hjk hj hk hlj' hlk'
  unfold wpOp
  simp only [ho, hw, if_true]
  left
  unfold Oper.wp
  rw [hsame]
  revert hY
  generalize hyi : ys[i] = y at *
  cases y with
  | val v =>
    intro hY
    have hnb : ∀ b, ys[i]? ≠ some (.box b) := fun b e => by rw [hy] at e; cases e
    have h3 := hY w h.below
    generalize (execOp (fill g' 0 l ys a0).eval o).run P w = r at *
    cases r with
    | ok nx w' =>
      cases nx <;> simp only [stays] at h3 <;> simp only [Oper.upon]
      case value u =>
        obtain ⟨rfl, rfl⟩ := h3
        exact ⟨g, size' _, by rw [put_defers, h.defers], h.below, other' _, slot' g _ rfl (fun _ _ => rfl), boxes' _ (Below.refl _ _) hnb, apart' hnb⟩
      case enter f args =>
        obtain ⟨rfl, hc⟩ := h3
        refine hc.mono fun e w'' ⟨he, hb⟩ => ?_
        subst he
        exact ⟨g, size' _, by rw [put_defers, h.defers], h.below.trans (hb.mono h.below.size), other' _, slot' g _ rfl (fun _ _ => rfl), boxes' _ hb hnb, apart' hnb⟩
    | halt x w' => simp only [stays] at h3
  | box b =>
    intro hY
    rw [hY w]
    simp only [Oper.upon]
    obtain ⟨gg, hgi, hgj⟩ : ∃ gg : Nat → Nat, gg i = w.heap.size ∧ ∀ j, j ≠ i → gg j = g j := ⟨fun j => if j = i then w.heap.size else g j, by simp, fun j hj => by simp [hj]⟩
    refine ⟨gg, size' _, by rw [put_defers, h.defers], h.below.alloc h.below.size b, other' _, slot' gg _ (by rw [hgi]; rfl) hgj, ?_, ?_⟩
    · intro j c hj hl
      by_cases hji : j = i
      · subst hji
        rw [hy] at hj; cases hj
        rw [hgi]
        exact ⟨h.below.size, by show (w.heap.push b)[w.heap.size]? = some b; simp⟩
      · rcases getD_set_cases hl with e | hl'
        · exact absurd e hji
        · obtain ⟨h1, h2⟩ := h.boxes j c hj hl'
          rw [hgj j hji]
          exact ⟨h1, by rw [Below.heap_alloc _ _ _ (lt_of_block h2)]; exact h2⟩
    · intro j k c1 c2 hjk hj hk hlj hlk
      by_cases hji : j = i
      · have hki : k ≠ i := fun e => hjk (hji.trans e.symm)
        rcases getD_set_cases hlk with e | hlk'
        · exact absurd e hki
        · have := lt_of_block (h.boxes k c2 hk hlk').2
          rw [hgj k hki, hji, hgi]; omega
      · rcases getD_set_cases hlj with e | hlj'
        · exact absurd e hji
        · by_cases hki : k = i
          · have := lt_of_block (h.boxes j c1 hj hlj').2
            rw [hgj j hji, hki, hgi]; omega
          · rcases getD_set_cases hlk with e | hlk'
            · exact absurd e hki
            · rw [hgj j hji, hgj k hki]; exact h.apart j k c1 c2 hjk hj hk hlj' hlk'

/-- Behind the whole head the frame is the full one. -/
theorem Boxing.full {g : Nat → Nat} {listed : Array Bool} {a : Act} {w : World} (ok : HeadOk l (ys.map Yield.isBox) a0.tmps.size) (h : Boxing l ys a0 W g listed a w) (hl : ∀ i, i < ys.length → listed.getD i false = true) : a = fill g 0 l ys a0 := by
  have hsz : a.tmps.size = (fill g 0 l ys a0).tmps.size := by rw [fill_size, h.size]
  have hslot : ∀ t, a.tmps.getD t undef = (fill g 0 l ys a0).tmps.getD t undef := by
    intro t
    by_cases hex : ∃ j p, j < ys.length ∧ l[j]? = some p ∧ p.dst = some t
    · obtain ⟨j, p, hj, hp, hpt⟩ := hex
      have hy : ys[j]? = some ys[j] := by simp [hj]
      obtain ⟨d, hd1, hd2⟩ := ok.dst j p (by simpa using hj) hp
      have htd : t = d := by rw [hd1] at hpt; exact (Option.some.inj hpt).symm
      rw [h.slot j p _ t hp hy (hl j hj) hpt, fill_slot g t 0 l ys a0 j p _ (by rw [htd]; exact hd2) hp hy hpt (fun k q hk hkj hq e => ok.apart j k p q (by simpa using hj) (by simpa using hk) hp hq (Ne.symm hkj) (by rw [e, hpt])), Nat.zero_add]
    · rw [h.other t (fun j p hj hp _ e => hex ⟨j, p, hj, hp, e⟩), fill_other g t 0 l ys a0 (fun j p hj hp e => hex ⟨j, p, hj, hp, e⟩)]
  have ht : a.tmps = (fill g 0 l ys a0).tmps := by
    refine Array.ext hsz fun t h1 h2 => ?_
    have := hslot t
    simpa [h1, h2] using this
  have hdf : a.defers = (fill g 0 l ys a0).defers := by rw [fill_defers, h.defers]
  generalize fill g 0 l ys a0 = F at *
  cases a; cases F
  simp only at ht hdf
  subst ht hdf
  rfl

/-- A region that draws its order: the operations of its head leave what is listed; new blocks are apart; then its tail, one by one. -/
theorem wp_region_boxes {id : Nat} {Q : Exit → Act → World → Prop} (ys : List Yield) (hm : P.follows .mixedOrders = true)
    (hB : (Region.noSelect l.toArray && decide (ys.length < l.toArray.size) && Region.sinkB .any l.toArray ys.length && Region.chainB .any l.toArray ys.length &&
      Region.seqB .any l.toArray (l.toArray.size - ys.length) ys.length ((List.replicate ys.length true ++ List.replicate (l.toArray.size - ys.length) false).toArray) && headB l (ys.map Yield.isBox) a0.tmps.size) = true)
    (hall : allYield P (fill (fun _ => 0) 0 l ys a0) W l ys)
    (hend : ∀ (g : Nat → Nat) (w' : World), Below W.heap.size W w' → (∀ i b, ys[i]? = some (.box b) → W.heap.size ≤ g i ∧ w'.heap[g i]? = some b) →
      (∀ i j b c, i ≠ j → ys[i]? = some (.box b) → ys[j]? = some (.box c) → g i ≠ g j) → wpList P l.toArray Q (l.drop ys.length) (fill g 0 l ys a0) w') :
    (Code.region id l.toArray true).wp P Q a0 W := by
  simp only [Bool.and_eq_true, decide_eq_true_eq] at hB
  obtain ⟨⟨⟨⟨⟨hsel, hn⟩, hs⟩, hc⟩, hseq⟩, hhead⟩ := hB
  have ok := headOk hhead
  have hn' : ys.length < l.length := by simpa using hn
  have hdl : (l.drop ys.length).length = l.toArray.size - ys.length := by simp
  refine wp_region_any hm ?_
  have key : ∀ (f : Nat) (listed : Array Bool) (a : Act) (w : World) (g : Nat → Nat), HeadInv .any l.toArray ys.length listed → unlisted listed = f + (l.toArray.size - ys.length) → Boxing l ys a0 W g listed a w →
      wpAny P .any l.toArray Q (f + (l.toArray.size - ys.length)) listed a w := by
    intro f
    induction f with
    | zero =>
      intro listed a w g inv hu hb
      have hls : listed.size = l.length := by have := inv.size; simpa using this
      -- all of the head has come up
      have hcount : listed.toList.countP (fun b => !b) = l.length - ys.length := by
        unfold unlisted at hu; simpa using hu
      have htail : listed.toList.drop ys.length = List.replicate (l.length - ys.length) false := by
        refine List.ext_getElem (by simp [hls]) fun k h1 h2 => ?_
        have hk : ys.length + k < listed.size := by simp at h1; omega
        have := inv.tail (ys.length + k) (by omega) (by rw [← inv.size]; exact hk)
        simpa [hk] using this
      have hsplit : listed.toList = listed.toList.take ys.length ++ List.replicate (l.length - ys.length) false := by rw [← htail, List.take_append_drop]
      have hh : (listed.toList.take ys.length).countP (fun b => !b) = 0 := by
        rw [hsplit, List.countP_append] at hcount
        have hr : (List.replicate (l.length - ys.length) false).countP (fun b => !b) = l.length - ys.length := by rw [List.countP_replicate]; simp
        rw [hr] at hcount
        omega
      have hhead : listed.toList.take ys.length = List.replicate ys.length true := by
        have hlen : (listed.toList.take ys.length).length = ys.length := by simp [hls]; omega
        rw [List.eq_replicate_iff]
        refine ⟨hlen, fun b hb => ?_⟩
        have := List.countP_eq_zero.1 hh b hb
        simpa using this
      have hlisted : listed = (List.replicate ys.length true ++ List.replicate (l.toArray.size - ys.length) false).toArray := by
        have h1 : listed = listed.toList.toArray := by simp
        rw [h1, hsplit, hhead]
        simp
      have hall' : ∀ i, i < ys.length → listed.getD i false = true := by
        intro i hi
        rw [hlisted, Array.getD_eq_getD_getElem?, List.getElem?_toArray, List.getElem?_append_left (by simpa using hi)]
        simp [hi]
      have hfull := hb.full ok hall'
      have := wpAny_of_seq (P := P) (ops := l.toArray) (md := .any) (Q' := Q) (l.drop ys.length) ys.length listed a w (fun j => by simp [List.getElem?_drop]) (by rw [hdl, hlisted]; exact hseq) (by
        rw [hfull]
        exact hend g w hb.below (fun i b hi => hb.boxes i b hi (hall' i (List.getElem?_eq_some_iff.1 hi).1)) (fun i j b c hij hi hj => hb.apart i j b c hij hi hj (hall' i (List.getElem?_eq_some_iff.1 hi).1) (hall' j (List.getElem?_eq_some_iff.1 hj).1)))
      rwa [hdl, ← Nat.zero_add (l.toArray.size - ys.length)] at this
    | succ f ih =>
      intro listed a w g inv hu hb
      -- the first one of the head that has not come up
      have hex : ∃ i, i < ys.length ∧ listed.getD i false = false := by
        refine Classical.byContradiction fun hno => ?_
        have hno' : ∀ i, i < ys.length → listed.getD i false = true := fun i hi => by
          cases h : listed.getD i false with
          | true => rfl
          | false => exact absurd ⟨i, hi, h⟩ hno
        have hls : listed.size = l.length := by have := inv.size; simpa using this
        have h0 : (listed.toList.take ys.length).countP (fun b => !b) = 0 := by
          rw [List.countP_eq_zero]
          intro b hb'
          obtain ⟨k, hk, rfl⟩ := List.getElem_of_mem hb'
          have hk1 : k < ys.length := by simp at hk; omega
          have hk2 : k < listed.size := by omega
          have := hno' k hk1
          simpa [hk2] using this
        have h1 := List.countP_le_length (p := fun b => !b) (l := listed.toList.drop ys.length)
        have h2 : unlisted listed = (listed.toList.take ys.length).countP (fun b => !b) + (listed.toList.drop ys.length).countP (fun b => !b) := by
          unfold unlisted; rw [← List.countP_append, List.take_append_drop]
        simp only [List.length_drop, Array.length_toList, hls] at h1
        have h3 : l.toArray.size = l.length := by simp
        omega
      have hleast : ∀ m : Nat, (∃ i, i < m ∧ i < ys.length ∧ listed.getD i false = false) → ∃ i, i < ys.length ∧ listed.getD i false = false ∧ ∀ j, j < i → listed.getD j false = true := by
        intro m
        induction m with
        | zero => rintro ⟨i, hi, _⟩; omega
        | succ m ih2 =>
          rintro ⟨i, hi, hiy, hil⟩
          by_cases hsm : ∃ j, j < m ∧ j < ys.length ∧ listed.getD j false = false
          · exact ih2 hsm
          · refine ⟨i, hiy, hil, fun j hj => ?_⟩
            cases h : listed.getD j false with
            | true => rfl
            | false => exact absurd ⟨j, by omega, by omega, h⟩ hsm
      obtain ⟨i, hi, hil, hlt⟩ := hleast ys.length (by obtain ⟨i, h1, h2⟩ := hex; exact ⟨i, h1, h1, h2⟩)
      have hsize : ∀ k, k < ys.length → k < listed.size := fun k hk => by rw [inv.size]; omega
      have hready : i ∈ Region.ready .any l.toArray listed := by
        obtain ⟨o, ho⟩ := ok.there i (by simpa using hi)
        exact mem_ready.2 ⟨getD_in (hsize i hi) hil, o, by simpa using ho, fun e he hbd => hlt _ (ok.back i o (by simpa using hi) ho e he hbd)⟩
      rw [show f + 1 + (l.toArray.size - ys.length) = (f + (l.toArray.size - ys.length)) + 1 by omega]
      refine ⟨fun h0 => (by rw [h0] at hready; cases hready), fun j hj => ?_⟩
      have hjn : j < ys.length := by
        rcases Nat.lt_or_ge j ys.length with h | h
        · exact h
        · exact absurd hj (tail_waits hs hc hn inv _ i rfl hi (getD_in (hsize i hi) hil) j h)
      refine wpOp_mono (fun a' w' ⟨g', hb'⟩ => ih _ a' w' g' (inv.set hj hjn) ?_ hb') (hb.step ok hsel hall inv.size hjn hj)
      have := unlisted_set (mem_ready.1 hj).1
      omega
  have inv0 : HeadInv .any l.toArray ys.length (Array.replicate l.toArray.size false) :=
    ⟨by simp, fun j oj _ hl => (by rw [getD_replicate_false] at hl; cases hl), fun t _ ht => getD_in (by simpa using ht) (getD_replicate_false _ _)⟩
  have hu : unlisted (Array.replicate l.toArray.size false) = ys.length + (l.toArray.size - ys.length) := by
    unfold unlisted
    rw [Array.toList_replicate, List.countP_replicate]
    simp
    omega
  have := key ys.length _ a0 { W with drawn := W.drawn + 1 } (fun _ => 0) inv0 hu
    ⟨rfl, rfl, ⟨rfl, rfl, rfl, Nat.le_refl _, fun _ _ => rfl⟩, fun _ _ => rfl, fun i o y d _ _ hl => (by rw [getD_replicate_false] at hl; cases hl), fun i b _ hl => (by rw [getD_replicate_false] at hl; cases hl),
      fun i j b c _ _ _ hl => (by rw [getD_replicate_false] at hl; cases hl)⟩
  rwa [show ys.length + (l.toArray.size - ys.length) = l.toArray.size by omega] at this

end
end Go.Proofs.Ytfomhdhiibcdfaa.Rect

/-! Blocks of four numbers: what a walk reads of them, and how they stay. -/
namespace Go.Proofs.Ytfomhdhiibcdfaa.Rect
open Go.RowKit Go.Sort

/-- Four numbers of a block. -/
def R4 (w : World) (g : Nat) (x0 x1 x2 x3 : Int) : Prop :=
  w.cell? ⟨g, 0, none⟩ = some (.int .i64 x0) ∧ w.cell? ⟨g, 1, none⟩ = some (.int .i64 x1) ∧ w.cell? ⟨g, 2, none⟩ = some (.int .i64 x2) ∧ w.cell? ⟨g, 3, none⟩ = some (.int .i64 x3)

theorem R4.below {w w' : World} {g : Nat} {x0 x1 x2 x3 : Int} (h : R4 w g x0 x1 x2 x3) (k : Below w.heap.size w w') : R4 w' g x0 x1 x2 x3 := by
  have hg : g < w.heap.size := block_lt_of_cell h.1
  exact ⟨by rw [k.cell (p := ⟨g, 0, none⟩) hg]; exact h.1, by rw [k.cell (p := ⟨g, 1, none⟩) hg]; exact h.2.1, by rw [k.cell (p := ⟨g, 2, none⟩) hg]; exact h.2.2.1, by rw [k.cell (p := ⟨g, 3, none⟩) hg]; exact h.2.2.2⟩

theorem R4.grown {w : World} {g : Nat} {x0 x1 x2 x3 : Int} (h : R4 w g x0 x1 x2 x3) : (∀ d os, (grow (redrawn w d) os).cell? ⟨g, 0, none⟩ = some (.int .i64 x0)) ∧ (∀ d os, (grow (redrawn w d) os).cell? ⟨g, 1, none⟩ = some (.int .i64 x1)) ∧
    (∀ d os, (grow (redrawn w d) os).cell? ⟨g, 2, none⟩ = some (.int .i64 x2)) ∧ (∀ d os, (grow (redrawn w d) os).cell? ⟨g, 3, none⟩ = some (.int .i64 x3)) :=
  ⟨cell_regrown h.1, cell_regrown h.2.1, cell_regrown h.2.2.1, cell_regrown h.2.2.2⟩

theorem R4.of_block {w : World} {g : Nat} {x0 x1 x2 x3 : Int} {T : TypeId} (h : w.heap[g]? = some (.cells #[.int .i64 x0, .int .i64 x1, .int .i64 x2, .int .i64 x3] T)) : R4 w g x0 x1 x2 x3 := by
  refine ⟨?_, ?_, ?_, ?_⟩ <;> simp [World.cell?, h]

theorem set4 {w : World} {g : Nat} {x0 x1 x2 x3 : Int} {T : TypeId} (h : w.heap[g]? = some (.cells #[.int .i64 x0, .int .i64 x1, .int .i64 x2, .int .i64 x3] T)) (y0 y1 y2 y3 : Int) :
    ((((w.setCell ⟨g, 0, none⟩ (.int .i64 y0)).setCell ⟨g, 1, none⟩ (.int .i64 y1)).setCell ⟨g, 2, none⟩ (.int .i64 y2)).setCell ⟨g, 3, none⟩ (.int .i64 y3)).heap[g]? = some (.cells #[.int .i64 y0, .int .i64 y1, .int .i64 y2, .int .i64 y3] T) := by
  have hlt := lt_of_block h
  simp [World.setCell, Array.getElem?_modify, h]

theorem set4_other {w : World} {g k : Nat} (hne : k ≠ g) (y0 y1 y2 y3 : Value) :
    ((((w.setCell ⟨g, 0, none⟩ y0).setCell ⟨g, 1, none⟩ y1).setCell ⟨g, 2, none⟩ y2).setCell ⟨g, 3, none⟩ y3).heap[k]? = w.heap[k]? := by
  rw [Below.heap_setCell _ _ _ _ hne, Below.heap_setCell _ _ _ _ hne, Below.heap_setCell _ _ _ _ hne, Below.heap_setCell _ _ _ _ hne]

/-- Two new blocks into which four numbers each were stored. -/
theorem stored_two {W w : World} {p q : Nat} (k : Below W.heap.size W w) {x0 x1 x2 x3 z0 z1 z2 z3 : Int} {T : TypeId} (gp : W.heap.size ≤ p) (hp : w.heap[p]? = some (.cells #[.int .i64 x0, .int .i64 x1, .int .i64 x2, .int .i64 x3] T))
    (gq : W.heap.size ≤ q) (hq : w.heap[q]? = some (.cells #[.int .i64 z0, .int .i64 z1, .int .i64 z2, .int .i64 z3] T)) (hne : p ≠ q) (a0 a1 a2 a3 b0 b1 b2 b3 : Int) (w3 : World)
    (h3 : w3 = (((((((w.setCell ⟨p, 0, none⟩ (.int .i64 a0)).setCell ⟨p, 1, none⟩ (.int .i64 a1)).setCell ⟨p, 2, none⟩ (.int .i64 a2)).setCell ⟨p, 3, none⟩ (.int .i64 a3)).setCell ⟨q, 0, none⟩ (.int .i64 b0)).setCell ⟨q, 1, none⟩ (.int .i64 b1)).setCell ⟨q, 2, none⟩ (.int .i64 b2)).setCell ⟨q, 3, none⟩ (.int .i64 b3)) :
    R4 w3 p a0 a1 a2 a3 ∧ R4 w3 q b0 b1 b2 b3 ∧ Below W.heap.size W w3 := by
  subst h3
  have h1 := set4 hp a0 a1 a2 a3
  have h2 := set4_other (w := w) (g := p) (k := q) (Ne.symm hne) (.int .i64 a0) (.int .i64 a1) (.int .i64 a2) (.int .i64 a3)
  rw [hq] at h2
  refine ⟨R4.of_block (T := T) (by rw [set4_other hne]; exact h1), R4.of_block (set4 h2 b0 b1 b2 b3), ?_⟩
  exact ((((((((k.setCell gp _).setCell gp _).setCell gp _).setCell gp _).setCell gq _).setCell gq _).setCell gq _).setCell gq _)

/-- What a store into a new block of four cells asks. -/
theorem free4 {w : World} {g : Nat} {x0 x1 x2 x3 : Int} {T : TypeId} (h : w.heap[g]? = some (.cells #[.int .i64 x0, .int .i64 x1, .int .i64 x2, .int .i64 x3] T)) :
    w.frozen? ⟨g, 0, none⟩ = false ∧ w.frozen? ⟨g, 1, none⟩ = false ∧ w.frozen? ⟨g, 2, none⟩ = false ∧ w.frozen? ⟨g, 3, none⟩ = false := by
  refine ⟨?_, ?_, ?_, ?_⟩ <;> simp [World.frozen?, h]

/-- The cells of the three arguments, boxed. -/
theorem boxed3 (w : World) (a0 a1 a2 a3 b0 b1 b2 b3 p q s u : Int) (S T U : TypeId) (w1 : World)
    (k : Below (((w.alloc (.cells #[.int .i64 a0, .int .i64 a1, .int .i64 a2, .int .i64 a3] S)).alloc (.cells #[.int .i64 b0, .int .i64 b1, .int .i64 b2, .int .i64 b3] T)).alloc (.cells #[.int .i64 p, .int .i64 q, .int .i64 s, .int .i64 u] U)).heap.size
      (((w.alloc (.cells #[.int .i64 a0, .int .i64 a1, .int .i64 a2, .int .i64 a3] S)).alloc (.cells #[.int .i64 b0, .int .i64 b1, .int .i64 b2, .int .i64 b3] T)).alloc (.cells #[.int .i64 p, .int .i64 q, .int .i64 s, .int .i64 u] U)) w1) :
    R4 w1 w.heap.size a0 a1 a2 a3 ∧ R4 w1 (w.heap.size + 1) b0 b1 b2 b3 ∧ R4 w1 (w.heap.size + 1 + 1) p q s u ∧ Below w.heap.size w w1 := by
  refine ⟨R4.below ?_ k, R4.below ?_ k, R4.below ?_ k, thru (ba3 _ _ _ _) k⟩
  all_goals (refine ⟨?_, ?_, ?_, ?_⟩ <;> simp [go_sem])

theorem inB_0 {a b c d : Int} (h : [a, b, c, d].all inB = true) : -1152921504606846976 ≤ a ∧ a ≤ 1152921504606846976 := by
  simp [inB] at h; omega
theorem inB_1 {a b c d : Int} (h : [a, b, c, d].all inB = true) : -1152921504606846976 ≤ b ∧ b ≤ 1152921504606846976 := by
  simp [inB] at h; omega
theorem inB_2 {a b c d : Int} (h : [a, b, c, d].all inB = true) : -1152921504606846976 ≤ c ∧ c ≤ 1152921504606846976 := by
  simp [inB] at h; omega
theorem inB_3 {a b c d : Int} (h : [a, b, c, d].all inB = true) : -1152921504606846976 ≤ d ∧ d ≤ 1152921504606846976 := by
  simp [inB] at h; omega

end Go.Proofs.Ytfomhdhiibcdfaa.Rect

/-! The contracts of the document's own looks at one float: is it near, does it count. -/
namespace Go.Proofs.Ytfomhdhiibcdfaa.Shelf
open Go.RowKit Go.Sort Go.Proofs.Ytfomhdhiibcdfaa.Rect

abbrev Fl.v (f : Fl) : Value := .agg #[.int .i64 f.s, .int .i64 f.l, .int .i64 f.t, .int .i64 f.r, .int .i64 f.b]

def inS (x : Int) : Bool := decide (-2251799813685248 < x) && decide (x < 2251799813685248)
theorem inS_iff {x : Int} : inS x = true ↔ -2251799813685248 < x ∧ x < 2251799813685248 := by unfold inS; simp

theorem ret_b {a b : Bool} (h : a = b) : Ending.returned (.bool a) = .returned (.bool b) := by rw [h]
theorem take_s (xs : List Int) (k : Nat) (h : k < xs.length) : xs.take (k + 1) = xs.take k ++ [xs.getD k 0] := by
  rw [List.take_succ_eq_append_getElem h]; simp [List.getD, h]
theorem all_s (xs : List Int) (k : Nat) (h : k < xs.length) (y : Int) (hy : y = xs.getD k 0) (hb : inS y = false) : xs.all inS = false := by
  rw [List.all_eq_false]
  refine ⟨y, ?_, by rw [hb]; simp⟩
  rw [hy]; simp [List.getD, h]

set_option maxHeartbeats 1000000 in
theorem smallR_is (l t r b : Int) (v : Bool) (hv : [l, t, r, b].all inS = v) (w : World) :
    Calls Try.prog 21 #[.agg #[.int .i64 l, .int .i64 t, .int .i64 r, .int .i64 b]] w fun e w' => e = .returned (.bool v) ∧ Below w.heap.size w w' := by
  obtain ⟨xs, hxs⟩ : ∃ xs, [l, t, r, b] = xs := ⟨_, rfl⟩
  have hn : xs.length = 4 := by rw [← hxs]; rfl
  rw [hxs] at hv
  have HV := Lib.hid hv
  have HN := Lib.hid hn
  clear hv hn
  go_enter Try.func21, Try.ntmps21
  go_upto_region 1 with fail
  generalize hW : World.alloc w _ = W
  have HX : Hid (∀ k, k < 4 → W.cell? ⟨w.heap.size, k, none⟩ = some (.int .i64 (xs.getD k 0))) := Lib.hid (by
    intro k hk
    rw [← hW, ← hxs]
    match k, hk with
    | 0, _ => simp [go_sem]
    | 1, _ => simp [go_sem]
    | 2, _ => simp [go_sem]
    | 3, _ => simp [go_sem]
    | k + 4, h => omega)
  have HB := Lib.hid (show Below w.heap.size w W by rw [← hW]; exact ba1 _ _)
  clear hW hxs
  go_wp2_with fail
  go_loop [3] (fun i => ∃ k : Nat, k ≤ 4 ∧ i = .int .i64 k ∧ (xs.take k).all inS = true) (fun i => 4 - (intOf i).toNat)
  case atStart => exact ⟨0, Nat.zero_le _, rfl, by simp⟩
  case round =>
    obtain ⟨k, hk, rfl, hal⟩ := hrel
    have HA := Lib.hid hal
    clear hal
    by_cases hlt : k < 4
    · have hcx := HX.out k hlt
      have hk4 : (k : Int) < 4 := by omega
      have hk0 : ¬ (k : Int) < 0 := by omega
      obtain ⟨y, hy⟩ : ∃ y, y = xs.getD k 0 := ⟨_, rfl⟩
      rw [← hy] at hcx
      have HY := Lib.hid hy
      clear hy
      by_cases c1 : y ≤ -2251799813685248
      · go_wp2_with fail
        go_ret
        exact ⟨ret_b (by rw [← HV.out, all_s xs k (by rw [HN.out]; exact hlt) y HY.out (by unfold inS; simp; omega)]), HB.out⟩
      · by_cases c2 : 2251799813685248 ≤ y
        · go_wp2_with fail
          go_ret
          exact ⟨ret_b (by rw [← HV.out, all_s xs k (by rw [HN.out]; exact hlt) y HY.out (by unfold inS; simp; omega)]), HB.out⟩
        · have h1 : inS y = true := inS_iff.2 ⟨by omega, by omega⟩
          go_wp2_with fail
          go_round
          case rel => exact ⟨k + 1, by omega, by go_num, by rw [take_s xs k (by rw [HN.out]; exact hlt), ← HY.out, List.all_append, HA.out]; simp [h1]⟩
          case measure => simp [intOf]; omega
    · have hv : v = true := by rw [← HV.out]; have := HA.out; rwa [List.take_of_length_le (by rw [HN.out]; omega)] at this
      have HV2 := Lib.hid hv
      clear hv
      have hk4 : ¬ (k : Int) < 4 := by omega
      go_wp2_with fail
      go_ret
      exact ⟨ret_b HV2.out.symm, HB.out⟩

end Go.Proofs.Ytfomhdhiibcdfaa.Shelf
