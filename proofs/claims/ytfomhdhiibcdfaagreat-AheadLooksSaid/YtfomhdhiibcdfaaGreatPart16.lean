/- Texts of this proof that follow each other, in one file. -/
import Derived.Test.YtfomhdhiibcdfaaGreatPart14
import Derived.Test.YtfomhdhiibcdfaaGreatPart15
import Derived.Test.YtfomhdhiibcdfaaGreatPart12
/-! What the laws of layer 15 have in common: the example, whether numbers are small, a list with one number ahead of it. -/
namespace Go.Proofs.YtfomhdhiibcdfaaGreat.Spot
open Go.RowKit Go.Sort Go.Proofs.YtfomhdhiibcdfaaGreat.Strut Go.Proofs.YtfomhdhiibcdfaaGreat.More
set_option linter.unusedVariables false
set_option linter.unusedSimpArgs false

theorem gwith_is {x z : Sp} {m : Int} (h : withS x m = z) (w : World) : Calls Tryz.prog 44 #[x.v, .int .i64 m] w fun e w' => e = .returned z.v ∧ Below w.heap.size w w' := by
  subst h; exact gwith_any x m w

theorem gat_is {x : Sp} {a : Int} (hx : FineS x) (h : atS x = a) (w : World) : Calls Tryz.prog 20 #[x.v] w fun e w' => e = .returned (.int .i64 a) ∧ Below w.heap.size w w' := by
  subst h; exact gat_any x hx w

def in50 (n : Int) : Bool := decide (-1125899906842624 ≤ n ∧ n ≤ 1125899906842624)

theorem in50_iff {n : Int} : in50 n = true ↔ -1125899906842624 ≤ n ∧ n ≤ 1125899906842624 := by unfold in50; simp

theorem all50_out (xs : List Int) (k : Nat) (h : k < xs.length) (y : Int) (hy : y = xs.getD k 0) (hb : in50 y = false) : xs.all in50 = false := by
  rw [List.all_eq_false]
  refine ⟨y, ?_, by rw [hb]; simp⟩
  rw [hy]; simp [List.getD, h]

theorem all50_at {xs : List Int} (h : xs.all in50 = true) (k : Nat) : -1125899906842624 ≤ xs.getD k 0 ∧ xs.getD k 0 ≤ 1125899906842624 := by
  by_cases hk : k < xs.length
  · exact in50_iff.1 (List.all_eq_true.1 h _ (by simp [List.getD, hk]))
  · simp [List.getD, List.getElem?_eq_none (Nat.le_of_not_lt hk)]

theorem all50_inB {xs : List Int} (h : xs.all in50 = true) : xs.all inB = true := by
  rw [List.all_eq_true] at h ⊢
  intro x hx
  have := in50_iff.1 (h x hx)
  unfold inB
  simp; omega

/-- Margins of such numbers come to no more. -/
theorem most50 : ∀ (xs : List Int), xs.all in50 = true → 0 ≤ Strut.mostOf xs ∧ Strut.mostOf xs ≤ 1125899906842624 := by
  intro xs
  induction xs with
  | nil => intro _; exact ⟨Int.le_refl _, by show (0 : Int) ≤ _; omega⟩
  | cons x xs ih =>
    intro h
    rw [List.all_cons, Bool.and_eq_true] at h
    have h1 := in50_iff.1 h.1
    have h2 := ih h.2
    have h3 : Strut.mostOf (x :: xs) = max (Strut.mostOf [x]) (Strut.mostOf xs) := most_append [x] xs
    have h4 : Strut.mostOf [x] = max 0 x := rfl
    omega

theorem least50 : ∀ (xs : List Int), xs.all in50 = true → -1125899906842624 ≤ Strut.leastOf xs ∧ Strut.leastOf xs ≤ 0 := by
  intro xs
  induction xs with
  | nil => intro _; exact ⟨by show _ ≤ (0 : Int); omega, Int.le_refl _⟩
  | cons x xs ih =>
    intro h
    rw [List.all_cons, Bool.and_eq_true] at h
    have h1 := in50_iff.1 h.1
    have h2 := ih h.2
    have h3 : Strut.leastOf (x :: xs) = min (Strut.leastOf [x]) (Strut.leastOf xs) := least_append [x] xs
    have h4 : Strut.leastOf [x] = min 0 x := rfl
    omega

/-- An append that its guard wants. -/
theorem wpList_append_on (w : World) {ops : Array Oper} {rest : List Oper} {o : Oper} {a : Act} {Q : Exit → Act → World → Prop} (hw : Region.wanted o (yielded ops a.tmps) = true) (s x : Operand)
    (ho : o.op = .call { callee := .builtin .append, args := #[s, x], argTypes := #[24, 24] })
    (B : Nat) (A : Option Addr) (n c : Nat) (xs : List Int) (hs : a.eval s = .slice A n c) (hown : Mine w B A n c xs) (A2 : Option Addr) (m c2 : Nat) (ys : List Int) (hx : a.eval x = .slice A2 m c2) (hsrc : Src w A2 m c2 ys)
    (hlen : n + m ≤ 1000000) (hB : B ≤ w.heap.size)
    (h : ∀ A' c' w', Appended w B A n xs ys m A' c' w' → wpList Tryz.prog ops Q rest (a.put o.dst (.slice A' (n + m) c')) w') : wpList Tryz.prog ops Q (o :: rest) a w :=
  wpList_step fun K hK => by rw [if_pos hw]; exact wp_append_mine w s x ho B A n c xs hs hown A2 m c2 ys hx hsrc hlen hB fun A' c' w' h2 => hK _ _ (h A' c' w' h2)

theorem nums_src {w : World} {B : Nat} {A : Option Addr} {n c : Nat} {xs : List Int} (h : Nums w B A xs) (hn : n = xs.length) (hz : A = none → c = 0) : Src w A n c xs :=
  ⟨hn.symm, hz, fun k hk => by obtain ⟨ad, e, -, hc⟩ := h k hk; exact ⟨ad, e, hc⟩⟩

theorem gsum_is {A : Option Addr} {n c : Nat} {xs : List Int} {v : Int} (h : Strut.mostOf xs + Strut.leastOf xs = v) (hn : n = xs.length) (hlen : n ≤ 1000) (hb : xs.all in50 = true) (w : World) (B : Nat) (hx : Nums w B A xs) :
    Calls Tryz.prog 51 #[.slice A n c] w fun e w' => e = .returned (.int .i64 v) ∧ Below w.heap.size w w' := by
  subst h; exact calls_same_below (rsum_any A n c xs w hn (by omega) B hx (all50_inB hb))

/-- The spot behind some margins. -/
abbrev cumS (y : Int) (xs : List Int) (k : Nat) : Sp := ⟨y, Strut.mostOf (xs.take k), Strut.leastOf (xs.take k), false, false⟩

theorem all50_take {xs : List Int} (h : xs.all in50 = true) (k : Nat) : (xs.take k).all in50 = true := by
  rw [List.all_eq_true] at h ⊢
  exact fun x hx => h x (List.mem_of_mem_take hx)

theorem getD_drop (xs : List Int) (k i : Nat) : (xs.drop k).getD i 0 = xs.getD (k + i) 0 := by simp [List.getD]

/-- Five cells of a new block, written anew. -/
theorem only_putS {T : TypeId} {w : World} {g : Nat} (z x : Sp) (h : w.heap[g]? = some (.cells (sprow z).toArray T)) :
    (((((w.setCell ⟨g, 0, none⟩ (.int .i64 x.y)).setCell ⟨g, 1, none⟩ (.int .i64 x.p)).setCell ⟨g, 2, none⟩ (.int .i64 x.q)).setCell ⟨g, 3, none⟩ (.bool x.h)).setCell ⟨g, 4, none⟩ (.bool x.s)).heap[g]? = some (.cells (sprow x).toArray T) ∧
    Draw.Only g w (((((w.setCell ⟨g, 0, none⟩ (.int .i64 x.y)).setCell ⟨g, 1, none⟩ (.int .i64 x.p)).setCell ⟨g, 2, none⟩ (.int .i64 x.q)).setCell ⟨g, 3, none⟩ (.bool x.h)).setCell ⟨g, 4, none⟩ (.bool x.s)) :=
  ⟨by simp [World.setCell, Array.getElem?_modify, h], ((((Draw.Only.set g _ 0 _).trans (Draw.Only.set g _ 1 _)).trans (Draw.Only.set g _ 2 _)).trans (Draw.Only.set g _ 3 _)).trans (Draw.Only.set g _ 4 _)⟩

theorem lies_of {w : World} {b : Nat} {xs : List Value} {T : TypeId} (h : w.heap[b]? = some (.cells xs.toArray T (0, 0))) : Lies w b xs := by
  refine ⟨fun o => ?_, fun o => frozen_of_row w b o _ _ h⟩
  rw [cell_of_row w b o _ _ _ h]
  simp

/-- What an operation that only reads leaves. -/
def reads (w : World) (v : Value) : Result Next → Prop
  | .ok (.value u) w' => w' = w ∧ u = v
  | _ => False

theorem wpList_slice (w : World) {ops : Array Oper} {rest : List Oper} {o : Oper} {a : Act} {Q : Exit → Act → World → Prop} (hgd : o.guard = none) (x : Operand) (lo hi mx : Option Operand)
    (ho : o.op = .slice 24 x lo hi mx) (v : Value) (hr : reads w v ((execOp a.eval o).run Tryz.prog w)) (h : wpList Tryz.prog ops Q rest (a.put o.dst v) w) : wpList Tryz.prog ops Q (o :: rest) a w :=
  wpList_plain hgd fun _ hK => by
    unfold Oper.wp
    generalize (execOp a.eval o).run Tryz.prog w = r at *
    cases r with
    | ok nx w' =>
      cases nx <;> simp only [reads] at hr <;> simp only [Oper.upon]
      obtain ⟨rfl, rfl⟩ := hr
      exact hK _ _ h
    | halt x w' => simp only [reads] at hr

theorem one_all (y : Int) (xs : List Int) : ([y] ++ xs).all in50 = (in50 y && xs.all in50) := by simp

end Go.Proofs.YtfomhdhiibcdfaaGreat.Spot

/-! What a look comes to, in the document's words; how many margins it takes up on its way. No program is in it. -/
namespace Go.Proofs.YtfomhdhiibcdfaaGreat.Ahead
open Go.RowKit Go.Sort Go.Proofs.YtfomhdhiibcdfaaGreat.Record Go.Proofs.YtfomhdhiibcdfaaGreat.Script Go.Proofs.YtfomhdhiibcdfaaGreat.Tree Go.Proofs.YtfomhdhiibcdfaaGreat.Shelf Go.Proofs.YtfomhdhiibcdfaaGreat.Space Go.Proofs.YtfomhdhiibcdfaaGreat.Spot
set_option linter.unusedVariables false
set_option linter.unusedSimpArgs false

/-- A look: a spot, which sides' floats wait, and whether something stands there. -/
structure Rl where
  x : Rp
  l : Bool
  r : Bool
  e : Bool

/-- Does a clear clear sides? -/
abbrev clrL (c : Int) (l r : Bool) : Bool := (l && (c == 1 || c == 3)) || (r && (c == 2 || c == 3))

/-- One that stands in a box. -/
def stepK (bs : List Bx) (past : Nat → Rl → Rl) (c : Nat) (k : Rl) : Rl :=
  if (bs.getD c noB).k = 2 then { k with l := k.l || (bs.getD c noB).s == 1, r := k.r || (bs.getD c noB).s == 2 }
  else if (bs.getD c noB).k = 5 then { k with e := true }
  else if (bs.getD c noB).k = 3 then { k with x := (bif clrL (bs.getD c noB).c k.l k.r then k.x else withR k.x (bs.getD c noB).m0), e := true }
  else past c k

def goK (bs : List Bx) (past : Nat → Rl → Rl) : List Nat → Rl → Rl
  | [], k => k
  | c :: cs, k => if (stepK bs past c k).e = true then stepK bs past c k else goK bs past cs (stepK bs past c k)

def endK (b : Bx) (k : Rl) : Rl := if k.e = true then k else { k with e := decide (0 < b.e2) || decide (0 ≤ b.h) }

def intoOf (bs : List Bx) (past : Nat → Rl → Rl) (i : Nat) (k : Rl) : Rl :=
  if 0 < (bs.getD i noB).e0 then { k with x := withR k.x (bs.getD i noB).m0, e := true }
  else endK (bs.getD i noB) (goK bs past (kids (dOf bs) bs.length i) { k with x := withR k.x (bs.getD i noB).m0 })

def pastOf (bs : List Bx) (fs : List Fl) (into : Nat → Rl → Rl) (i : Nat) (k : Rl) : Rl :=
  if clrL (bs.getD i noB).c k.l k.r = true then { k with e := true }
  else if (botS fs (bs.getD i noB).c).2 = true ∧ atS (into i k).x.sp < (botS fs (bs.getD i noB).c).1 then { k with e := true }
  else if (into i k).e = true then into i k else { into i k with x := withR (into i k).x (bs.getD i noB).m2 }

/-- The look past a box, with so many boxes behind it at most; and the one into it. -/
def pastF (bs : List Bx) (fs : List Fl) : Nat → Nat → Rl → Rl
  | 0, _, k => k
  | f + 1, i, k => pastOf bs fs (intoOf bs (pastF bs fs f)) i k

abbrev intoF (bs : List Bx) (fs : List Fl) (f i : Nat) (k : Rl) : Rl := intoOf bs (pastF bs fs f) i k

/-- What a place may be asked: a Block's or a Text's. -/
def asks (bs : List Bx) (i : Int) : Bool := decide (hasT bs i) && ((boxT bs i).k == 1 || (boxT bs i).k == 4)
def intoT (bs : List Bx) (fs : List Fl) (i : Int) (k : Rl) : Rl := if (!k.e && asks bs i) = true then intoF bs fs bs.length i.toNat k else k
def pastT (bs : List Bx) (fs : List Fl) (i : Int) (k : Rl) : Rl := if (!k.e && asks bs i) = true then pastF bs fs bs.length i.toNat k else k

theorem kid_end {d : Nat → Int} {n i c : Nat} (hi : i < n) (hc : c ∈ kids d n i) : en d n c ≤ en d n i := by
  obtain ⟨h1, h2, h3⟩ := (mem_kids d n i c).1 hc
  obtain ⟨a1, a2, a3, a4⟩ := en_spec d n i hi
  obtain ⟨b1, b2, b3, b4⟩ := en_spec d n c (by omega)
  rcases Nat.lt_or_ge (en d n i) (en d n c) with h | h
  · have := b3 (en d n i) h1 h
    rcases a4 with a4 | a4 <;> omega
  · exact h

theorem kid_next {d : Nat → Int} {n i c c' : Nat} (hi : i < n) (hc : c ∈ kids d n i) (hc' : c' ∈ kids d n i) (h : c < c') : en d n c ≤ c' := by
  obtain ⟨h1, h2, h3⟩ := (mem_kids d n i c).1 hc
  obtain ⟨g1, g2, g3⟩ := (mem_kids d n i c').1 hc'
  obtain ⟨a1, a2, a3, a4⟩ := en_spec d n i hi
  obtain ⟨b1, b2, b3, b4⟩ := en_spec d n c (by omega)
  rcases Nat.lt_or_ge c' (en d n c) with q | q
  · have := b3 c' h q; omega
  · exact q

/-- No look has more margins than two for each box that it goes through. -/
structure Less (k k' : Rl) (t : Nat) : Prop where
  y : k'.x.y = k.x.y
  h : k'.x.h = k.x.h
  s : k'.x.s = k.x.s
  all : k.x.ms.all in50 = true → k'.x.ms.all in50 = true
  len : k'.x.ms.length ≤ k.x.ms.length + t

theorem Less.refl (k : Rl) : Less k k 0 := ⟨rfl, rfl, rfl, id, Nat.le_refl _⟩
theorem Less.same {k k' : Rl} (h : k'.x = k.x) : Less k k' 0 := ⟨by rw [h], by rw [h], by rw [h], by rw [h]; exact id, by rw [h]; exact Nat.le_refl _⟩
theorem Less.trans {k k' k'' : Rl} {s t : Nat} (h : Less k k' s) (g : Less k' k'' t) : Less k k'' (s + t) :=
  ⟨g.y.trans h.y, g.h.trans h.h, g.s.trans h.s, fun q => g.all (h.all q), by have := h.len; have := g.len; omega⟩
theorem Less.more {k k' : Rl} {s t : Nat} (h : Less k k' s) (hst : s ≤ t) : Less k k' t := ⟨h.y, h.h, h.s, h.all, by have := h.len; omega⟩
theorem Less.with {k k' : Rl} {m : Int} (h : k'.x = withR k.x m) (hm : in50 m = true) : Less k k' 1 :=
  ⟨by rw [h], by rw [h], by rw [h], fun q => by rw [h, List.all_append, q]; simp [hm], by rw [h]; simp⟩

/-- All margins are small. -/
def Marg (bs : List Bx) : Prop := ∀ i, i < bs.length → in50 (bs.getD i noB).m0 = true ∧ in50 (bs.getD i noB).m2 = true

section
variable {bs : List Bx} {fs : List Fl} {past : Nat → Rl → Rl}

theorem step_less (hm : Marg bs) (c : Nat) (hc : c < bs.length) (hp : ∀ k, Less k (past c k) (2 * (en (dOf bs) bs.length c - c))) (k : Rl) : Less k (stepK bs past c k) (2 * (en (dOf bs) bs.length c - c)) := by
  have he := (en_spec (dOf bs) bs.length c hc).1
  unfold stepK
  split
  · exact Less.more (s := 0) (by exact Less.same rfl) (Nat.zero_le _)
  · split
    · exact Less.more (s := 0) (by exact Less.same rfl) (Nat.zero_le _)
    · split
      · cases clrL (bs.getD c noB).c k.l k.r
        · exact (Less.with rfl (hm c hc).1).more (by omega)
        · exact Less.more (s := 0) (by exact Less.same rfl) (Nat.zero_le _)
      · exact hp k

theorem go_less (hm : Marg bs) (i : Nat) (hi : i < bs.length) (hp : ∀ c, i < c → c < bs.length → ∀ k, Less k (past c k) (2 * (en (dOf bs) bs.length c - c))) :
    ∀ (cs : List Nat) (lo : Nat) (k : Rl), cs.Pairwise (· < ·) → (∀ c ∈ cs, c ∈ kids (dOf bs) bs.length i ∧ lo ≤ c) → lo ≤ en (dOf bs) bs.length i → Less k (goK bs past cs k) (2 * (en (dOf bs) bs.length i - lo))
  | [], lo, k, _, _, _ => (Less.refl k).more (Nat.zero_le _)
  | c :: cs, lo, k, hs, hc, hlo => by
    obtain ⟨hk, hl⟩ := hc c (List.mem_cons_self ..)
    obtain ⟨h1, h2, -⟩ := (mem_kids _ _ _ _).1 hk
    have he := kid_end hi hk
    have hn := (en_spec (dOf bs) bs.length i hi).2.1
    have hce := (en_spec (dOf bs) bs.length c (by omega)).1
    have hst := step_less (past := past) hm c (by omega) (hp c h2 (by omega)) k
    have hpw := List.pairwise_cons.1 hs
    unfold goK
    split
    · exact hst.more (by omega)
    · exact (hst.trans (go_less hm i hi hp cs (en (dOf bs) bs.length c) _ hpw.2 (fun c' hc' => ⟨(hc c' (List.mem_cons_of_mem _ hc')).1, kid_next hi hk (hc c' (List.mem_cons_of_mem _ hc')).1 (hpw.1 c' hc')⟩) he)).more (by omega)

theorem end_less (b : Bx) (k : Rl) : Less k (endK b k) 0 := by
  unfold endK
  split
  · exact Less.refl k
  · exact Less.same rfl

theorem into_less (hm : Marg bs) (i : Nat) (hi : i < bs.length) (hp : ∀ c, i < c → c < bs.length → ∀ k, Less k (past c k) (2 * (en (dOf bs) bs.length c - c))) (k : Rl) :
    Less k (intoOf bs past i k) (2 * (en (dOf bs) bs.length i - i) - 1) := by
  have he := (en_spec (dOf bs) bs.length i hi).1
  have h1 : Less k { k with x := withR k.x (bs.getD i noB).m0 } 1 := Less.with rfl (hm i hi).1
  unfold intoOf
  split
  · exact (Less.with (k' := { k with x := withR k.x (bs.getD i noB).m0, e := true }) rfl (hm i hi).1).more (by omega)
  · exact ((h1.trans (go_less hm i hi hp (kids (dOf bs) bs.length i) (i + 1) _ (kids_sorted _ _ _) (fun c hc => ⟨hc, by have := ((mem_kids _ _ _ _).1 hc).2.1; omega⟩) (by omega))).trans (end_less _ _)).more (by omega)

theorem past_less (hm : Marg bs) : ∀ (f i : Nat), i < bs.length → bs.length - i ≤ f → ∀ k, Less k (pastF bs fs f i k) (2 * (en (dOf bs) bs.length i - i))
  | 0, i, hi, hf, _ => by omega
  | f + 1, i, hi, hf, k => by
    have he := (en_spec (dOf bs) bs.length i hi).1
    have hin := into_less (past := pastF bs fs f) hm i hi (fun c h1 h2 => past_less hm f c h2 (by omega)) k
    unfold pastF pastOf
    split
    · exact Less.more (s := 0) (by exact Less.same rfl) (Nat.zero_le _)
    · split
      · exact Less.more (s := 0) (by exact Less.same rfl) (Nat.zero_le _)
      · split
        · exact hin.more (by omega)
        · exact (hin.trans (Less.with (k' := { intoOf bs (pastF bs fs f) i k with x := withR (intoOf bs (pastF bs fs f) i k).x (bs.getD i noB).m2 }) rfl (hm i hi).2)).more (by omega)

theorem intoF_less (hm : Marg bs) (f i : Nat) (hi : i < bs.length) (hf : bs.length - i ≤ f + 1) (k : Rl) : Less k (intoF bs fs f i k) (2 * (en (dOf bs) bs.length i - i) - 1) :=
  into_less hm i hi (fun c h1 h2 => past_less hm f c h2 (by omega)) k

end

/-- A look whose numbers are small, with so many margins at most. -/
def Slim (t : Nat) (k : Rl) : Prop := (-2251799813685248 ≤ k.x.y ∧ k.x.y ≤ 2251799813685248) ∧ k.x.ms.all in50 = true ∧ k.x.ms.length ≤ t
theorem Slim.fine {t : Nat} {k : Rl} (h : Slim t k) (ht : t ≤ 1000) : FineR k.x := ⟨by have := h.1; omega, all50_inB h.2.1, by have := h.2.2; omega⟩
theorem Slim.less {t s u : Nat} {k k' : Rl} (h : Slim t k) (g : Less k k' s) (hu : t + s ≤ u) : Slim u k' :=
  ⟨by rw [g.y]; exact h.1, g.all h.2.1, by have := g.len; have := h.2.2; omega⟩

end Go.Proofs.YtfomhdhiibcdfaaGreat.Ahead
