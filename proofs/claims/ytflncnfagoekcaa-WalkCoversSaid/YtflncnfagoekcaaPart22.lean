/- Texts of this proof that follow each other, in one file. -/
import Derived.Test.YtflncnfagoekcaaPart16
import Derived.Test.YtflncnfagoekcaaPart2
import Derived.Test.YtflncnfagoekcaaPart21
import Derived.Sort.CutIn
import Derived.Test.YtflncnfagoekcaaPart11
import Derived.Test.YtflncnfagoekcaaPart20
import Derived.Laws.MakeOwn
/-! How ends come about, from the last box on. No program is in it. -/
namespace Go.Proofs.Ytflncnfagoekcaa.Tree
open Go.RowKit Go.Proofs.Ytflncnfagoekcaa.Record Go.Proofs.Ytflncnfagoekcaa.Script Go.Proofs.Ytflncnfagoekcaa.More

/-- One value turned. -/
def putE (e : Nat → Int) (k : Nat) (v : Int) : Nat → Int := fun j => if j = k then v else e j

theorem putE_same (e : Nat → Int) (k : Nat) (v : Int) : putE e k v k = v := by simp [putE]
theorem putE_other (e : Nat → Int) {k j : Nat} (v : Int) (h : j ≠ k) : putE e k v j = e j := by simp [putE, h]

theorem nodesE_put (bs : List Bx) (e : Nat → Int) (n k : Nat) (v : Int) : (nodesE bs e n).set k ⟨bs.getD k noB, par (dOf bs) k, v, (ctx (dOf bs) (oOf bs) k : Int)⟩ = nodesE bs (putE e k v) n := by
  refine List.ext_getElem (by simp [nodesE]) fun i h1 h2 => ?_
  rw [List.getElem_set]
  simp only [nodesE, List.getElem_map, List.getElem_range]
  by_cases h : k = i
  · subst h; rw [if_pos rfl, putE_same]
  · rw [if_neg h, putE_other e v (fun x => h x.symm)]

/-- The boxes from k on have told their ends. -/
def EndsTo (d : Nat → Int) (n k : Nat) (e : Nat → Int) : Prop :=
  (∀ j, k ≤ j → j < n → e j = (en d n j : Int)) ∧
  ∀ j, j < k → (e j = 0 ∨ ∃ c, k ≤ c ∧ c < n ∧ par d c = (j : Int) ∧ e j = (en d n c : Int)) ∧ ∀ c, k ≤ c → c < n → par d c = (j : Int) → (en d n c : Int) ≤ e j

theorem told_start (d : Nat → Int) (n : Nat) : EndsTo d n n (fun _ => 0) :=
  ⟨fun j h1 h2 => by omega, fun j _ => ⟨.inl rfl, fun c h1 h2 _ => by omega⟩⟩

/-- What a box has been told, or the place behind it, is where it ends. -/
theorem told_self {d : Nat → Int} {n k : Nat} {e : Nat → Int} (hs : Shape d n) (hk : k < n) (h : EndsTo d n (k + 1) e) : max (e k) ((k : Int) + 1) = (en d n k : Int) := by
  obtain ⟨h1, h2⟩ := h.2 k (by omega)
  obtain ⟨e1, -, -, -⟩ := en_spec d n k hk
  by_cases hq : kids d n k = []
  · have h3 := hs.kids_nil k hk hq
    rcases h1 with h1 | ⟨c, c1, c2, c3, c4⟩
    · omega
    · have := (hs.kid_iff k c hk c2).2 c3
      rw [hq] at this
      simp at this
  · have hl : 0 < (kids d n k).length := List.length_pos_iff.2 hq
    obtain ⟨c, hc⟩ : ∃ c, (kids d n k)[(kids d n k).length - 1]? = some c := ⟨_, List.getElem?_eq_getElem (by omega)⟩
    obtain ⟨g1, g2⟩ := Shape.kids_last hs k c hk hc
    have hm := List.mem_of_getElem? hc
    have hp := (hs.kid_iff k c hk g1).1 hm
    have hcb := ((mem_kids d n k c).1 hm)
    have h4 := h2 c (by omega) g1 hp
    rw [g2] at h4
    have h5 : e k ≤ (en d n k : Int) := by
      rcases h1 with h1 | ⟨c', c1, c2, c3, c4⟩
      · omega
      · have hm' := (hs.kid_iff k c' hk c2).2 c3
        have hb' := (mem_kids d n k c').1 hm'
        have := en_nest d n k c' hk hb'.2.1 hb'.1
        omega
    omega

/-- The first box. -/
theorem told_first {d : Nat → Int} {n : Nat} {e : Nat → Int} (hs : Shape d n) (h : EndsTo d n 1 e) : EndsTo d n 0 (putE e 0 (max (e 0) 1)) := by
  have h0 := told_self hs hs.pos h
  refine ⟨fun j _ hj => ?_, fun j hj => by omega⟩
  by_cases e0 : j = 0
  · subst e0; rw [putE_same]; simpa using h0
  · rw [putE_other e _ e0]; exact h.1 j (by omega) hj

theorem told_next {d : Nat → Int} {n k : Nat} {e : Nat → Int} (hs : Shape d n) (h0 : 0 < k) (hk : k < n) (p : Nat) (hp : par d k = (p : Int)) (h : EndsTo d n (k + 1) e) :
    EndsTo d n k (putE (putE e k (max (e k) ((k : Int) + 1))) p (max (e p) (max (e k) ((k : Int) + 1)))) := by
  have hv := told_self hs hk h
  have hb := par_bounds d k
  have hpk : p < k := by omega
  rw [hv]
  refine ⟨fun j h1 h2 => ?_, fun j hj => ?_⟩
  · rw [putE_other _ _ (by omega)]
    by_cases e1 : j = k
    · subst e1; rw [putE_same]
    · rw [putE_other _ _ e1]; exact h.1 j (by omega) h2
  · obtain ⟨g1, g2⟩ := h.2 j (by omega)
    by_cases e1 : j = p
    · subst e1
      rw [putE_same]
      refine ⟨?_, fun c c1 c2 c3 => ?_⟩
      · by_cases hm : (en d n k : Int) ≤ e j
        · rw [Int.max_eq_left hm]
          rcases g1 with g1 | ⟨c, c1, c2, c3, c4⟩
          · exact .inl g1
          · exact .inr ⟨c, by omega, c2, c3, c4⟩
        · rw [Int.max_eq_right (by omega)]
          exact .inr ⟨k, Nat.le_refl _, hk, hp, rfl⟩
      · by_cases e2 : c = k
        · subst e2; omega
        · have := g2 c (by omega) c2 c3; omega
    · rw [putE_other _ _ e1, putE_other _ _ (by omega)]
      refine ⟨?_, fun c c1 c2 c3 => ?_⟩
      · rcases g1 with g1 | ⟨c, c1, c2, c3, c4⟩
        · exact .inl g1
        · exact .inr ⟨c, by omega, c2, c3, c4⟩
      · by_cases e2 : c = k
        · subst e2; rw [hp] at c3; omega
        · exact g2 c (by omega) c2 c3

theorem told_all {bs : List Bx} {e : Nat → Int} (h : EndsTo (dOf bs) bs.length 0 e) : nodesE bs e bs.length = nodesOf bs := by
  unfold nodesOf nodesE
  refine List.map_congr_left fun i hi => ?_
  rw [h.1 i (by omega) (List.mem_range.1 hi)]
  rfl

end Go.Proofs.Ytflncnfagoekcaa.Tree

/-! The contract of setEnds: a range over slices.Backward, whose body turns ends. -/
namespace Go.Proofs.Ytflncnfagoekcaa.Tree
open Go.RowKit Go.Shelf Go.Sort Go.Proofs.Ytflncnfagoekcaa.Record Go.Proofs.Ytflncnfagoekcaa.Script Go.Proofs.Ytflncnfagoekcaa.More

attribute [local go_sem] Oper.semAt_some

/-- A place, and an end that was told there. -/
abbrev Pl (n : Nat) := { k : Nat // k < n } × Int

def Pl.ix {n : Nat} (x : Pl n) : Nat := x.1.1

/-- All places from the last one on, as many as there are. -/
def Back {n : Nat} (pre : List (Pl n)) : Prop := pre.map Pl.ix = (List.range' (n - pre.length) pre.length).reverse

theorem Back.prev {n : Nat} {pre : List (Pl n)} {x : Pl n} (h : Back (pre ++ [x])) (hl : pre.length < n) : Back pre ∧ Pl.ix x = n - (pre.length + 1) := by
  unfold Back at h
  rw [List.map_append, List.length_append, List.length_cons, List.length_nil, Nat.zero_add] at h
  rw [range_back, show n - (pre.length + 1) + 1 = n - pre.length by omega] at h
  obtain ⟨h1, h2⟩ := List.append_inj' h (by simp)
  exact ⟨h1, by simpa using h2⟩

theorem Back.all {n : Nat} {ys : List (Pl n)} (h : ys.map Pl.ix = (List.range' 0 n).reverse) : Back ys ∧ ys.length = n := by
  have hl : ys.length = n := by have := congrArg List.length h; simpa using this
  refine ⟨?_, hl⟩
  unfold Back
  rw [hl, Nat.sub_self]
  exact h

section
variable (bs : List Bx) (n B g a c bt bl : Nat) (w0 : World)

/-- What a round keeps, and what it has told. -/
structure StE (pre : List (Pl n)) (W : World) : Prop where
  t : Boxed W bt 23 (.pointer (some ⟨g, 0, none⟩))
  b : Boxed W g 73 (.slice (some ⟨a, 0, none⟩) n c)
  l : Boxed W bl 71 (.slice (some ⟨a, 0, none⟩) n c)
  m : ∃ e, MineN W B (some ⟨a, 0, none⟩) n c (nodesE bs e n) ∧ (Back pre → EndsTo (dOf bs) n (n - pre.length) e)
  w : Below B w0 W

/-- What a round keeps, at the least. -/
def KpE (W W' : World) : Prop := W'.cell? ⟨bl, 0, none⟩ = W.cell? ⟨bl, 0, none⟩ ∧ ∀ e, MineN W B (some ⟨a, 0, none⟩) n c (nodesE bs e n) → ∃ e', MineN W' B (some ⟨a, 0, none⟩) n c (nodesE bs e' n)

theorem stE_own {N : Nat} (h1 : bt < N) (h2 : g < N) (h3 : bl < N) (h4 : a < N) (h5 : B ≤ N) (h6 : B ≤ w0.heap.size) : OwnFrom N (StE bs n B g a c bt bl w0) := by
  rintro pre W W' row ⟨t, b, l, ⟨e, hm, hi⟩, hw⟩ hg hr
  have ne : ∀ k, k < N → some k ≠ row := fun k hk e => by have := (hr k e.symm).1; omega
  refine ⟨t.kept hg (ne _ h1), b.kept hg (ne _ h2), l.kept hg (ne _ h3), ⟨e, hm.kept hg (fun k hk => ?_), hi⟩, hw.grown hg (Nat.le_trans h6 hw.size) (fun k hk => ?_)⟩
  · injection hk with hk; subst hk; exact fun e => ne _ h4 e.symm
  · have := (hr k hk).1; omega

end

theorem kpE_trans {bs : List Bx} {n B a c bl : Nat} {X Y Z : World} (h : KpE bs n B a c bl X Y) (k : KpE bs n B a c bl Y Z) : KpE bs n B a c bl X Z :=
  ⟨k.1.trans h.1, fun e he => by obtain ⟨e1, h1⟩ := h.2 e he; exact k.2 e1 h1⟩

theorem kpE_put {bs : List Bx} {n B a c bl N : Nat} (h1 : bl < N) (h2 : a < N) (W : World) (l : Nat) (o o' : Obj) (hl : N ≤ l) (_ : W.heap[l]? = some o) (_ : o.isCells = false) (_ : o.isWalk = false) : KpE bs n B a c bl W (W.putObj l o') := by
  refine ⟨?_, fun e he => ⟨e, he.kept (grownBy_putObj' W l o') (fun k hk e => ?_)⟩⟩
  · have : (W.putObj l o').heap[bl]? = W.heap[bl]? := World.putObj_heap_other (by omega)
    simp [World.cell?, this]
  · injection hk with hk
    injection e with e
    have hk' : a = k := hk
    omega

/-- The nodes of a world in which none but ends have been turned. -/
theorem nodes_read {bs : List Bx} {n B a c : Nat} {W : World} {e : Nat → Int} (h : MineN W B (some ⟨a, 0, none⟩) n c (nodesE bs e n)) (k : Nat) (hk : k < n) : AtN W ⟨a, k * 17, none⟩ ⟨bs.getD k noB, par (dOf bs) k, e k, (ctx (dOf bs) (oOf bs) k : Int)⟩ := by
  refine AtN.of_mine h k _ ?_
  have := nodesE_at bs e hk
  rw [← this]
  simp [List.getD, nodesE_len, hk]

theorem kpE_refl {bs : List Bx} {n B a c bl : Nat} (W : World) : KpE bs n B a c bl W W := ⟨rfl, fun e h => ⟨e, h⟩⟩

theorem ends_put {bs : List Bx} {n B a c : Nat} {W : World} {e : Nat → Int} (h : MineN W B (some ⟨a, 0, none⟩) n c (nodesE bs e n)) (k : Nat) (hk : k < n) (v : Int) :
    MineN (W.setCell ⟨a, k * 17 + 15, none⟩ (.int .i64 v)) B (some ⟨a, 0, none⟩) n c (nodesE bs (putE e k v) n) ∧ W.grownBy (W.setCell ⟨a, k * 17 + 15, none⟩ (.int .i64 v)) (some a) := by
  have hx : (nodesE bs e n)[k]? = some ⟨bs.getD k noB, par (dOf bs) k, e k, (ctx (dOf bs) (oOf bs) k : Int)⟩ := by
    rw [← nodesE_at bs e hk]
    simp [List.getD, nodesE_len, hk]
  have := MineE.stored h k _ ⟨bs.getD k noB, par (dOf bs) k, v, (ctx (dOf bs) (oOf bs) k : Int)⟩ hx 15 (by decide) (.int .i64 v) rfl
  rw [nodesE_put] at this
  exact this

theorem grown_trans {W X Y : World} {a : Nat} (h : W.grownBy X (some a)) (k : X.grownBy Y (some a)) : W.grownBy Y (some a) :=
  ⟨k.os.trans h.os, k.tape.trans h.tape, k.output.trans h.output, Nat.le_trans h.size k.size, fun i hi hne => (k.block i (Nat.lt_of_lt_of_le hi h.size) hne).trans (h.block i hi hne)⟩

theorem grown_any {W X : World} (a : Nat) (h : Below W.heap.size W X) : W.grownBy X (some a) := ⟨h.os, h.tape, h.output, h.size, fun k hk _ => h.block k hk⟩

/-- How a round ends. -/
theorem round_end {bs : List Bx} {n B g a c bt bl N : Nat} {w0 : World} {pre : List (Pl n)} {x : Pl n} {W W' : World} (h : StE bs n B g a c bt bl w0 pre W) (hg : W.grownBy W' (some a)) (e2 : Nat → Int)
    (hm2 : MineN W' B (some ⟨a, 0, none⟩) n c (nodesE bs e2 n)) (hi2 : Back (pre ++ [x]) → EndsTo (dOf bs) n (n - (pre ++ [x]).length) e2) (h1 : bt ≠ a) (h2 : g ≠ a) (h3 : bl ≠ a) (h4 : a < N) (h5 : B ≤ a) (h6 : B ≤ w0.heap.size) :
    KeepsFrom N W W' ∧ KpE bs n B a c bl W W' ∧ StE bs n B g a c bt bl w0 (pre ++ [x]) W' := by
  have ne : ∀ k, k ≠ a → some k ≠ some a := fun k hk e => hk (Option.some.inj e)
  have hl := h.l.kept hg (ne _ h3)
  refine ⟨KeepsFrom.of_grownBy hg (fun j e => by cases e; exact h4), ⟨?_, fun _ _ => ⟨e2, hm2⟩⟩, h.t.kept hg (ne _ h1), h.b.kept hg (ne _ h2), hl, ⟨e2, hm2, hi2⟩, h.w.grown hg (Nat.le_trans h6 h.w.size) (fun k e => by cases e; exact h5)⟩
  rw [hl.cell, h.l.cell]

set_option maxRecDepth 100000 in
set_option maxHeartbeats 4000000 in
theorem setends_yes (w : World) (B g : Nat) (A : Option Addr) (c : Nat) (bs : List Bx) (hn : bs.length ≤ 1000) (h0 : 0 < bs.length) (hf : Fine bs bs.length) (hB : B ≤ w.heap.size) (hT : InT w B g A c (nodesE bs (fun _ => 0) bs.length)) :
    CallsIn Fence.wide 6 Try.prog 46 #[.pointer (some ⟨g, 0, none⟩)] w fun e w' => (∃ v, e = .returned v) ∧ InT w' B g A c (nodesOf bs) ∧ Below B w w' := by
  have hro : Fence.wide.round = none := rfl
  obtain ⟨n, hnn⟩ : ∃ n, bs.length = n := ⟨_, rfl⟩
  have HSH := Lib.hid (hf.shape h0)
  have HTA : Hid (∀ e, EndsTo (dOf bs) n 0 e → nodesE bs e n = nodesOf bs) := Lib.hid (by subst hnn; exact fun e h => told_all h)
  obtain ⟨hb, hm⟩ := hT
  rw [nodesE_len, hnn] at hb hm
  rw [hnn] at hn h0 HSH
  have HN := Lib.hid hnn
  clear hnn hf
  obtain ⟨a, rfl, ha1, ha2, -, -⟩ := hm.form h0
  have hga : g ≠ a := by
    have := hb.not_row (by decide) hm
    intro e; subst e; exact this rfl
  have hgl := hb.lt
  have hc0 := hb.cell
  refine callsIn_of_wp_marks Try.func46 rfl trivial ?_ hro
  simp only [Try.ntmps46, List.size_toArray, List.length_cons, List.length_nil, Nat.reduceAdd, Nat.reduceSub, Array.replicate_succ, Array.replicate_zero, List.push_toArray, List.append_toArray, List.nil_append, List.cons_append]
  gi_wp2_with (refine ⟨trivial, ?_⟩; gi_at_call 38; refine (back_in Fence.wide 5 trivial hro _ _ _ _).mono ?_; rintro e w' ⟨rfl, rfl⟩)
  obtain ⟨bt, hbt⟩ : ∃ bt, w.heap.size = bt := ⟨_, rfl⟩
  obtain ⟨bl, hbl⟩ : ∃ bl, w.heap.size + 1 = bl := ⟨_, rfl⟩
  have b1 := (Boxed.new w 23 (.pointer (some ⟨g, 0, none⟩))).alloc (.cells #[.slice (some ⟨a, 0, none⟩) n c] 71)
  have b2 := Boxed.new (w.alloc (.cells #[.pointer (some ⟨g, 0, none⟩)] 23)) 71 (.slice (some ⟨a, 0, none⟩) n c)
  have b3 := (hb.alloc (.cells #[.pointer (some ⟨g, 0, none⟩)] 23)).alloc (.cells #[.slice (some ⟨a, 0, none⟩) n c] 71)
  have m3 := (hm.alloc (.cells #[.pointer (some ⟨g, 0, none⟩)] 23)).alloc (.cells #[.slice (some ⟨a, 0, none⟩) n c] 71)
  have k3 := ba2 w (.cells #[.pointer (some ⟨g, 0, none⟩)] 23) (.cells #[.slice (some ⟨a, 0, none⟩) n c] 71)
  have hsz : ((w.alloc (.cells #[.pointer (some ⟨g, 0, none⟩)] 23)).alloc (.cells #[.slice (some ⟨a, 0, none⟩) n c] 71)).heap.size = w.heap.size + 2 := by simp
  simp only [World.size_alloc] at b2
  rw [hbt] at b1
  rw [hbl] at b2 ⊢
  rw [hbt]
  generalize (w.alloc (.cells #[.pointer (some ⟨g, 0, none⟩)] 23)).alloc (.cells #[.slice (some ⟨a, 0, none⟩) n c] 71) = W0 at *
  clear hc0 hb hm
  have hbta : bt ≠ a := by omega
  have hbla : bl ≠ a := by omega
  have hB3 : Below B w W0 := k3.mono hB
  refine wpIn_rangeFunc_ownG hro (by omega) (gf := 48) (lb := #[.pointer (some ⟨bl, 0, none⟩)]) rfl trivial (enters_of Try.func48 (by kernel_rfl) rfl)
    (back_stops (α := Pl n) Pl.ix (fun x => ⟨bs.getD x.1.1 noB, par (dOf bs) x.1.1, x.2, (ctx (dOf bs) (oOf bs) x.1.1 : Int)⟩) (KpE bs n B a c bl) (fun h k => kpE_trans h k) kpE_refl Fence.wide 5 trivial hro (by omega) bl n c a hn W0 b2.cell (fun _ _ h => h.1)
      (fun W W' h1 h2 k hk => by
        obtain ⟨e', he'⟩ := h2.2 _ (m3.below h1)
        exact ⟨⟨⟨k, hk⟩, e' k⟩, rfl, nodes_read he' k hk⟩))
    (fun h k => kpE_trans h k) (fun W l o o' h1 h2 h3 h4 => kpE_put (N := W0.heap.size) (by omega) (by omega) W l o o' h1 h2 h3 h4) (Below.refl _ _) (fun _ => rfl)
    (StE bs n B g a c bt bl w) (fun _ _ _ => False)
    (stE_own bs n B g a c bt bl w (by omega) (by omega) (by omega) (by omega) (by omega) hB)
    (fun _ _ _ _ _ hs _ _ => hs)
    ⟨b1, b3, b2, ⟨_, m3, fun _ => told_start _ _⟩, hB3⟩
    (fun x => { tmps := #[.pointer (some ⟨g, 0, none⟩), .pointer (some ⟨bt, 0, none⟩), .int .i64 (x.1.1 : Int), undef, undef, .pointer (some ⟨g, 0, none⟩), .pointer (some ⟨g, 0, none⟩), .pointer (some ⟨g, 0, none⟩), .slice (some ⟨a, 0, none⟩) n c, .func (.func 48) #[] #[.pointer (some ⟨bl, 0, none⟩)], .int .i64 (x.1.1 : Int), Nd.v ⟨bs.getD x.1.1 noB, par (dOf bs) x.1.1, x.2, (ctx (dOf bs) (oOf bs) x.1.1 : Int)⟩, undef, undef, undef, undef, undef, undef, undef, undef, undef, undef, undef, undef, undef, undef, undef, undef, undef, undef, undef, undef, undef, undef, undef, undef, undef, undef, undef, undef, undef, undef, undef, undef, undef, undef, undef, undef, undef, undef, undef, undef, undef, undef], defers := [] }) ?assign ?body ?done ?stop
  case assign =>
    intro l x W K hK
    gi_wp2
    exact hK
  case body =>
    rintro l pre ⟨⟨k, hk⟩, v⟩ W hS hlt
    have HS := Lib.hid hS
    obtain ⟨b1, b3, b2, ⟨e, hm, hi⟩, hw⟩ := hS
    have HM := Lib.hid hm
    have HI := Lib.hid hi
    have hc1 := b1.cell
    have hc2 := b3.cell
    have hx := nodes_read hm k hk
    obtain ⟨-, n14, n15, -⟩ := hx
    have hz := hm.frozen
    have hkn : (k : Int) < (n : Int) := by omega
    have hwk : IntKind.i64.wrap ((k : Int) + 1) = (k : Int) + 1 := IntWalk.i64_in _ (by omega)
    clear b1 b3 b2 hm hi hw
    dsimp only
    gi_upto_region 5 with fail
    have hv0 : (if e k < (k : Int) + 1 then (k : Int) + 1 else e k) = max (e k) ((k : Int) + 1) := by split <;> omega
    try rw [hv0]
    obtain ⟨v1, hv1⟩ : ∃ v1, max (e k) ((k : Int) + 1) = v1 := ⟨_, rfl⟩
    rw [hv1]
    have HV : Hid (v1 = max (e k) ((k : Int) + 1)) := Lib.hid hv1.symm
    clear hv0
    have hp := ends_put HM.out k hk v1
    generalize W.setCell ⟨a, k * 17 + 15, none⟩ (.int .i64 v1) = W1 at hp ⊢
    obtain ⟨hm1, hg1⟩ := hp
    have hd1 : W1.cell? ⟨bt, 0, none⟩ = some (.pointer (some ⟨g, 0, none⟩)) := hg1.cell hc1 (fun e => hbta (Option.some.inj e))
    have hd2 : W1.cell? ⟨g, 0, none⟩ = some (.slice (some ⟨a, 0, none⟩) n c) := hg1.cell hc2 (fun e => hga (Option.some.inj e))
    have HM1 := Lib.hid hm1
    have HG1 := Lib.hid hg1
    clear n14 n15 hc1 hc2 hz HM hv1 hm1 hg1
    obtain ⟨-, n14, n15, -⟩ := nodes_read HM1.out k hk
    have hz := HM1.out.frozen
    rcases Nat.eq_zero_or_pos k with hk0 | hk0
    · subst hk0
      have hp0 : par (dOf bs) 0 = -1 := par_zero _
      gi_wp2_with fail
      refine round_end HS.out HG1.out _ HM1.out (fun hb => ?_) hbta hga hbla (by omega) ha1 hB
      obtain ⟨hb1, hb2⟩ := hb.prev hlt
      have hb3 : 0 = n - (pre.length + 1) := hb2
      have hi := HI.out hb1
      rw [show n - pre.length = 1 by omega] at hi
      rw [List.length_append, List.length_cons, List.length_nil, ← hb3, HV.out]
      exact told_first HSH.out hi
    · obtain ⟨q, hq, hqk, -, -⟩ := HSH.out.parent k hk0 hk
      have HQ := Lib.hid hq
      have hq1 : (par (dOf bs) k == -1) = false := by rw [beq_eq_false_iff_ne]; omega
      have hqn : (q : Int) < (n : Int) := by omega
      have hqs : q < n := by omega
      gi_upto_region 6 with fail
      clear n14
      obtain ⟨-, n14, -, -⟩ := nodes_read HM1.out k hk
      change _ = some (Value.int .i64 (par (dOf bs) k)) at n14
      rw [HQ.out] at n14
      refine wpIn_region_told [.val (.pointer (some ⟨g, 0, none⟩)), .val (.pointer (some ⟨g, 0, none⟩)), .val (.pointer (some ⟨g, 0, none⟩)), .val (.slice (some ⟨a, 0, none⟩) n c), .val (.pointer (some ⟨a, k * 17, none⟩)), .val (.pointer (some ⟨a, k * 17, none⟩)), .val (.pointer (some ⟨a, k * 17 + 14, none⟩)), .val (.int .i64 (q : Int)), .val (.pointer (some ⟨a, q * 17, none⟩))] (by kernel_rfl) (by kernel_rfl) (by kernel_rfl) ?_ ?_
      · simp only [Told.fill, Told.Leave.value]
        refine ⟨?_, ?_, ?_, ?_, ?_, ?_, ?_, ?_, ?_, trivial⟩
        · intro gg w' hw hk
          have hh := (hw.cell (p := ⟨bt, 0, none⟩) (block_lt_of_cell hd1)).trans hd1
          go_simp
          exact ⟨rfl, rfl⟩
        · intro gg w' hw hk
          go_simp
          exact ⟨rfl, rfl⟩
        · intro gg w' hw hk
          go_simp
          exact ⟨rfl, rfl⟩
        · intro gg w' hw hk
          have hh := (hw.cell (p := ⟨g, 0, none⟩) (block_lt_of_cell hd2)).trans hd2
          go_simp
          exact ⟨rfl, rfl⟩
        · intro gg w' hw hk
          go_simp
          exact ⟨rfl, rfl⟩
        · intro gg w' hw hk
          go_simp
          exact ⟨rfl, rfl⟩
        · intro gg w' hw hk
          go_simp
          exact ⟨rfl, rfl⟩
        · intro gg w' hw hk
          have hh := (hw.cell (p := ⟨a, k * 17 + 14, none⟩) (block_lt_of_cell n14)).trans n14
          go_simp
          exact ⟨rfl, rfl⟩
        · intro gg w' hw hk
          go_simp
          exact ⟨rfl, rfl⟩
      · intro gg W2 qq hbox hap
        clear hbox hap
        simp only [Told.fill, Told.Leave.value, List.length_cons, List.length_nil, Nat.reduceAdd, Nat.reduceSub]
        refine wpAnyIn_ready (rs := [9]) (by kernel_rfl) (by simp) ?_
        refine AllReadyIn.cons rfl (fun K hK => ?_) AllReadyIn.nil
        go_simp
        refine hK _ _ ?_
        clear hK K
        refine wpAnyIn_done (by kernel_rfl) ?_ _
        have HM2 := Lib.hid (HM1.out.below qq)
        have HG2 := Lib.hid (grown_trans HG1.out (grown_any a qq))
        clear n14 n15 hd1 hd2 hz HM1 HG1 qq
        obtain ⟨-, -, n15, -⟩ := nodes_read HM2.out k hk
        obtain ⟨-, -, m15, -⟩ := nodes_read HM2.out q hqs
        change _ = some (Value.int .i64 (putE e k v1 k)) at n15
        change _ = some (Value.int .i64 (putE e k v1 q)) at m15
        rw [putE_same] at n15
        rw [putE_other e v1 (show q ≠ k by omega)] at m15
        gi_upto_region 7 with fail
        refine wpIn_region_told [.val (.pointer (some ⟨a, q * 17, none⟩)), .val (.pointer (some ⟨a, q * 17, none⟩)), .val (.pointer (some ⟨a, q * 17, none⟩)), .val (.pointer (some ⟨a, q * 17 + 15, none⟩)), .val (.int .i64 (e q)), .val (.pointer (some ⟨a, k * 17, none⟩)), .val (.pointer (some ⟨a, k * 17, none⟩)), .val (.pointer (some ⟨a, k * 17 + 15, none⟩)), .val (.int .i64 v1), .val (.int .i64 (if e q < v1 then v1 else e q))] (by kernel_rfl) (by kernel_rfl) (by kernel_rfl) ?_ ?_
        · simp only [Told.fill, Told.Leave.value]
          refine ⟨?_, ?_, ?_, ?_, ?_, ?_, ?_, ?_, ?_, ?_, trivial⟩
          · intro gg w' hw hk
            go_simp
            exact ⟨rfl, rfl⟩
          · intro gg w' hw hk
            go_simp
            exact ⟨rfl, rfl⟩
          · intro gg w' hw hk
            go_simp
            exact ⟨rfl, rfl⟩
          · intro gg w' hw hk
            go_simp
            exact ⟨rfl, rfl⟩
          · intro gg w' hw hk
            have hh := (hw.cell (p := ⟨a, q * 17 + 15, none⟩) (block_lt_of_cell m15)).trans m15
            go_simp
            exact ⟨rfl, rfl⟩
          · intro gg w' hw hk
            go_simp
            exact ⟨rfl, rfl⟩
          · intro gg w' hw hk
            go_simp
            exact ⟨rfl, rfl⟩
          · intro gg w' hw hk
            go_simp
            exact ⟨rfl, rfl⟩
          · intro gg w' hw hk
            have hh := (hw.cell (p := ⟨a, k * 17 + 15, none⟩) (block_lt_of_cell n15)).trans n15
            go_simp
            exact ⟨rfl, rfl⟩
          · intro gg w' hw hk
            go_simp
            first | exact ⟨rfl, rfl⟩ | (rw [show (if e q < v1 then v1 else e q) = max (e q) v1 from by split <;> omega]; exact ⟨rfl, rfl⟩)
        · intro gg W3 qq hbox hap
          clear hbox hap
          simp only [Told.fill, Told.Leave.value, List.length_cons, List.length_nil, Nat.reduceAdd, Nat.reduceSub]
          have hv0 : (if e q < v1 then v1 else e q) = max (e q) v1 := by split <;> omega
          try rw [hv0]
          obtain ⟨v2, hv2⟩ : ∃ v2, max (e q) v1 = v2 := ⟨_, rfl⟩
          rw [hv2]
          have HV2 : Hid (v2 = max (e q) v1) := Lib.hid hv2.symm
          clear hv0
          have hm3 := HM2.out.below qq
          have hg3 := grown_trans HG2.out (grown_any a qq)
          obtain ⟨-, -, p15, -⟩ := nodes_read hm3 q hqs
          have hz := hm3.frozen
          have hp := ends_put hm3 q hqs v2
          have HP := Lib.hid hp
          have HG3 := Lib.hid hg3
          clear hp hg3 hm3 n15 m15 HM2 HG2 qq hv2
          refine wpAnyIn_ready (rs := [10]) (by kernel_rfl) (by simp) ?_
          refine AllReadyIn.cons rfl (fun K hK => ?_) AllReadyIn.nil
          go_simp
          refine hK _ _ ?_
          clear hK K
          refine wpAnyIn_ready (rs := [11]) (by kernel_rfl) (by simp) ?_
          refine AllReadyIn.cons rfl (fun K hK => ?_) AllReadyIn.nil
          go_simp
          refine hK _ _ ?_
          clear hK K
          refine wpAnyIn_ready (rs := [12]) (by kernel_rfl) (by simp) ?_
          refine AllReadyIn.cons rfl (fun K hK => ?_) AllReadyIn.nil
          go_simp
          refine hK _ _ ?_
          clear hK K
          refine wpAnyIn_done (by kernel_rfl) ?_ _
          refine round_end HS.out (grown_trans HG3.out HP.out.2) _ HP.out.1 (fun hb => ?_) hbta hga hbla (by omega) ha1 hB
          obtain ⟨hb1, hb2⟩ := hb.prev hlt
          have hb3 : k = n - (pre.length + 1) := hb2
          have hi := HI.out hb1
          rw [show n - pre.length = k + 1 by omega] at hi
          rw [List.length_append, List.length_cons, List.length_nil, ← hb3, HV2.out, HV.out]
          exact told_next HSH.out hk0 hk q HQ.out hi
  case done =>
    rintro D ys W hD hys ⟨t, b, l, ⟨e, hm, hi⟩, hw⟩ hK
    obtain ⟨h1, h2⟩ := Back.all hys
    have he := hi h1
    rw [h2, Nat.sub_self] at he
    have hnodes := HTA.out e he
    rw [hnodes] at hm
    gi_wp2
    refine ⟨by simp, .inl ⟨_, _, rfl, run_takeDeferred hK, ?_⟩⟩
    have hlen : (nodesOf bs).length = n := by rw [nodesOf_len]; exact HN.out
    refine ⟨_, results_none rfl _ _ _, ⟨_, rfl⟩, ⟨?_, ?_⟩, ?_⟩
    · rw [hlen]
      exact b.kept (grownBy_putObj' W D _) (fun e => by injection e with e; omega)
    · rw [hlen]
      refine hm.kept (grownBy_putObj' W D _) (fun k hk e => ?_)
      injection hk with hk
      injection e with e
      have hk' : a = k := hk
      omega
    · exact hw.trans (belowK_b (w := w) hB W D _ _ (by omega) hK rfl rfl)
  case stop =>
    rintro D c pre W _ _ h _
    exact h.elim

end Go.Proofs.Ytflncnfagoekcaa.Tree

/-! The contract of Contexts: a range over slices.Backward, whose body appends to a captured list. -/
namespace Go.Proofs.Ytflncnfagoekcaa.Tree
open Go.RowKit Go.Shelf Go.Sort Go.Proofs.Ytflncnfagoekcaa.Record Go.Proofs.Ytflncnfagoekcaa.Script Go.Proofs.Ytflncnfagoekcaa.More

attribute [local go_sem] Oper.semAt_some

/-- The contexts among the places that have come. -/
def opensBack (bs : List Bx) {n : Nat} (pre : List (Pl n)) : List Int := ((pre.map Pl.ix).filter (oOf bs)).map Int.ofNat

theorem opensBack_yes (bs : List Bx) {n : Nat} (pre : List (Pl n)) (x : Pl n) (h : oOf bs x.1.1 = true) : opensBack bs (pre ++ [x]) = opensBack bs pre ++ [(x.1.1 : Int)] := by
  simp [opensBack, List.filter_append, Pl.ix, h]

theorem opensBack_no (bs : List Bx) {n : Nat} (pre : List (Pl n)) (x : Pl n) (h : oOf bs x.1.1 = false) : opensBack bs (pre ++ [x]) = opensBack bs pre := by
  simp [opensBack, List.filter_append, Pl.ix, h]

theorem opensBack_len (bs : List Bx) {n : Nat} (pre : List (Pl n)) : (opensBack bs pre).length ≤ pre.length := by
  unfold opensBack
  rw [List.length_map]
  have := List.length_filter_le (oOf bs) (pre.map Pl.ix)
  rwa [List.length_map] at this

theorem opensBack_all (bs : List Bx) {ys : List (Pl bs.length)} (h : ys.map Pl.ix = (List.range' 0 bs.length).reverse) : opensBack bs ys = opensT bs := by
  unfold opensBack opensT
  rw [h, ← List.range_eq_range', List.filter_reverse, List.map_reverse]

section
variable (bs : List Bx) (n a c bt bl : Nat) (w0 : World)

/-- What a round keeps, and what it has told. -/
structure StO (pre : List (Pl n)) (W : World) : Prop where
  l : Boxed W bl 71 (.slice (some ⟨a, 0, none⟩) n c)
  m : MineN W 0 (some ⟨a, 0, none⟩) n c (nodesOf bs)
  v : ∃ A' c', Boxed W bt 38 (.slice A' (opensBack bs pre).length c') ∧ Mine W w0.heap.size A' (opensBack bs pre).length c' (opensBack bs pre)
  w : Below w0.heap.size w0 W

def KpO (W W' : World) : Prop := W'.cell? ⟨bl, 0, none⟩ = W.cell? ⟨bl, 0, none⟩ ∧ (MineN W 0 (some ⟨a, 0, none⟩) n c (nodesOf bs) → MineN W' 0 (some ⟨a, 0, none⟩) n c (nodesOf bs))

theorem row_not_other {W : World} {B T s : Nat} {v : Value} {m : Nat} {ys : List Value} {row : Option Nat} (h : W.ownsRow B T s v m ys) (hr : ∀ r, row = some r → ∃ o : Obj, W.heap[r]? = some o ∧ o.isCells = false) : v.ownBlock = none ∨ v.ownBlock ≠ row := by
  rcases h.2 with ⟨rfl, _⟩ | ⟨g, cap, cur, rfl, _, hg, _⟩
  · exact .inl rfl
  · refine .inr fun e => ?_
    obtain ⟨o, ho, hc⟩ := hr g e.symm
    rw [hg] at ho
    cases ho
    cases hc

theorem stO_own {N : Nat} (h5 : w0.heap.size ≤ N) : OwnFrom N (StO bs n a c bt bl w0) := by
  rintro pre W W' row ⟨l, m, ⟨A', c', hv, hm⟩, hw⟩ hg hr
  have hr' := fun r e => (hr r e).2
  have nb : ∀ {B t v}, Boxed W B t v → some B ≠ row := fun {B t v} h e => by
    obtain ⟨o, ho, hc⟩ := hr' B e.symm
    rw [show W.heap[B]? = _ from h] at ho; cases ho; cases hc
  exact ⟨l.kept hg (nb l), World.ownsRow.kept m hg (row_not_other m hr'), ⟨A', c', hv.kept hg (nb hv), World.ownsRow.kept hm hg (row_not_other hm hr')⟩, hw.grown hg hw.size (fun k hk => by have := (hr k hk).1; omega)⟩

end

theorem kpO_trans {bs : List Bx} {n a c bl : Nat} {X Y Z : World} (h : KpO bs n a c bl X Y) (k : KpO bs n a c bl Y Z) : KpO bs n a c bl X Z := ⟨k.1.trans h.1, fun m => k.2 (h.2 m)⟩
theorem kpO_refl {bs : List Bx} {n a c bl : Nat} (W : World) : KpO bs n a c bl W W := ⟨rfl, fun m => m⟩

theorem kpO_put {bs : List Bx} {n a c bl N : Nat} (h1 : bl < N) (h2 : a < N) (W : World) (l : Nat) (o o' : Obj) (hl : N ≤ l) (_ : W.heap[l]? = some o) (_ : o.isCells = false) (_ : o.isWalk = false) : KpO bs n a c bl W (W.putObj l o') := by
  refine ⟨?_, fun he => he.kept (grownBy_putObj' W l o') (fun k hk e => ?_)⟩
  · have : (W.putObj l o').heap[bl]? = W.heap[bl]? := World.putObj_heap_other (by omega)
    simp [World.cell?, this]
  · injection hk with hk
    injection e with e
    have hk' : a = k := hk
    omega

def ndO (bs : List Bx) (k : Nat) : Nd := ⟨bs.getD k noB, par (dOf bs) k, endsOf bs k, (ctx (dOf bs) (oOf bs) k : Int)⟩

theorem nodesOf_read {bs : List Bx} {n a c : Nat} (hn : bs.length = n) {W : World} (h : MineN W 0 (some ⟨a, 0, none⟩) n c (nodesOf bs)) (k : Nat) (hk : k < n) : AtN W ⟨a, k * 17, none⟩ (ndO bs k) := by
  subst hn
  exact nodes_read h k hk

/-- In a round: the second variable's own block. -/
def VarO (bs : List Bx) {n : Nat} (f : Nat → Act) (x : Pl n) (a' : Act) (W : World) : Prop :=
  ∃ b5, a' = f b5 ∧ W.heap[b5]? = some (.cells (cellsOfN (ndO bs x.1.1)).toArray 78)

theorem stO_below {bs : List Bx} {n a c bt bl N : Nat} {w0 : World} {pre : List (Pl n)} {W W' : World} (h : StO bs n a c bt bl w0 pre W) (k : Below W.heap.size W W') : KeepsFrom N W W' ∧ KpO bs n a c bl W W' ∧ StO bs n a c bt bl w0 pre W' := by
  have hg := grown_of_below k
  obtain ⟨A', c', hv, hm⟩ := h.v
  exact ⟨⟨k.size, fun i o _ hi _ => (k.block i (Array.getElem?_eq_some_iff.1 hi).1).trans hi⟩, ⟨by rw [(h.l.kept hg (by simp)).cell, h.l.cell], fun m => m.below k⟩, h.l.kept hg (by simp), h.m.below k, ⟨A', c', hv.kept hg (by simp), hm.below k⟩, thru h.w k⟩

theorem varO_own (bs : List Bx) {n : Nat} (f : Nat → Act) (x : Pl n) (a' : Act) (N : Nat) : OwnFrom N (fun (_ : Unit) W => VarO bs f x a' W) := by
  rintro _ W W' row ⟨b5, e, hb⟩ hg hr
  refine ⟨b5, e, (hg.block b5 (Array.getElem?_eq_some_iff.1 hb).1 (fun e => ?_)).trans hb⟩
  obtain ⟨o, ho, hc⟩ := (hr b5 e.symm).2
  rw [hb] at ho; cases ho; cases hc

set_option maxRecDepth 100000 in
set_option maxHeartbeats 4000000 in
theorem opens_in (w : World) (g : Nat) (A : Option Addr) (c : Nat) (bs : List Bx) (hn : bs.length ≤ 1000) (h0 : 0 < bs.length) (hT : InT w 0 g A c (nodesOf bs)) :
    CallsIn Fence.wide 6 Try.prog 19 #[.pointer (some ⟨g, 0, none⟩)] w fun r w' => ∃ u, r = .returned u ∧ GivesN w.heap.size (opensT bs) w' u ∧ Below w.heap.size w w' := by
  have hro : Fence.wide.round = none := rfl
  obtain ⟨n, hnn⟩ : ∃ n, bs.length = n := ⟨_, rfl⟩
  obtain ⟨hb, hm⟩ := hT
  rw [nodesOf_len, hnn] at hb hm
  rw [hnn] at hn h0
  have HN := Lib.hid hnn
  clear hnn
  obtain ⟨a, rfl, ha1, ha2, -, -⟩ := hm.form h0
  have hgl := hb.lt
  have hc0 := hb.cell
  refine callsIn_of_wp_marks Try.func19 rfl trivial ?_ hro
  simp only [Try.ntmps19, List.size_toArray, List.length_cons, List.length_nil, Nat.reduceAdd, Nat.reduceSub, Array.replicate_succ, Array.replicate_zero, List.push_toArray, List.append_toArray, List.nil_append, List.cons_append]
  gi_wp2_with (refine ⟨trivial, ?_⟩; gi_at_call 38; refine (back_in Fence.wide 5 trivial hro _ _ _ _).mono ?_; rintro e w' ⟨rfl, rfl⟩)
  obtain ⟨bt, hbt⟩ : ∃ bt, w.heap.size = bt := ⟨_, rfl⟩
  obtain ⟨bl, hbl⟩ : ∃ bl, w.heap.size + 1 = bl := ⟨_, rfl⟩
  have b1 := (Boxed.new w 38 (.slice none 0 0)).alloc (.cells #[.slice (some ⟨a, 0, none⟩) n c] 71)
  have b2 := Boxed.new (w.alloc (.cells #[.slice none 0 0] 38)) 71 (.slice (some ⟨a, 0, none⟩) n c)
  have m3 := (hm.alloc (.cells #[.slice none 0 0] 38)).alloc (.cells #[.slice (some ⟨a, 0, none⟩) n c] 71)
  have k3 := ba2 w (.cells #[.slice none 0 0] 38) (.cells #[.slice (some ⟨a, 0, none⟩) n c] 71)
  have hsz : ((w.alloc (.cells #[.slice none 0 0] 38)).alloc (.cells #[.slice (some ⟨a, 0, none⟩) n c] 71)).heap.size = w.heap.size + 2 := by simp
  simp only [World.size_alloc] at b2
  rw [hbt] at b1
  rw [hbl] at b2 ⊢
  rw [hbt]
  generalize (w.alloc (.cells #[.slice none 0 0] 38)).alloc (.cells #[.slice (some ⟨a, 0, none⟩) n c] 71) = W0 at *
  clear hc0 hb hm
  rw [← hbt]
  rw [← hbt] at b1
  clear hbt bt
  refine wpIn_rangeFunc_ownH hro (by omega) (gf := 48) (lb := #[.pointer (some ⟨bl, 0, none⟩)]) rfl trivial (enters_of Try.func48 (by kernel_rfl) rfl)
    (back_stops (α := Pl n) Pl.ix (fun x => ndO bs x.1.1) (KpO bs n a c bl) (fun h k => kpO_trans h k) kpO_refl Fence.wide 5 trivial hro (by omega) bl n c a hn W0 b2.cell (fun _ _ h => h.1)
      (fun W W' h1 h2 k hk => ⟨⟨⟨k, hk⟩, 0⟩, rfl, nodesOf_read HN.out (h2.2 (m3.below h1)) k hk⟩))
    (fun h k => kpO_trans h k) (fun W l o o' h1 h2 h3 h4 => kpO_put (N := W0.heap.size) (by omega) (by omega) W l o o' h1 h2 h3 h4) (Below.refl _ _) (fun _ => rfl)
    (StO bs n a c w.heap.size bl w) (fun _ _ _ => False)
    (stO_own bs n a c w.heap.size bl w (by omega))
    (fun _ _ _ _ _ hs _ _ => hs)
    ⟨b2, m3, ⟨none, 0, b1, World.ownsRow_nil _ _ _ _⟩, k3⟩
    (fun x => VarO bs (fun b5 => { tmps := #[.pointer (some ⟨g, 0, none⟩), undef, .slice none 0 0, .pointer (some ⟨w.heap.size, 0, none⟩), .int .i64 (x.1.1 : Int), .pointer (some ⟨b5, 0, none⟩), .pointer (some ⟨g, 0, none⟩), .pointer (some ⟨g, 0, none⟩), .pointer (some ⟨g, 0, none⟩), .slice (some ⟨a, 0, none⟩) n c, .func (.func 48) #[] #[.pointer (some ⟨bl, 0, none⟩)], .int .i64 (x.1.1 : Int), Nd.v (ndO bs x.1.1), undef, undef, undef, undef, undef, undef, undef, undef, undef], defers := [] }) x) (fun x a' => varO_own bs _ x a' _) ?assign ?body ?done ?stop
  case assign =>
    intro l pre x W K hI hK
    have HI := Lib.hid hI
    have HK := Lib.hid hK
    clear hK hI
    gi_wp2_with (first
      | (refine wpListIn_store_row _ rfl 78 (.tmp 5) (.tmp 12) rfl W.heap.size (cellsOfN (ndO bs x.1.1)).toArray rfl rfl 78 zeroN (heap_alloc_new W _) sizeN rfl (all_oneCell_toArray (cellsOfN_one _)) ?_))
    have hk := below_setRow (ba1 W (.cells zeroN 78)) (Nat.le_refl _) (cellsOfN (ndO bs x.1.1)).toArray
    obtain ⟨h1, h2, h3⟩ := stO_below (N := W0.heap.size) HI.out hk
    exact HK.out _ _ h1 h2 h3 ⟨W.heap.size, rfl, setRow_heap _ _ _ _ _ _ (heap_alloc_new W _)⟩
  case body =>
    rintro l pre x a' W hl - hI ⟨b5, rfl, h5⟩ hlt
    obtain ⟨hl0, hm0, ⟨A', c', hv, hmv⟩, hw⟩ := hI
    have HI : Hid (StO bs n a c w.heap.size bl w pre W) := Lib.hid ⟨hl0, hm0, ⟨A', c', hv, hmv⟩, hw⟩
    have hkc : W.cell? ⟨b5, 1, none⟩ = some (.int .i64 (ndO bs x.1.1).b.k) := by rw [cell_of_row W b5 1 _ _ _ h5]; rfl
    obtain ⟨o, ho⟩ : ∃ o, oOf bs x.1.1 = o := ⟨_, rfl⟩
    have HO : Hid (openB (ndO bs x.1.1).b.k = o) := Lib.hid ho
    have HC : Hid (∀ W1, CallsIn (Fence.wide.inRound l) 3 Try.prog 35 #[.int .i64 (ndO bs x.1.1).b.k] W1 fun e w' => e = .returned (.bool o) ∧ W1 = w') :=
      Lib.hid fun W1 => CallsIn.inRound l (callsIn_wide.2 (open_is _ _ HO.out W1))
    have HX := Lib.hid ho
    have hlen := opensBack_len bs pre
    have hvc := hv.cell
    have hsz2 := hw.size
    obtain ⟨xs, hxs⟩ : ∃ xs, opensBack bs pre = xs := ⟨_, rfl⟩
    have HXS := Lib.hid hxs
    rw [hxs] at hv hmv hvc hlen
    obtain ⟨m, hmm⟩ : ∃ m, xs.length = m := ⟨_, rfl⟩
    rw [hmm] at hv hmv hvc hlen
    have HMM := Lib.hid hmm
    have HV := Lib.hid hv
    have HMV := Lib.hid hmv
    clear hl0 hm0 hv hmv hw ho hxs hmm h5
    dsimp only
    cases o
    · gi_wp2_with (refine ⟨trivial, ?_⟩; gi_at_call 35; refine (HC.out _).mono ?_; rintro e w' ⟨rfl, rfl⟩)
      have h := HI.out
      obtain ⟨A2, c2, g1, g2⟩ := h.v
      exact ⟨KeepsFrom.refl _ _, kpO_refl _, h.l, h.m, ⟨A2, c2, by rw [opensBack_no bs pre x HX.out]; exact g1, by rw [opensBack_no bs pre x HX.out]; exact g2⟩, h.w⟩
    · gi_wp2_with (first
        | (refine ⟨trivial, ?_⟩; gi_at_call 35; refine (HC.out _).mono ?_; rintro e w' ⟨rfl, rfl⟩)
        | (gi_at_builtin; refine wpListIn_append_mine _ rfl (.tmp 17) (.tmp 19) rfl w.heap.size A' m c' xs rfl (HMV.out.alloc _) (some ⟨W.heap.size, 0, none⟩) 1 1 [(x.1.1 : Int)] rfl (one_src W (x.1.1 : Int)) (by omega) (by simp; omega) ?_; intro A1 c1' W1 h1; have hmo := boxed_more (by decide) HV.out HMV.out hsz2 (Nat.le_refl _) h1; have hcx := hmo.1.cell; have hfx := hmo.1.frozen))
      have h := HI.out
      obtain ⟨-, r2, r3, r4, r5, r6⟩ := hmo
      have q1 := r6 _ _ _ _ _ _ (by decide) (by decide) h.m
      have q2 : Boxed (W1.setCell ⟨w.heap.size, 0, none⟩ (.slice A1 (m + 1) c1')) bl 71 (.slice (some ⟨a, 0, none⟩) n c) := by
        have e1 := (h.l.alloc (.cells #[.int .i64 (x.1.1 : Int)] 3)).kept h1.2.1 (by rw [← ownBlock_blk A' m c']; exact (h.l.alloc (.cells #[.int .i64 (x.1.1 : Int)] 3)).not_row (by decide) (HMV.out.alloc (.cells #[.int .i64 (x.1.1 : Int)] 3)))
        exact e1.other (by omega) _
      have hlen2 : (opensBack bs (pre ++ [x])).length = m + 1 := by rw [opensBack_yes bs pre x HX.out, List.length_append, HXS.out, HMM.out]; rfl
      refine ⟨r4.from _, ⟨by rw [q2.cell, h.l.cell], fun _ => q1⟩, q2, q1, ⟨A1, c1', by rw [hlen2]; exact r2, ?_⟩, h.w.trans r5⟩
      rw [hlen2, opensBack_yes bs pre x HX.out, HXS.out]
      exact r3
  case done =>
    rintro D ys W hD hys ⟨l, m, ⟨A', c', hv, hmv⟩, hw⟩ hK
    have hc := hv.cell
    gi_wp2
    refine ⟨by simp, .inl ⟨_, _, rfl, run_takeDeferred hK, ?_⟩⟩
    have e : opensBack bs ys = opensT bs := by
      have hn := HN.out
      subst hn
      exact opensBack_all bs hys
    rw [e] at hmv
    have hmv2 : Mine (W.putObj D (.deferred none)) w.heap.size A' (opensT bs).length c' (opensT bs) := ownsRow_putObj hmv _ hK rfl
    refine ⟨_, results_tmp rfl _ _ _, _, rfl, ⟨A', c', by rw [← e]; rfl, hmv2.nums, fun _ ad h => ?_⟩, hw.trans (belowK_b (w := w) (Nat.le_refl _) W D _ _ (by omega) hK rfl rfl)⟩
    exact (hmv.lt ad.block (by rw [h]; rfl)).1
  case stop =>
    rintro D c pre W _ _ h _
    exact h.elim

end Go.Proofs.Ytflncnfagoekcaa.Tree

/-! The contract of Build; all contracts of the program's trees, together. -/
namespace Go.Proofs.Ytflncnfagoekcaa.Tree
open Go.RowKit Go.Sort Go.Proofs.Ytflncnfagoekcaa.Record Go.Proofs.Ytflncnfagoekcaa.Script Go.Proofs.Ytflncnfagoekcaa.More

theorem ctx_step (d : Nat → Int) (o : Nat → Bool) (k p : Nat) (hp : par d k = p) : ctx d o k = if o p then p else ctx d o p := by
  unfold ctx
  rw [hp, Int.toNat_natCast]
  cases h : o p
  · rw [ctxN_next d o p h]; rfl
  · rw [ctxN_open d o p h]; rfl

theorem add_step (w : World) (B g : Nat) (A : Option Addr) (c : Nat) (bs : List Bx) (k : Nat) (hk : k < bs.length) (hlen : bs.length ≤ 1000) (hf : Fine bs k) (hB : B ≤ g) (hBw : B ≤ w.heap.size) (y : Bx) (hy : bs.getD k noB = y) (v : Int) (hv : badAt bs k = v) (hT : InT w B g A c (nodesE bs (fun _ => 0) k)) :
    Calls Try.prog 45 #[.pointer (some ⟨g, 0, none⟩), y.v] w fun e w' => e = .returned (.int .i64 v) ∧ (v = 0 → ∃ A' c', InT w' B g A' c' (nodesE bs (fun _ => 0) (k + 1))) ∧ Below B w w' := by
  have hl : (nodesE bs (fun _ => 0) k).length ≤ 1000 := by rw [nodesE_len]; omega
  have hd : dOf bs k = y.d := by unfold dOf; rw [hy]
  obtain ⟨u, hu⟩ : ∃ u, pickN (brokenOf y) = u := ⟨_, rfl⟩
  by_cases hu0 : u = 0
  · subst hu0
    rcases Nat.eq_zero_or_pos k with h0 | h0
    · subst h0
      obtain ⟨r, hr⟩ : ∃ r, rootB y = r := ⟨_, rfl⟩
      have hb := badAt_root hy hu hr
      cases r
      · have e : v = 12 := by rw [← hv, hb]; rfl
        subst e
        refine (add_nest w B g A c _ hT hl y hu (-1) (fun w' h => parentof_first w' B g A c h y false hr)).mono ?_
        rintro e w' ⟨rfl, k1⟩
        exact ⟨rfl, fun h => by omega, k1.mono hBw⟩
      · have e : v = 0 := by rw [← hv, hb]; rfl
        subst e
        refine (add_yes w B g A c _ hT hl hB hBw y hu (-1) 0 (fun w' h => parentof_first w' B g A c h y true hr) (fun w' _ => within_none w' g)).mono ?_
        rintro e w' ⟨rfl, ⟨A', c', h1⟩, k1⟩
        refine ⟨rfl, fun _ => ⟨A', c', ?_⟩, k1⟩
        rw [nodesE_next, par_zero, ctx_zero, hy]
        exact h1
    · by_cases hdeep : y.d = 0 ∨ dOf bs (k - 1) + 1 < y.d
      · have e : v = 12 := by rw [← hv, badAt_deep hy hu h0 hdeep]
        subst e
        refine (add_nest w B g A c _ hT hl y hu (-1) (fun w' h => parentof_deep w' B g A c bs _ k h0 (by omega) hf y hdeep h)).mono ?_
        rintro e w' ⟨rfl, k1⟩
        exact ⟨rfl, fun h => by omega, k1.mono hBw⟩
      · have hg := ((good_iff _).1 hu).d
        obtain ⟨p, hp, hpk, -, -⟩ := (hf.shape_next h0 (by omega) (by omega)).parent k h0 (by omega)
        obtain ⟨r, hr⟩ : ∃ r, fitsB (kOf bs p) y.k = r := ⟨_, rfl⟩
        have hb := badAt_fits hy hu h0 hdeep (v := r) (by rw [hp, Int.toNat_natCast]; exact hr)
        have hP : ∀ w', InT w' B g A c (nodesE bs (fun _ => 0) k) → Calls Try.prog 52 #[.pointer (some ⟨g, 0, none⟩), y.v] w' fun e w'' => e = .returned (.tuple #[.int .i64 (p : Int), .bool r]) ∧ Below w'.heap.size w' w'' :=
          fun w' h => parentof_fits w' B g A c bs _ k h0 (by omega) hf y hd (by omega) (by omega) (by omega) p hp r hr h
        cases r
        · have e : v = 12 := by rw [← hv, hb]; rfl
          subst e
          refine (add_nest w B g A c _ hT hl y hu p hP).mono ?_
          rintro e w' ⟨rfl, k1⟩
          exact ⟨rfl, fun h => by omega, k1.mono hBw⟩
        · have e : v = 0 := by rw [← hv, hb]; rfl
          subst e
          have hn : (nodesE bs (fun _ => 0) k).getD p noN = ⟨bs.getD p noB, par (dOf bs) p, 0, (ctx (dOf bs) (oOf bs) p : Int)⟩ := nodesE_at bs _ hpk
          refine (add_yes w B g A c _ hT hl hB hBw y hu p (ctx (dOf bs) (oOf bs) k : Int) hP (fun w' h => ?_)).mono ?_
          · have := within_any w' B g A c _ p (by rw [nodesE_len]; exact hpk) h (oOf bs p) (by rw [hn]; rfl)
            rw [hn] at this
            rw [ctx_step _ _ k p hp]
            cases ho : oOf bs p
            · rw [ho] at this; exact this
            · rw [ho] at this; exact this
          · rintro e w' ⟨rfl, ⟨A', c', h1⟩, k1⟩
            refine ⟨rfl, fun _ => ⟨A', c', ?_⟩, k1⟩
            rw [nodesE_next, hp, hy]
            exact h1
  · have e : v = u := by rw [← hv, badAt_check hy hu hu0]
    subst e
    refine (add_check w B g A c _ hT hl y v hu hu0).mono ?_
    rintro e w' ⟨rfl, k1⟩
    exact ⟨rfl, fun h => absurd h hu0, k1.mono hBw⟩

set_option maxHeartbeats 1000000 in
theorem build_none (A : Option Addr) (c : Nat) (w : World) :
    Calls Try.prog 27 #[.slice A 0 c] w fun r w' => r = .returned (.tuple #[.pointer none, .int .i64 (-1), .int .i64 15]) ∧ Below w.heap.size w w' := by
  go_enter Try.func27, Try.ntmps27
  go_wp2_with fail
  exact bodyPost_ret (v := .tuple #[.pointer none, .int .i64 (-1), .int .i64 15]) (by simp [results, Try.results27, go_sem]) rfl ⟨rfl, Below.refl _ _⟩

set_option maxRecDepth 100000 in
set_option maxHeartbeats 2000000 in
theorem build_some (A : Option Addr) (n c : Nat) (bs : List Bx) (w : World) (a e : Int) (hn : n = bs.length) (hlen : n ≤ 1000) (h0 : 0 < n) (hx : Boxes w w.heap.size A bs) (hc : chkF bs n 0 = (a, e)) :
    Calls Try.prog 27 #[.slice A n c] w fun r w' => ((e = 0 ∧ ∃ p, r = .returned (.tuple #[.pointer (some p), .int .i64 (-1), .int .i64 0]) ∧ InTree w' p bs) ∨ (e ≠ 0 ∧ r = .returned (.tuple #[.pointer none, .int .i64 a, .int .i64 e]))) ∧ Below w.heap.size w w' := by
  have HX := Lib.hid hx
  have HN := Lib.hid hn
  have HC := Lib.hid hc
  clear hx hn hc
  obtain ⟨-, z, -, hinfo⟩ := infoN
  obtain ⟨i0, hi0, hz0, hz1, hz2⟩ := info_parts hinfo
  obtain ⟨w0, hmk, hown, hg0⟩ := run_make_own (P := Try.prog) w w.heap.size 71 78 i0 z 17 Try.underlying71 hi0 hz0 hz1 .i64 .i64 n (by rw [hz2]; omega) (by unfold maxLen; omega) (Nat.le_refl _)
  have hB0 : Below w.heap.size w w0 := (Below.refl _ _).grown hg0 (Nat.le_refl _) (fun j e => by cases e)
  have hsz0 := hg0.size
  have hn0 : ((n : Int) == 0) = false := by rw [beq_eq_false_iff_ne]; omega
  have hmin : ¬ (65536 : Int) < (n : Int) := by omega
  have hmin2 : (n : Int) < 65536 := by omega
  have hmin3 : min (n : Int) 65536 = (n : Int) := by omega
  clear hi0 hz0 hz1 hz2 hinfo hg0
  go_enter Try.func27, Try.ntmps27
  go_upto_region 4 with fail
  obtain ⟨g, hg⟩ : ∃ g, w0.heap.size = g := ⟨_, rfl⟩
  have hT0 : InT (w0.alloc (.cells #[.slice (some ⟨w.heap.size, 0, none⟩) 0 n] 73)) w.heap.size w0.heap.size (some ⟨w.heap.size, 0, none⟩) n (nodesE bs (fun _ => 0) 0) :=
    ⟨Boxed.new _ _ _, World.ownsRow.alloc hown _⟩
  have hk0 : Below w.heap.size w (w0.alloc (.cells #[.slice (some ⟨w.heap.size, 0, none⟩) 0 n] 73)) := hB0.alloc hsz0 _
  generalize w0.alloc (.cells #[.slice (some ⟨w.heap.size, 0, none⟩) 0 n] 73) = W4 at *
  rw [hg] at hT0 hsz0 ⊢
  have HT0 := Lib.hid hT0
  have HK0 := Lib.hid hk0
  clear hmk hown hT0 hk0 hB0 hg
  go_wp2_with fail
  go_loopw [20] (fun s wr => ∃ k : Nat, ∃ A' : Option Addr, ∃ c' : Nat, k ≤ n ∧ s = .int .i64 (k : Int) ∧ Hid (Fine bs k ∧ chkF bs (n - k) k = (a, e) ∧ InT wr w.heap.size g A' c' (nodesE bs (fun _ => 0) k) ∧ Below w.heap.size w wr)) (fun s _ => n - (intOf s).toNat)
  case atStart => exact ⟨0, _, _, Nat.zero_le _, rfl, Lib.hid ⟨fun j hj => by omega, HC.out, HT0.out, HK0.out⟩⟩
  case round =>
    clear HT0 HK0 HC
    obtain ⟨k, A', c', hk, rfl, H⟩ := hrel
    by_cases hlt : k < n
    · obtain ⟨ad, hA, hab, hcx⟩ := (HX.out.below H.out.2.2.2) k (by rw [← HN.out]; exact hlt)
      subst hA
      obtain ⟨y, hy⟩ : ∃ y, bs.getD k noB = y := ⟨_, rfl⟩
      rw [hy] at hcx
      have HY := Lib.hid hy
      have HW : Hid (chkF bs (n - (k + 1) + 1) k = (a, e)) := Lib.hid (by rw [show n - (k + 1) + 1 = n - k by omega]; exact H.out.2.1)
      clear hy hab
      obtain ⟨c0, c1, c2, c3, c4, c5, c6, c7, c8, c9, c10, c11, c12, c13⟩ := hcx
      have hkn : (k : Int) < (n : Int) := by omega
      have hwk : IntKind.i64.wrap ((k : Int) + 1) = ((k + 1 : Nat) : Int) := by rw [IntWalk.i64_in _ (by omega)]; omega
      go_upto_region 7 with (first
        | (refine wpList_store_row rfl 48 (.tmp 7) (.tmp 24) rfl wr.heap.size (cellsOfB y).toArray rfl rfl 48 zeroB (heap_alloc_new wr _) sizeB rfl (all_oneCell_toArray (cellsOfB_one y)) ?_))
      clear c0 c1 c2 c3 c4 c5 c6 c7 c8 c9 c10 c11 c12 c13
      have hk2 := below_setRow (ba1 wr (.cells zeroB 48)) (Nat.le_refl _) (cellsOfB y).toArray
      have hz2 := setRow_heap _ _ _ (cellsOfB y).toArray _ _ (heap_alloc_new wr (.cells zeroB 48))
      generalize hW2 : World.setRow (wr.alloc _) _ _ = W2
      have hk3 : Below wr.heap.size wr W2 := by rw [← hW2]; exact hk2
      have hz3 : W2.heap[wr.heap.size]? = some (.cells (cellsOfB y).toArray 48) := by rw [← hW2]; exact hz2
      have HT2 := Lib.hid (H.out.2.2.1.below hk3)
      have HK2 := Lib.hid (thru H.out.2.2.2 hk3)
      clear hk2 hz2 hW2 hk3
      obtain ⟨v, hv⟩ : ∃ v, badAt bs k = v := ⟨_, rfl⟩
      have HV := Lib.hid hv
      have HS := Lib.hid (add_step W2 w.heap.size g A' c' bs k (by rw [← HN.out]; exact hlt) (by rw [← HN.out]; exact hlen) H.out.1 hsz0 HK2.out.size y HY.out v hv HT2.out)
      clear hv
      by_cases hv0 : v = 0
      · subst hv0
        go_wp2_with (first
          | (refine wpList_load_row rfl 48 (.tmp 7) rfl wr.heap.size rfl 48 (cellsOfB y).toArray _ _ hz3 Try.underlying48 rfl sizeB ?_)
          | (go_at_call 45; refine HS.out.mono ?_; rintro e w3 ⟨rfl, h3, k3⟩; have H3 := Lib.hid (h3 rfl); have K3 := Lib.hid (HK2.out.trans k3); clear h3 k3))
        go_roundw
        case rel =>
          obtain ⟨A3, c3, h3⟩ := H3.out
          refine ⟨k + 1, A3, c3, by omega, by go_num, Lib.hid ⟨H.out.1.next HV.out, nextF HW.out HV.out, h3, K3.out⟩⟩
        case measure => simp [intOf]; omega
      · have hv1 : (v == 0) = false := by rw [beq_eq_false_iff_ne]; exact hv0
        obtain ⟨h1, h2⟩ := leaf HW.out HV.out hv0
        have HA := Lib.hid h1
        have HE := Lib.hid h2
        have HV0 := Lib.hid hv0
        clear h1 h2 hv0
        go_upto_region 8 with (first
          | (refine wpList_load_row rfl 48 (.tmp 7) rfl wr.heap.size rfl 48 (cellsOfB y).toArray _ _ hz3 Try.underlying48 rfl sizeB ?_)
          | (go_at_call 45; refine HS.out.mono ?_; rintro e w3 ⟨rfl, h3, k3⟩; have K3 := Lib.hid (HK2.out.trans k3); clear h3 k3))
        clear hwk hmin hmin2 hmin3 hn0 hz3 hkn
        go_wp2_with fail
        exact bodyPost_ret (v := .tuple #[.pointer none, .int .i64 (k : Int), .int .i64 v]) (by simp [results, Try.results27, go_sem]) rfl ⟨.inr ⟨by rw [HE.out]; exact HV0.out, by rw [HA.out, HE.out]⟩, K3.out⟩
    · obtain rfl : k = n := by omega
      have hc := H.out.2.1
      rw [Nat.sub_self, chkF] at hc
      injection hc with hc1 hc2
      have HE := Lib.hid hc2
      clear hc1 hc2
      have hN := HN.out
      have hT := H.out.2.2.1
      have HSE := Lib.hid (callsIn_wide.1 (setends_yes wr w.heap.size g A' c' bs (by rw [← hN]; exact hlen) (by rw [← hN]; exact h0) (by rw [← hN]; exact H.out.1) H.out.2.2.2.size (by rw [← hN]; exact hT)))
      go_wp2_with (first
        | (go_at_call 46; refine HSE.out.mono ?_; rintro e w3 ⟨⟨v, rfl⟩, h3, k3⟩))
      refine bodyPost_ret (v := .tuple #[.pointer (some ⟨g, 0, none⟩), .int .i64 (-1), .int .i64 0]) (by simp [results, Try.results27, go_sem]) rfl ⟨.inl ⟨HE.out.symm, _, rfl, g, A', c', rfl, by rw [← hN]; exact h0, by rw [← hN]; exact hlen, by rw [← hN]; exact H.out.1, h3.box, h3.mine.mono (Nat.zero_le _)⟩, H.out.2.2.2.trans k3⟩

/-- The program's trees are what the laws ask. -/
theorem treeOk : TreeOk InTree where
  keep w w' p bs h k := h.below k
  yes A n c bs w hn hlen h0 hx hb hf := by
    have hc := chk_fine hn h0 hf
    unfold chk at hc
    rw [if_neg (by omega), ← hn] at hc
    refine (build_some A n c bs w (-1) 0 hn hlen h0 hx hc).mono ?_
    rintro r w' ⟨⟨-, p, rfl, h⟩ | ⟨h, -⟩, k⟩
    · exact ⟨⟨p, rfl, h⟩, k⟩
    · exact absurd rfl h
  no A n c bs w a e hn hlen hx hb hc he := by
    rcases Nat.eq_zero_or_pos n with h0 | h0
    · subst h0
      unfold chk at hc
      rw [if_pos hn.symm] at hc
      injection hc with h1 h2
      subst h1 h2
      exact build_none A c w
    · unfold chk at hc
      rw [if_neg (by omega), ← hn] at hc
      refine (build_some A n c bs w a e hn hlen h0 hx hc).mono ?_
      rintro r w' ⟨⟨h, -⟩ | ⟨-, h⟩, k⟩
      · exact absurd h he
      · exact ⟨h, k⟩
  len w p bs h := by
    obtain ⟨g, A, c, rfl, h0, h1, h2, h3⟩ := h
    have := tlen_any w 0 g A c _ h3
    rwa [nodesOf_len] at this
  box w p bs i h := by
    obtain ⟨g, A, c, rfl, h0, h1, h2, h3⟩ := h
    have := tbox_any w 0 g A c _ i h3
    rwa [nodeAt_is] at this
  parent w p bs i h := by
    obtain ⟨g, A, c, rfl, h0, h1, h2, h3⟩ := h
    have := tpar_any w 0 g A c _ i h3
    rwa [nodeAt_is] at this
  en w p bs i h := by
    obtain ⟨g, A, c, rfl, h0, h1, h2, h3⟩ := h
    have := tend_any w 0 g A c _ i h3
    rwa [nodeAt_is] at this
  ctx w p bs i h := by
    obtain ⟨g, A, c, rfl, h0, h1, h2, h3⟩ := h
    have := tctx_any w 0 g A c _ i h3
    rwa [nodeAt_is] at this
  kids w p bs i h := kids_in w p bs i h
  opens w p bs h := by
    obtain ⟨g, A, c, rfl, h0, h1, h2, h3⟩ := h
    exact callsIn_wide.1 (opens_in w g A c bs h1 h0 h3)

end Go.Proofs.Ytflncnfagoekcaa.Tree
