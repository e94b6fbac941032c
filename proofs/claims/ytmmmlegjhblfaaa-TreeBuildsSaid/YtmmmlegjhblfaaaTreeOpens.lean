/- The contract of Contexts: a range over slices.Backward, whose body appends to a captured list. -/
import Derived.Test.YtmmmlegjhblfaaaTreeSetE
import Derived.Test.YtmmmlegjhblfaaaMoreInLaws
namespace Go.Proofs.Ytmmmlegjhblfaaa.Tree
open Go.RowKit Go.Shelf Go.Sort Go.Proofs.Ytmmmlegjhblfaaa.Record Go.Proofs.Ytmmmlegjhblfaaa.Script Go.Proofs.Ytmmmlegjhblfaaa.More

attribute [local go_sem] Oper.semAt_some

/-- The contexts among the places that have come. -/
def opensBack (bs : List Bx) {n : Nat} (pre : List (Pl n)) : List Int := ((pre.map Pl.ix).filter (oOf bs)).map Int.ofNat

theorem opensBack_yes (bs : List Bx) {n : Nat} (pre : List (Pl n)) (x : Pl n) (h : oOf bs x.1.1 = true) : opensBack bs (pre ++ [x]) = opensBack bs pre ++ [(x.1.1 : Int)] := by
  simp [opensBack, List.filter_append, Pl.ix, h]

theorem opensBack_no (bs : List Bx) {n : Nat} (pre : List (Pl n)) (x : Pl n) (h : oOf bs x.1.1 = false) : opensBack bs (pre ++ [x]) = opensBack bs pre := by
  simp [opensBack, List.filter_append, Pl.ix, h]

theorem opensBack_len (bs : List Bx) {n : Nat} (pre : List (Pl n)) : (opensBack bs pre).length ≤ pre.length := by
  unfold opensBack
  rw [List.length_map]
  have := List.length_filter_le (oOf bs) (pre.map Pl.ix)
  rwa [List.length_map] at this

theorem opensBack_all (bs : List Bx) {ys : List (Pl bs.length)} (h : ys.map Pl.ix = (List.range' 0 bs.length).reverse) : opensBack bs ys = opensT bs := by
  unfold opensBack opensT
  rw [h, ← List.range_eq_range', List.filter_reverse, List.map_reverse]

section
variable (bs : List Bx) (n a c bt bl : Nat) (w0 : World)

/-- What a round keeps, and what it has told. -/
structure StO (pre : List (Pl n)) (W : World) : Prop where
  l : Boxed W bl 51 (.slice (some ⟨a, 0, none⟩) n c)
  m : MineN W 0 (some ⟨a, 0, none⟩) n c (nodesOf bs)
  v : ∃ A' c', Boxed W bt 35 (.slice A' (opensBack bs pre).length c') ∧ Mine W w0.heap.size A' (opensBack bs pre).length c' (opensBack bs pre)
  w : Below w0.heap.size w0 W

def KpO (W W' : World) : Prop := W'.cell? ⟨bl, 0, none⟩ = W.cell? ⟨bl, 0, none⟩ ∧ (MineN W 0 (some ⟨a, 0, none⟩) n c (nodesOf bs) → MineN W' 0 (some ⟨a, 0, none⟩) n c (nodesOf bs))

theorem row_not_other {W : World} {B T s : Nat} {v : Value} {m : Nat} {ys : List Value} {row : Option Nat} (h : W.ownsRow B T s v m ys) (hr : ∀ r, row = some r → ∃ o : Obj, W.heap[r]? = some o ∧ o.isCells = false) : v.ownBlock = none ∨ v.ownBlock ≠ row := by
  rcases h.2 with ⟨rfl, _⟩ | ⟨g, cap, cur, rfl, _, hg, _⟩
  · exact .inl rfl
  · refine .inr fun e => ?_
    obtain ⟨o, ho, hc⟩ := hr g e.symm
    rw [hg] at ho
    cases ho
    cases hc

theorem stO_own {N : Nat} (h5 : w0.heap.size ≤ N) : OwnFrom N (StO bs n a c bt bl w0) := by
  rintro pre W W' row ⟨l, m, ⟨A', c', hv, hm⟩, hw⟩ hg hr
  have hr' := fun r e => (hr r e).2
  have nb : ∀ {B t v}, Boxed W B t v → some B ≠ row := fun {B t v} h e => by
    obtain ⟨o, ho, hc⟩ := hr' B e.symm
    rw [show W.heap[B]? = _ from h] at ho; cases ho; cases hc
  exact ⟨l.kept hg (nb l), World.ownsRow.kept m hg (row_not_other m hr'), ⟨A', c', hv.kept hg (nb hv), World.ownsRow.kept hm hg (row_not_other hm hr')⟩, hw.grown hg hw.size (fun k hk => by have := (hr k hk).1; omega)⟩
end

theorem kpO_trans {bs : List Bx} {n a c bl : Nat} {X Y Z : World} (h : KpO bs n a c bl X Y) (k : KpO bs n a c bl Y Z) : KpO bs n a c bl X Z := ⟨k.1.trans h.1, fun m => k.2 (h.2 m)⟩
theorem kpO_refl {bs : List Bx} {n a c bl : Nat} (W : World) : KpO bs n a c bl W W := ⟨rfl, fun m => m⟩

theorem kpO_put {bs : List Bx} {n a c bl N : Nat} (h1 : bl < N) (h2 : a < N) (W : World) (l : Nat) (o o' : Obj) (hl : N ≤ l) (_ : W.heap[l]? = some o) (_ : o.isCells = false) (_ : o.isWalk = false) : KpO bs n a c bl W (W.putObj l o') := by
  refine ⟨?_, fun he => he.kept (grownBy_putObj' W l o') (fun k hk e => ?_)⟩
  · have : (W.putObj l o').heap[bl]? = W.heap[bl]? := World.putObj_heap_other (by omega)
    simp [World.cell?, this]
  · injection hk with hk
    injection e with e
    have hk' : a = k := hk
    omega

def ndO (bs : List Bx) (k : Nat) : Nd := ⟨bs.getD k noB, par (dOf bs) k, endsOf bs k, (ctx (dOf bs) (oOf bs) k : Int)⟩

theorem nodesOf_read {bs : List Bx} {n a c : Nat} (hn : bs.length = n) {W : World} (h : MineN W 0 (some ⟨a, 0, none⟩) n c (nodesOf bs)) (k : Nat) (hk : k < n) : AtN W ⟨a, k * 17, none⟩ (ndO bs k) := by
  subst hn
  exact nodes_read h k hk

/-- In a round: the second variable's own block. -/
def VarO (bs : List Bx) {n : Nat} (f : Nat → Act) (x : Pl n) (a' : Act) (W : World) : Prop :=
  ∃ b5, a' = f b5 ∧ W.heap[b5]? = some (.cells (cellsOfN (ndO bs x.1.1)).toArray 58)

theorem stO_below {bs : List Bx} {n a c bt bl N : Nat} {w0 : World} {pre : List (Pl n)} {W W' : World} (h : StO bs n a c bt bl w0 pre W) (k : Below W.heap.size W W') : KeepsFrom N W W' ∧ KpO bs n a c bl W W' ∧ StO bs n a c bt bl w0 pre W' := by
  have hg := grown_of_below k
  obtain ⟨A', c', hv, hm⟩ := h.v
  exact ⟨⟨k.size, fun i o _ hi _ => (k.block i (Array.getElem?_eq_some_iff.1 hi).1).trans hi⟩, ⟨by rw [(h.l.kept hg (by simp)).cell, h.l.cell], fun m => m.below k⟩, h.l.kept hg (by simp), h.m.below k, ⟨A', c', hv.kept hg (by simp), hm.below k⟩, thru h.w k⟩

theorem varO_own (bs : List Bx) {n : Nat} (f : Nat → Act) (x : Pl n) (a' : Act) (N : Nat) : OwnFrom N (fun (_ : Unit) W => VarO bs f x a' W) := by
  rintro _ W W' row ⟨b5, e, hb⟩ hg hr
  refine ⟨b5, e, (hg.block b5 (Array.getElem?_eq_some_iff.1 hb).1 (fun e => ?_)).trans hb⟩
  obtain ⟨o, ho, hc⟩ := (hr b5 e.symm).2
  rw [hb] at ho; cases ho; cases hc

set_option maxRecDepth 100000 in
set_option maxHeartbeats 4000000 in
theorem opens_in (w : World) (g : Nat) (A : Option Addr) (c : Nat) (bs : List Bx) (hn : bs.length ≤ 1000) (h0 : 0 < bs.length) (hT : InT w 0 g A c (nodesOf bs)) :
    CallsIn Fence.wide 6 Try.prog 27 #[.pointer (some ⟨g, 0, none⟩)] w fun r w' => ∃ u, r = .returned u ∧ GivesN w.heap.size (opensT bs) w' u ∧ Below w.heap.size w w' := by
  have hro : Fence.wide.round = none := rfl
  obtain ⟨n, hnn⟩ : ∃ n, bs.length = n := ⟨_, rfl⟩
  obtain ⟨hb, hm⟩ := hT
  rw [nodesOf_len, hnn] at hb hm
  rw [hnn] at hn h0
  have HN := Lib.hid hnn
  clear hnn
  obtain ⟨a, rfl, ha1, ha2, -, -⟩ := hm.form h0
  have hgl := hb.lt
  have hc0 := hb.cell
  refine callsIn_of_wp_marks Try.func27 rfl trivial ?_ hro
  simp only [Try.ntmps27, List.size_toArray, List.length_cons, List.length_nil, Nat.reduceAdd, Nat.reduceSub, Array.replicate_succ, Array.replicate_zero, List.push_toArray, List.append_toArray, List.nil_append, List.cons_append]
  gi_wp2_with (refine ⟨trivial, ?_⟩; gi_at_call 33; refine (back_in Fence.wide 5 trivial hro _ _ _ _).mono ?_; rintro e w' ⟨rfl, rfl⟩)
  obtain ⟨bt, hbt⟩ : ∃ bt, w.heap.size = bt := ⟨_, rfl⟩
  obtain ⟨bl, hbl⟩ : ∃ bl, w.heap.size + 1 = bl := ⟨_, rfl⟩
  have b1 := (Boxed.new w 35 (.slice none 0 0)).alloc (.cells #[.slice (some ⟨a, 0, none⟩) n c] 51)
  have b2 := Boxed.new (w.alloc (.cells #[.slice none 0 0] 35)) 51 (.slice (some ⟨a, 0, none⟩) n c)
  have m3 := (hm.alloc (.cells #[.slice none 0 0] 35)).alloc (.cells #[.slice (some ⟨a, 0, none⟩) n c] 51)
  have k3 := ba2 w (.cells #[.slice none 0 0] 35) (.cells #[.slice (some ⟨a, 0, none⟩) n c] 51)
  have hsz : ((w.alloc (.cells #[.slice none 0 0] 35)).alloc (.cells #[.slice (some ⟨a, 0, none⟩) n c] 51)).heap.size = w.heap.size + 2 := by simp
  simp only [World.size_alloc] at b2
  rw [hbt] at b1
  rw [hbl] at b2 ⊢
  rw [hbt]
  generalize (w.alloc (.cells #[.slice none 0 0] 35)).alloc (.cells #[.slice (some ⟨a, 0, none⟩) n c] 51) = W0 at *
  clear hc0 hb hm
  rw [← hbt]
  rw [← hbt] at b1
  clear hbt bt
  refine wpIn_rangeFunc_ownH hro (by omega) (gf := 39) (lb := #[.pointer (some ⟨bl, 0, none⟩)]) rfl trivial (enters_of Try.func39 (by kernel_rfl) rfl)
    (back_stops (α := Pl n) Pl.ix (fun x => ndO bs x.1.1) (KpO bs n a c bl) (fun h k => kpO_trans h k) kpO_refl Fence.wide 5 trivial hro (by omega) bl n c a hn W0 b2.cell (fun _ _ h => h.1)
      (fun W W' h1 h2 k hk => ⟨⟨⟨k, hk⟩, 0⟩, rfl, nodesOf_read HN.out (h2.2 (m3.below h1)) k hk⟩))
    (fun h k => kpO_trans h k) (fun W l o o' h1 h2 h3 h4 => kpO_put (N := W0.heap.size) (by omega) (by omega) W l o o' h1 h2 h3 h4) (Below.refl _ _) (fun _ => rfl)
    (StO bs n a c w.heap.size bl w) (fun _ _ _ => False)
    (stO_own bs n a c w.heap.size bl w (by omega))
    (fun _ _ _ _ _ hs _ _ => hs)
    ⟨b2, m3, ⟨none, 0, b1, World.ownsRow_nil _ _ _ _⟩, k3⟩
    (fun x => VarO bs (fun b5 => { tmps := #[.pointer (some ⟨g, 0, none⟩), undef, .slice none 0 0, .pointer (some ⟨w.heap.size, 0, none⟩), .int .i64 (x.1.1 : Int), .pointer (some ⟨b5, 0, none⟩), .pointer (some ⟨g, 0, none⟩), .pointer (some ⟨g, 0, none⟩), .pointer (some ⟨g, 0, none⟩), .slice (some ⟨a, 0, none⟩) n c, .func (.func 39) #[] #[.pointer (some ⟨bl, 0, none⟩)], .int .i64 (x.1.1 : Int), Nd.v (ndO bs x.1.1), undef, undef, undef, undef, undef, undef, undef, undef, undef], defers := [] }) x) (fun x a' => varO_own bs _ x a' _) ?assign ?body ?done ?stop
  case assign =>
    intro l pre x W K hI hK
    have HI := Lib.hid hI
    have HK := Lib.hid hK
    clear hK hI
    gi_wp2_with (first
      | (refine wpListIn_store_row _ rfl 58 (.tmp 5) (.tmp 12) rfl W.heap.size (cellsOfN (ndO bs x.1.1)).toArray rfl rfl 58 zeroN (heap_alloc_new W _) sizeN rfl (all_oneCell_toArray (cellsOfN_one _)) ?_))
    have hk := below_setRow (ba1 W (.cells zeroN 58)) (Nat.le_refl _) (cellsOfN (ndO bs x.1.1)).toArray
    obtain ⟨h1, h2, h3⟩ := stO_below (N := W0.heap.size) HI.out hk
    exact HK.out _ _ h1 h2 h3 ⟨W.heap.size, rfl, setRow_heap _ _ _ _ _ _ (heap_alloc_new W _)⟩
  case body =>
    rintro l pre x a' W hl - hI ⟨b5, rfl, h5⟩ hlt
    obtain ⟨hl0, hm0, ⟨A', c', hv, hmv⟩, hw⟩ := hI
    have HI : Hid (StO bs n a c w.heap.size bl w pre W) := Lib.hid ⟨hl0, hm0, ⟨A', c', hv, hmv⟩, hw⟩
    have hkc : W.cell? ⟨b5, 1, none⟩ = some (.int .i64 (ndO bs x.1.1).b.k) := by rw [cell_of_row W b5 1 _ _ _ h5]; rfl
    obtain ⟨o, ho⟩ : ∃ o, oOf bs x.1.1 = o := ⟨_, rfl⟩
    have HO : Hid (openB (ndO bs x.1.1).b.k = o) := Lib.hid ho
    have HC : Hid (∀ W1, CallsIn (Fence.wide.inRound l) 3 Try.prog 34 #[.int .i64 (ndO bs x.1.1).b.k] W1 fun e w' => e = .returned (.bool o) ∧ W1 = w') :=
      Lib.hid fun W1 => CallsIn.inRound l (callsIn_wide.2 (open_is _ _ HO.out W1))
    have HX := Lib.hid ho
    have hlen := opensBack_len bs pre
    have hvc := hv.cell
    have hsz2 := hw.size
    obtain ⟨xs, hxs⟩ : ∃ xs, opensBack bs pre = xs := ⟨_, rfl⟩
    have HXS := Lib.hid hxs
    rw [hxs] at hv hmv hvc hlen
    obtain ⟨m, hmm⟩ : ∃ m, xs.length = m := ⟨_, rfl⟩
    rw [hmm] at hv hmv hvc hlen
    have HMM := Lib.hid hmm
    have HV := Lib.hid hv
    have HMV := Lib.hid hmv
    clear hl0 hm0 hv hmv hw ho hxs hmm h5
    dsimp only
    cases o
    · gi_wp2_with (refine ⟨trivial, ?_⟩; gi_at_call 34; refine (HC.out _).mono ?_; rintro e w' ⟨rfl, rfl⟩)
      have h := HI.out
      obtain ⟨A2, c2, g1, g2⟩ := h.v
      exact ⟨KeepsFrom.refl _ _, kpO_refl _, h.l, h.m, ⟨A2, c2, by rw [opensBack_no bs pre x HX.out]; exact g1, by rw [opensBack_no bs pre x HX.out]; exact g2⟩, h.w⟩
    · gi_wp2_with (first
        | (refine ⟨trivial, ?_⟩; gi_at_call 34; refine (HC.out _).mono ?_; rintro e w' ⟨rfl, rfl⟩)
        | (gi_at_builtin; refine wpListIn_append_mine _ rfl (.tmp 17) (.tmp 19) rfl w.heap.size A' m c' xs rfl (HMV.out.alloc _) (some ⟨W.heap.size, 0, none⟩) 1 1 [(x.1.1 : Int)] rfl (one_src W (x.1.1 : Int)) (by omega) (by simp; omega) ?_; intro A1 c1' W1 h1; have hmo := boxed_more (by decide) HV.out HMV.out hsz2 (Nat.le_refl _) h1; have hcx := hmo.1.cell; have hfx := hmo.1.frozen))
      have h := HI.out
      obtain ⟨-, r2, r3, r4, r5, r6⟩ := hmo
      have q1 := r6 _ _ _ _ _ _ (by decide) (by decide) h.m
      have q2 : Boxed (W1.setCell ⟨w.heap.size, 0, none⟩ (.slice A1 (m + 1) c1')) bl 51 (.slice (some ⟨a, 0, none⟩) n c) := by
        have e1 := (h.l.alloc (.cells #[.int .i64 (x.1.1 : Int)] 3)).kept h1.2.1 (by rw [← ownBlock_blk A' m c']; exact (h.l.alloc (.cells #[.int .i64 (x.1.1 : Int)] 3)).not_row (by decide) (HMV.out.alloc (.cells #[.int .i64 (x.1.1 : Int)] 3)))
        exact e1.other (by omega) _
      have hlen2 : (opensBack bs (pre ++ [x])).length = m + 1 := by rw [opensBack_yes bs pre x HX.out, List.length_append, HXS.out, HMM.out]; rfl
      refine ⟨r4.from _, ⟨by rw [q2.cell, h.l.cell], fun _ => q1⟩, q2, q1, ⟨A1, c1', by rw [hlen2]; exact r2, ?_⟩, h.w.trans r5⟩
      rw [hlen2, opensBack_yes bs pre x HX.out, HXS.out]
      exact r3
  case done =>
    rintro D ys W hD hys ⟨l, m, ⟨A', c', hv, hmv⟩, hw⟩ hK
    have hc := hv.cell
    gi_wp2
    refine ⟨by simp, .inl ⟨_, _, rfl, run_takeDeferred hK, ?_⟩⟩
    have e : opensBack bs ys = opensT bs := by
      have hn := HN.out
      subst hn
      exact opensBack_all bs hys
    rw [e] at hmv
    have hmv2 : Mine (W.putObj D (.deferred none)) w.heap.size A' (opensT bs).length c' (opensT bs) := ownsRow_putObj hmv _ hK rfl
    refine ⟨_, results_tmp rfl _ _ _, _, rfl, ⟨A', c', by rw [← e]; rfl, hmv2.nums, fun _ ad h => ?_⟩, hw.trans (belowK_b (w := w) (Nat.le_refl _) W D _ _ (by omega) hK rfl rfl)⟩
    exact (hmv.lt ad.block (by rw [h]; rfl)).1
  case stop =>
    rintro D c pre W _ _ h _
    exact h.elim

end Go.Proofs.Ytmmmlegjhblfaaa.Tree
