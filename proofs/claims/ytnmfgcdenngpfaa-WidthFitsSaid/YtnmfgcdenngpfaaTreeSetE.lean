/- The contract of setEnds: a range over slices.Backward, whose body turns ends. -/
import Derived.Test.YtnmfgcdenngpfaaTreeBack
import Derived.Test.YtnmfgcdenngpfaaTreeEndsM
import Derived.Sort.CutIn
import Derived.Test.YtnmfgcdenngpfaaMoreToldIn
namespace Go.Proofs.Ytnmfgcdenngpfaa.Tree
open Go.RowKit Go.Shelf Go.Sort Go.Proofs.Ytnmfgcdenngpfaa.Record Go.Proofs.Ytnmfgcdenngpfaa.Script Go.Proofs.Ytnmfgcdenngpfaa.More

attribute [local go_sem] Oper.semAt_some

/-- A place, and an end that was told there. -/
abbrev Pl (n : Nat) := { k : Nat // k < n } × Int

def Pl.ix {n : Nat} (x : Pl n) : Nat := x.1.1

/-- All places from the last one on, as many as there are. -/
def Back {n : Nat} (pre : List (Pl n)) : Prop := pre.map Pl.ix = (List.range' (n - pre.length) pre.length).reverse

theorem Back.prev {n : Nat} {pre : List (Pl n)} {x : Pl n} (h : Back (pre ++ [x])) (hl : pre.length < n) : Back pre ∧ Pl.ix x = n - (pre.length + 1) := by
  unfold Back at h
  rw [List.map_append, List.length_append, List.length_cons, List.length_nil, Nat.zero_add] at h
  rw [range_back, show n - (pre.length + 1) + 1 = n - pre.length by omega] at h
  obtain ⟨h1, h2⟩ := List.append_inj' h (by simp)
  exact ⟨h1, by simpa using h2⟩

theorem Back.all {n : Nat} {ys : List (Pl n)} (h : ys.map Pl.ix = (List.range' 0 n).reverse) : Back ys ∧ ys.length = n := by
  have hl : ys.length = n := by have := congrArg List.length h; simpa using this
  refine ⟨?_, hl⟩
  unfold Back
  rw [hl, Nat.sub_self]
  exact h

section
variable (bs : List Bx) (n B g a c bt bl : Nat) (w0 : World)

/-- What a round keeps, and what it has told. -/
structure StE (pre : List (Pl n)) (W : World) : Prop where
  t : Boxed W bt 36 (.pointer (some ⟨g, 0, none⟩))
  b : Boxed W g 63 (.slice (some ⟨a, 0, none⟩) n c)
  l : Boxed W bl 61 (.slice (some ⟨a, 0, none⟩) n c)
  m : ∃ e, MineN W B (some ⟨a, 0, none⟩) n c (nodesE bs e n) ∧ (Back pre → EndsTo (dOf bs) n (n - pre.length) e)
  w : Below B w0 W

/-- What a round keeps, at the least. -/
def KpE (W W' : World) : Prop := W'.cell? ⟨bl, 0, none⟩ = W.cell? ⟨bl, 0, none⟩ ∧ ∀ e, MineN W B (some ⟨a, 0, none⟩) n c (nodesE bs e n) → ∃ e', MineN W' B (some ⟨a, 0, none⟩) n c (nodesE bs e' n)

theorem stE_own {N : Nat} (h1 : bt < N) (h2 : g < N) (h3 : bl < N) (h4 : a < N) (h5 : B ≤ N) (h6 : B ≤ w0.heap.size) : OwnFrom N (StE bs n B g a c bt bl w0) := by
  rintro pre W W' row ⟨t, b, l, ⟨e, hm, hi⟩, hw⟩ hg hr
  have ne : ∀ k, k < N → some k ≠ row := fun k hk e => by have := (hr k e.symm).1; omega
  refine ⟨t.kept hg (ne _ h1), b.kept hg (ne _ h2), l.kept hg (ne _ h3), ⟨e, hm.kept hg (fun k hk => ?_), hi⟩, hw.grown hg (Nat.le_trans h6 hw.size) (fun k hk => ?_)⟩
  · injection hk with hk; subst hk; exact fun e => ne _ h4 e.symm
  · have := (hr k hk).1; omega

end

theorem kpE_trans {bs : List Bx} {n B a c bl : Nat} {X Y Z : World} (h : KpE bs n B a c bl X Y) (k : KpE bs n B a c bl Y Z) : KpE bs n B a c bl X Z :=
  ⟨k.1.trans h.1, fun e he => by obtain ⟨e1, h1⟩ := h.2 e he; exact k.2 e1 h1⟩

theorem kpE_put {bs : List Bx} {n B a c bl N : Nat} (h1 : bl < N) (h2 : a < N) (W : World) (l : Nat) (o o' : Obj) (hl : N ≤ l) (_ : W.heap[l]? = some o) (_ : o.isCells = false) (_ : o.isWalk = false) : KpE bs n B a c bl W (W.putObj l o') := by
  refine ⟨?_, fun e he => ⟨e, he.kept (grownBy_putObj' W l o') (fun k hk e => ?_)⟩⟩
  · have : (W.putObj l o').heap[bl]? = W.heap[bl]? := World.putObj_heap_other (by omega)
    simp [World.cell?, this]
  · injection hk with hk
    injection e with e
    have hk' : a = k := hk
    omega

/-- The nodes of a world in which none but ends have been turned. -/
theorem nodes_read {bs : List Bx} {n B a c : Nat} {W : World} {e : Nat → Int} (h : MineN W B (some ⟨a, 0, none⟩) n c (nodesE bs e n)) (k : Nat) (hk : k < n) : AtN W ⟨a, k * 17, none⟩ ⟨bs.getD k noB, par (dOf bs) k, e k, (ctx (dOf bs) (oOf bs) k : Int)⟩ := by
  refine AtN.of_mine h k _ ?_
  have := nodesE_at bs e hk
  rw [← this]
  simp [List.getD, nodesE_len, hk]

theorem kpE_refl {bs : List Bx} {n B a c bl : Nat} (W : World) : KpE bs n B a c bl W W := ⟨rfl, fun e h => ⟨e, h⟩⟩

theorem ends_put {bs : List Bx} {n B a c : Nat} {W : World} {e : Nat → Int} (h : MineN W B (some ⟨a, 0, none⟩) n c (nodesE bs e n)) (k : Nat) (hk : k < n) (v : Int) :
    MineN (W.setCell ⟨a, k * 17 + 15, none⟩ (.int .i64 v)) B (some ⟨a, 0, none⟩) n c (nodesE bs (putE e k v) n) ∧ W.grownBy (W.setCell ⟨a, k * 17 + 15, none⟩ (.int .i64 v)) (some a) := by
  have hx : (nodesE bs e n)[k]? = some ⟨bs.getD k noB, par (dOf bs) k, e k, (ctx (dOf bs) (oOf bs) k : Int)⟩ := by
    rw [← nodesE_at bs e hk]
    simp [List.getD, nodesE_len, hk]
  have := MineE.stored h k _ ⟨bs.getD k noB, par (dOf bs) k, v, (ctx (dOf bs) (oOf bs) k : Int)⟩ hx 15 (by decide) (.int .i64 v) rfl
  rw [nodesE_put] at this
  exact this

theorem grown_trans {W X Y : World} {a : Nat} (h : W.grownBy X (some a)) (k : X.grownBy Y (some a)) : W.grownBy Y (some a) :=
  ⟨k.os.trans h.os, k.tape.trans h.tape, k.output.trans h.output, Nat.le_trans h.size k.size, fun i hi hne => (k.block i (Nat.lt_of_lt_of_le hi h.size) hne).trans (h.block i hi hne)⟩

theorem grown_any {W X : World} (a : Nat) (h : Below W.heap.size W X) : W.grownBy X (some a) := ⟨h.os, h.tape, h.output, h.size, fun k hk _ => h.block k hk⟩

/-- How a round ends. -/
theorem round_end {bs : List Bx} {n B g a c bt bl N : Nat} {w0 : World} {pre : List (Pl n)} {x : Pl n} {W W' : World} (h : StE bs n B g a c bt bl w0 pre W) (hg : W.grownBy W' (some a)) (e2 : Nat → Int)
    (hm2 : MineN W' B (some ⟨a, 0, none⟩) n c (nodesE bs e2 n)) (hi2 : Back (pre ++ [x]) → EndsTo (dOf bs) n (n - (pre ++ [x]).length) e2) (h1 : bt ≠ a) (h2 : g ≠ a) (h3 : bl ≠ a) (h4 : a < N) (h5 : B ≤ a) (h6 : B ≤ w0.heap.size) :
    KeepsFrom N W W' ∧ KpE bs n B a c bl W W' ∧ StE bs n B g a c bt bl w0 (pre ++ [x]) W' := by
  have ne : ∀ k, k ≠ a → some k ≠ some a := fun k hk e => hk (Option.some.inj e)
  have hl := h.l.kept hg (ne _ h3)
  refine ⟨KeepsFrom.of_grownBy hg (fun j e => by cases e; exact h4), ⟨?_, fun _ _ => ⟨e2, hm2⟩⟩, h.t.kept hg (ne _ h1), h.b.kept hg (ne _ h2), hl, ⟨e2, hm2, hi2⟩, h.w.grown hg (Nat.le_trans h6 h.w.size) (fun k e => by cases e; exact h5)⟩
  rw [hl.cell, h.l.cell]

set_option maxRecDepth 100000 in
set_option maxHeartbeats 4000000 in
theorem setends_yes (w : World) (B g : Nat) (A : Option Addr) (c : Nat) (bs : List Bx) (hn : bs.length ≤ 1000) (h0 : 0 < bs.length) (hf : Fine bs bs.length) (hB : B ≤ w.heap.size) (hT : InT w B g A c (nodesE bs (fun _ => 0) bs.length)) :
    CallsIn Fence.wide 6 Try.prog 37 #[.pointer (some ⟨g, 0, none⟩)] w fun e w' => (∃ v, e = .returned v) ∧ InT w' B g A c (nodesOf bs) ∧ Below B w w' := by
  have hro : Fence.wide.round = none := rfl
  obtain ⟨n, hnn⟩ : ∃ n, bs.length = n := ⟨_, rfl⟩
  have HSH := Lib.hid (hf.shape h0)
  have HTA : Hid (∀ e, EndsTo (dOf bs) n 0 e → nodesE bs e n = nodesOf bs) := Lib.hid (by subst hnn; exact fun e h => told_all h)
  obtain ⟨hb, hm⟩ := hT
  rw [nodesE_len, hnn] at hb hm
  rw [hnn] at hn h0 HSH
  have HN := Lib.hid hnn
  clear hnn hf
  obtain ⟨a, rfl, ha1, ha2, -, -⟩ := hm.form h0
  have hga : g ≠ a := by
    have := hb.not_row (by decide) hm
    intro e; subst e; exact this rfl
  have hgl := hb.lt
  have hc0 := hb.cell
  refine callsIn_of_wp_marks Try.func37 rfl trivial ?_ hro
  simp only [Try.ntmps37, List.size_toArray, List.length_cons, List.length_nil, Nat.reduceAdd, Nat.reduceSub, Array.replicate_succ, Array.replicate_zero, List.push_toArray, List.append_toArray, List.nil_append, List.cons_append]
  gi_wp2_with (refine ⟨trivial, ?_⟩; gi_at_call 42; refine (back_in Fence.wide 5 trivial hro _ _ _ _).mono ?_; rintro e w' ⟨rfl, rfl⟩)
  obtain ⟨bt, hbt⟩ : ∃ bt, w.heap.size = bt := ⟨_, rfl⟩
  obtain ⟨bl, hbl⟩ : ∃ bl, w.heap.size + 1 = bl := ⟨_, rfl⟩
  have b1 := (Boxed.new w 36 (.pointer (some ⟨g, 0, none⟩))).alloc (.cells #[.slice (some ⟨a, 0, none⟩) n c] 61)
  have b2 := Boxed.new (w.alloc (.cells #[.pointer (some ⟨g, 0, none⟩)] 36)) 61 (.slice (some ⟨a, 0, none⟩) n c)
  have b3 := (hb.alloc (.cells #[.pointer (some ⟨g, 0, none⟩)] 36)).alloc (.cells #[.slice (some ⟨a, 0, none⟩) n c] 61)
  have m3 := (hm.alloc (.cells #[.pointer (some ⟨g, 0, none⟩)] 36)).alloc (.cells #[.slice (some ⟨a, 0, none⟩) n c] 61)
  have k3 := ba2 w (.cells #[.pointer (some ⟨g, 0, none⟩)] 36) (.cells #[.slice (some ⟨a, 0, none⟩) n c] 61)
  have hsz : ((w.alloc (.cells #[.pointer (some ⟨g, 0, none⟩)] 36)).alloc (.cells #[.slice (some ⟨a, 0, none⟩) n c] 61)).heap.size = w.heap.size + 2 := by simp
  simp only [World.size_alloc] at b2
  rw [hbt] at b1
  rw [hbl] at b2 ⊢
  rw [hbt]
  generalize (w.alloc (.cells #[.pointer (some ⟨g, 0, none⟩)] 36)).alloc (.cells #[.slice (some ⟨a, 0, none⟩) n c] 61) = W0 at *
  clear hc0 hb hm
  have hbta : bt ≠ a := by omega
  have hbla : bl ≠ a := by omega
  have hB3 : Below B w W0 := k3.mono hB
  refine wpIn_rangeFunc_ownG hro (by omega) (gf := 47) (lb := #[.pointer (some ⟨bl, 0, none⟩)]) rfl trivial (enters_of Try.func47 (by kernel_rfl) rfl)
    (back_stops (α := Pl n) Pl.ix (fun x => ⟨bs.getD x.1.1 noB, par (dOf bs) x.1.1, x.2, (ctx (dOf bs) (oOf bs) x.1.1 : Int)⟩) (KpE bs n B a c bl) (fun h k => kpE_trans h k) kpE_refl Fence.wide 5 trivial hro (by omega) bl n c a hn W0 b2.cell (fun _ _ h => h.1)
      (fun W W' h1 h2 k hk => by
        obtain ⟨e', he'⟩ := h2.2 _ (m3.below h1)
        exact ⟨⟨⟨k, hk⟩, e' k⟩, rfl, nodes_read he' k hk⟩))
    (fun h k => kpE_trans h k) (fun W l o o' h1 h2 h3 h4 => kpE_put (N := W0.heap.size) (by omega) (by omega) W l o o' h1 h2 h3 h4) (Below.refl _ _) (fun _ => rfl)
    (StE bs n B g a c bt bl w) (fun _ _ _ => False)
    (stE_own bs n B g a c bt bl w (by omega) (by omega) (by omega) (by omega) (by omega) hB)
    (fun _ _ _ _ _ hs _ _ => hs)
    ⟨b1, b3, b2, ⟨_, m3, fun _ => told_start _ _⟩, hB3⟩
    (fun x => { tmps := #[.pointer (some ⟨g, 0, none⟩), .pointer (some ⟨bt, 0, none⟩), .int .i64 (x.1.1 : Int), undef, undef, .pointer (some ⟨g, 0, none⟩), .pointer (some ⟨g, 0, none⟩), .pointer (some ⟨g, 0, none⟩), .slice (some ⟨a, 0, none⟩) n c, .func (.func 47) #[] #[.pointer (some ⟨bl, 0, none⟩)], .int .i64 (x.1.1 : Int), Nd.v ⟨bs.getD x.1.1 noB, par (dOf bs) x.1.1, x.2, (ctx (dOf bs) (oOf bs) x.1.1 : Int)⟩, undef, undef, undef, undef, undef, undef, undef, undef, undef, undef, undef, undef, undef, undef, undef, undef, undef, undef, undef, undef, undef, undef, undef, undef, undef, undef, undef, undef, undef, undef, undef, undef, undef, undef, undef, undef, undef, undef, undef, undef, undef, undef], defers := [] }) ?assign ?body ?done ?stop
  case assign =>
    intro l x W K hK
    gi_wp2
    exact hK
  case body =>
    rintro l pre ⟨⟨k, hk⟩, v⟩ W hS hlt
    have HS := Lib.hid hS
    obtain ⟨b1, b3, b2, ⟨e, hm, hi⟩, hw⟩ := hS
    have HM := Lib.hid hm
    have HI := Lib.hid hi
    have hc1 := b1.cell
    have hc2 := b3.cell
    have hx := nodes_read hm k hk
    obtain ⟨-, n14, n15, -⟩ := hx
    have hz := hm.frozen
    have hkn : (k : Int) < (n : Int) := by omega
    have hwk : IntKind.i64.wrap ((k : Int) + 1) = (k : Int) + 1 := IntWalk.i64_in _ (by omega)
    clear b1 b3 b2 hm hi hw
    dsimp only
    gi_upto_region 5 with fail
    have hv0 : (if e k < (k : Int) + 1 then (k : Int) + 1 else e k) = max (e k) ((k : Int) + 1) := by split <;> omega
    try rw [hv0]
    obtain ⟨v1, hv1⟩ : ∃ v1, max (e k) ((k : Int) + 1) = v1 := ⟨_, rfl⟩
    rw [hv1]
    have HV : Hid (v1 = max (e k) ((k : Int) + 1)) := Lib.hid hv1.symm
    clear hv0
    have hp := ends_put HM.out k hk v1
    generalize W.setCell ⟨a, k * 17 + 15, none⟩ (.int .i64 v1) = W1 at hp ⊢
    obtain ⟨hm1, hg1⟩ := hp
    have hd1 : W1.cell? ⟨bt, 0, none⟩ = some (.pointer (some ⟨g, 0, none⟩)) := hg1.cell hc1 (fun e => hbta (Option.some.inj e))
    have hd2 : W1.cell? ⟨g, 0, none⟩ = some (.slice (some ⟨a, 0, none⟩) n c) := hg1.cell hc2 (fun e => hga (Option.some.inj e))
    have HM1 := Lib.hid hm1
    have HG1 := Lib.hid hg1
    clear n14 n15 hc1 hc2 hz HM hv1 hm1 hg1
    obtain ⟨-, n14, n15, -⟩ := nodes_read HM1.out k hk
    have hz := HM1.out.frozen
    rcases Nat.eq_zero_or_pos k with hk0 | hk0
    · subst hk0
      have hp0 : par (dOf bs) 0 = -1 := par_zero _
      gi_wp2_with fail
      refine round_end HS.out HG1.out _ HM1.out (fun hb => ?_) hbta hga hbla (by omega) ha1 hB
      obtain ⟨hb1, hb2⟩ := hb.prev hlt
      have hb3 : 0 = n - (pre.length + 1) := hb2
      have hi := HI.out hb1
      rw [show n - pre.length = 1 by omega] at hi
      rw [List.length_append, List.length_cons, List.length_nil, ← hb3, HV.out]
      exact told_first HSH.out hi
    · obtain ⟨q, hq, hqk, -, -⟩ := HSH.out.parent k hk0 hk
      have HQ := Lib.hid hq
      have hq1 : (par (dOf bs) k == -1) = false := by rw [beq_eq_false_iff_ne]; omega
      have hqn : (q : Int) < (n : Int) := by omega
      have hqs : q < n := by omega
      gi_upto_region 6 with fail
      clear n14
      obtain ⟨-, n14, -, -⟩ := nodes_read HM1.out k hk
      change _ = some (Value.int .i64 (par (dOf bs) k)) at n14
      rw [HQ.out] at n14
      refine wpIn_region_told [.val (.pointer (some ⟨g, 0, none⟩)), .val (.pointer (some ⟨g, 0, none⟩)), .val (.pointer (some ⟨g, 0, none⟩)), .val (.slice (some ⟨a, 0, none⟩) n c), .val (.pointer (some ⟨a, k * 17, none⟩)), .val (.pointer (some ⟨a, k * 17, none⟩)), .val (.pointer (some ⟨a, k * 17 + 14, none⟩)), .val (.int .i64 (q : Int)), .val (.pointer (some ⟨a, q * 17, none⟩))] (by kernel_rfl) (by kernel_rfl) (by kernel_rfl) ?_ ?_
      · simp only [Told.fill, Told.Leave.value]
        refine ⟨?_, ?_, ?_, ?_, ?_, ?_, ?_, ?_, ?_, trivial⟩
        · intro gg w' hw hk
          have hh := (hw.cell (p := ⟨bt, 0, none⟩) (block_lt_of_cell hd1)).trans hd1
          go_simp
          exact ⟨rfl, rfl⟩
        · intro gg w' hw hk
          go_simp
          exact ⟨rfl, rfl⟩
        · intro gg w' hw hk
          go_simp
          exact ⟨rfl, rfl⟩
        · intro gg w' hw hk
          have hh := (hw.cell (p := ⟨g, 0, none⟩) (block_lt_of_cell hd2)).trans hd2
          go_simp
          exact ⟨rfl, rfl⟩
        · intro gg w' hw hk
          go_simp
          exact ⟨rfl, rfl⟩
        · intro gg w' hw hk
          go_simp
          exact ⟨rfl, rfl⟩
        · intro gg w' hw hk
          go_simp
          exact ⟨rfl, rfl⟩
        · intro gg w' hw hk
          have hh := (hw.cell (p := ⟨a, k * 17 + 14, none⟩) (block_lt_of_cell n14)).trans n14
          go_simp
          exact ⟨rfl, rfl⟩
        · intro gg w' hw hk
          go_simp
          exact ⟨rfl, rfl⟩
      · intro gg W2 qq hbox hap
        clear hbox hap
        simp only [Told.fill, Told.Leave.value, List.length_cons, List.length_nil, Nat.reduceAdd, Nat.reduceSub]
        refine wpAnyIn_ready (rs := [9]) (by kernel_rfl) (by simp) ?_
        refine AllReadyIn.cons rfl (fun K hK => ?_) AllReadyIn.nil
        go_simp
        refine hK _ _ ?_
        clear hK K
        refine wpAnyIn_done (by kernel_rfl) ?_ _
        have HM2 := Lib.hid (HM1.out.below qq)
        have HG2 := Lib.hid (grown_trans HG1.out (grown_any a qq))
        clear n14 n15 hd1 hd2 hz HM1 HG1 qq
        obtain ⟨-, -, n15, -⟩ := nodes_read HM2.out k hk
        obtain ⟨-, -, m15, -⟩ := nodes_read HM2.out q hqs
        change _ = some (Value.int .i64 (putE e k v1 k)) at n15
        change _ = some (Value.int .i64 (putE e k v1 q)) at m15
        rw [putE_same] at n15
        rw [putE_other e v1 (show q ≠ k by omega)] at m15
        gi_upto_region 7 with fail
        refine wpIn_region_told [.val (.pointer (some ⟨a, q * 17, none⟩)), .val (.pointer (some ⟨a, q * 17, none⟩)), .val (.pointer (some ⟨a, q * 17, none⟩)), .val (.pointer (some ⟨a, q * 17 + 15, none⟩)), .val (.int .i64 (e q)), .val (.pointer (some ⟨a, k * 17, none⟩)), .val (.pointer (some ⟨a, k * 17, none⟩)), .val (.pointer (some ⟨a, k * 17 + 15, none⟩)), .val (.int .i64 v1), .val (.int .i64 (if e q < v1 then v1 else e q))] (by kernel_rfl) (by kernel_rfl) (by kernel_rfl) ?_ ?_
        · simp only [Told.fill, Told.Leave.value]
          refine ⟨?_, ?_, ?_, ?_, ?_, ?_, ?_, ?_, ?_, ?_, trivial⟩
          · intro gg w' hw hk
            go_simp
            exact ⟨rfl, rfl⟩
          · intro gg w' hw hk
            go_simp
            exact ⟨rfl, rfl⟩
          · intro gg w' hw hk
            go_simp
            exact ⟨rfl, rfl⟩
          · intro gg w' hw hk
            go_simp
            exact ⟨rfl, rfl⟩
          · intro gg w' hw hk
            have hh := (hw.cell (p := ⟨a, q * 17 + 15, none⟩) (block_lt_of_cell m15)).trans m15
            go_simp
            exact ⟨rfl, rfl⟩
          · intro gg w' hw hk
            go_simp
            exact ⟨rfl, rfl⟩
          · intro gg w' hw hk
            go_simp
            exact ⟨rfl, rfl⟩
          · intro gg w' hw hk
            go_simp
            exact ⟨rfl, rfl⟩
          · intro gg w' hw hk
            have hh := (hw.cell (p := ⟨a, k * 17 + 15, none⟩) (block_lt_of_cell n15)).trans n15
            go_simp
            exact ⟨rfl, rfl⟩
          · intro gg w' hw hk
            go_simp
            first | exact ⟨rfl, rfl⟩ | (rw [show (if e q < v1 then v1 else e q) = max (e q) v1 from by split <;> omega]; exact ⟨rfl, rfl⟩)
        · intro gg W3 qq hbox hap
          clear hbox hap
          simp only [Told.fill, Told.Leave.value, List.length_cons, List.length_nil, Nat.reduceAdd, Nat.reduceSub]
          have hv0 : (if e q < v1 then v1 else e q) = max (e q) v1 := by split <;> omega
          try rw [hv0]
          obtain ⟨v2, hv2⟩ : ∃ v2, max (e q) v1 = v2 := ⟨_, rfl⟩
          rw [hv2]
          have HV2 : Hid (v2 = max (e q) v1) := Lib.hid hv2.symm
          clear hv0
          have hm3 := HM2.out.below qq
          have hg3 := grown_trans HG2.out (grown_any a qq)
          obtain ⟨-, -, p15, -⟩ := nodes_read hm3 q hqs
          have hz := hm3.frozen
          have hp := ends_put hm3 q hqs v2
          have HP := Lib.hid hp
          have HG3 := Lib.hid hg3
          clear hp hg3 hm3 n15 m15 HM2 HG2 qq hv2
          refine wpAnyIn_ready (rs := [10]) (by kernel_rfl) (by simp) ?_
          refine AllReadyIn.cons rfl (fun K hK => ?_) AllReadyIn.nil
          go_simp
          refine hK _ _ ?_
          clear hK K
          refine wpAnyIn_ready (rs := [11]) (by kernel_rfl) (by simp) ?_
          refine AllReadyIn.cons rfl (fun K hK => ?_) AllReadyIn.nil
          go_simp
          refine hK _ _ ?_
          clear hK K
          refine wpAnyIn_ready (rs := [12]) (by kernel_rfl) (by simp) ?_
          refine AllReadyIn.cons rfl (fun K hK => ?_) AllReadyIn.nil
          go_simp
          refine hK _ _ ?_
          clear hK K
          refine wpAnyIn_done (by kernel_rfl) ?_ _
          refine round_end HS.out (grown_trans HG3.out HP.out.2) _ HP.out.1 (fun hb => ?_) hbta hga hbla (by omega) ha1 hB
          obtain ⟨hb1, hb2⟩ := hb.prev hlt
          have hb3 : k = n - (pre.length + 1) := hb2
          have hi := HI.out hb1
          rw [show n - pre.length = k + 1 by omega] at hi
          rw [List.length_append, List.length_cons, List.length_nil, ← hb3, HV2.out, HV.out]
          exact told_next HSH.out hk0 hk q HQ.out hi
  case done =>
    rintro D ys W hD hys ⟨t, b, l, ⟨e, hm, hi⟩, hw⟩ hK
    obtain ⟨h1, h2⟩ := Back.all hys
    have he := hi h1
    rw [h2, Nat.sub_self] at he
    have hnodes := HTA.out e he
    rw [hnodes] at hm
    gi_wp2
    refine ⟨by simp, .inl ⟨_, _, rfl, run_takeDeferred hK, ?_⟩⟩
    have hlen : (nodesOf bs).length = n := by rw [nodesOf_len]; exact HN.out
    refine ⟨_, results_none rfl _ _ _, ⟨_, rfl⟩, ⟨?_, ?_⟩, ?_⟩
    · rw [hlen]
      exact b.kept (grownBy_putObj' W D _) (fun e => by injection e with e; omega)
    · rw [hlen]
      refine hm.kept (grownBy_putObj' W D _) (fun k hk e => ?_)
      injection hk with hk
      injection e with e
      have hk' : a = k := hk
      omega
    · exact hw.trans (belowK_b (w := w) hB W D _ _ (by omega) hK rfl rfl)
  case stop =>
    rintro D c pre W _ _ h _
    exact h.elim

end Go.Proofs.Ytnmfgcdenngpfaa.Tree
