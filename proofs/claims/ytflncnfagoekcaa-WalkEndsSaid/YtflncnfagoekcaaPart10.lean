/- Texts of this proof that follow each other, in one file. -/
import Derived.Test.YtflncnfagoekcaaPart9
import Derived.RangeFuncNested
import Derived.RangeFuncBound
import Derived.RangeFuncCalls
import Derived.RangeFuncLeaves
import Derived.RangeFuncBox
import Derived.Shelf.Abstract
import Derived.Shelf.RegionOpen
import Derived.WalkKit
import Derived.OwnWalkIn
import Derived.TacticsInMore
import Derived.LoopNIn
import Derived.LoopIn
import Derived.Laws.StructEq
import Derived.Test.YtflncnfagoekcaaPart1
/-! The contract of the document's Members; the law's begin. -/
namespace Go.Proofs.Ytflncnfagoekcaa.Walk
open Go.RowKit Go.Sort Go.Proofs.Ytflncnfagoekcaa.Record Go.Proofs.Ytflncnfagoekcaa.Script Go.Proofs.Ytflncnfagoekcaa.Tree Go.Proofs.Ytflncnfagoekcaa.More

set_option maxRecDepth 100000 in
set_option maxHeartbeats 1000000 in
theorem refmem_out (A : Option Addr) (n c : Nat) (bs : List Bx) (i : Int) (w : World) (hn : n = bs.length) (hi : ¬ hasT bs i) :
    Calls Try.prog 17 #[.slice A n c, .int .i64 i] w fun e w' => (∃ A' c', e = .returned (.slice A' 0 c') ∧ Mine w' w.heap.size A' 0 c' []) ∧ Below w.heap.size w w' := by
  have hi' : i < 0 ∨ (n : Int) ≤ i := by
    by_cases h : i < 0
    · exact .inl h
    · refine .inr ?_
      rcases Int.lt_or_le i (n : Int) with h2 | h2
      · exact absurd ⟨by omega, by rw [← hn]; exact h2⟩ hi
      · exact h2
  clear hi
  go_enter Try.func17, Try.ntmps17
  by_cases h : i < 0
  · go_wp2_with fail
    go_ret
    exact ⟨⟨_, _, rfl, none_mine _ _ (Nat.le_refl _)⟩, ba1 _ _⟩
  · have h2 : (n : Int) ≤ i := by omega
    go_wp2_with fail
    go_ret
    exact ⟨⟨_, _, rfl, none_mine _ _ (Nat.le_refl _)⟩, ba1 _ _⟩

set_option maxRecDepth 100000 in
set_option maxHeartbeats 1000000 in
theorem refmem_in (A : Option Addr) (n c : Nat) (bs : List Bx) (i : Nat) (w : World) (hn : n = bs.length) (hlen : n ≤ 1000) (hi : i < n) (hx : Boxes w w.heap.size A bs) (hd : ∀ k, k < n → 0 ≤ dOf bs k ∧ dOf bs k ≤ 256) :
    Calls Try.prog 17 #[.slice A n c, .int .i64 (i : Int)] w fun e w' => (∃ A' c', e = .returned (.slice A' (memT bs (i : Int)).length c') ∧ Mine w' w.heap.size A' (memT bs (i : Int)).length c' (memT bs (i : Int))) ∧ Below w.heap.size w w' := by
  have HX := Lib.hid hx
  have HN := Lib.hid hn
  have HD := Lib.hid hd
  obtain ⟨ad, hA, hab, hcx⟩ := hx i (by rw [← hn]; exact hi)
  subst hA
  obtain ⟨y, hy⟩ : ∃ y, bs.getD i noB = y := ⟨_, rfl⟩
  rw [hy] at hcx
  have ho : oOf bs i = openB y.k := by unfold oOf; rw [hy]
  have hcx2 := hcx.below (by rw [block_of_add]; exact hab) (ba1 w (.cells #[] 3))
  obtain ⟨c0, c1, c2, c3, c4, c5, c6, c7, c8, c9, c10, c11, c12, c13⟩ := hcx2
  have hin : (i : Int) < (n : Int) := by omega
  have hi0 : ¬ (i : Int) < 0 := by omega
  have hni : decide (n ≤ i) = false := by simp; omega
  have HR := Lib.hid (fun w => refopen_any y w)
  obtain ⟨o, hov⟩ : ∃ o, openB y.k = o := ⟨_, rfl⟩
  rw [hov] at HR ho
  have HO := Lib.hid ho
  have hwi : IntKind.i64.wrap ((i : Int) + 1) = ((i + 1 : Nat) : Int) := by rw [IntWalk.i64_in _ (by omega)]; omega
  obtain ⟨e1, e2, -, -⟩ := en_spec (dOf bs) n i hi
  clear hy ho hov hx hn hab hcx hd
  have hB := Lib.hid (ba1 w (.cells #[] 3))
  have hM := Lib.hid (none_mine w w.heap.size (Nat.le_refl _))
  obtain ⟨ms, hms⟩ : ∃ ms, memT bs (i : Int) = ms := ⟨_, rfl⟩
  rw [hms]
  have HMS := Lib.hid hms
  clear hms
  go_enter Try.func17, Try.ntmps17
  go_upto_region 2 with fail
  generalize hW : World.alloc w _ = W at *
  have HB : Hid (Below w.heap.size w W) := hB
  have HM : Hid (Mine W w.heap.size (some ⟨w.heap.size, 0, none⟩) 0 0 []) := hM
  clear hB hM hW
  cases o
  · have he : memT bs (i : Int) = [] := memT_no (fun h => by have h2 := h.2; rw [Int.toNat_natCast, HO.out] at h2; cases h2)
    rw [HMS.out] at he
    subst he
    go_wp2_with (first | (go_at_call 32; refine (HR.out _).mono ?_; rintro e w1 ⟨rfl, k1⟩))
    go_ret
    exact ⟨⟨_, _, rfl, HM.out.below k1⟩, thru HB.out k1⟩
  · have hN := HN.out
    have he : memT bs (i : Int) = (memTo bs i (en (dOf bs) n i)).map Int.ofNat := by rw [hN]; exact memT_yes (by rw [← hN]; exact hi) HO.out
    rw [HMS.out] at he
    have HE := Lib.hid (fun w1 (k : Below w.heap.size w w1) => refend_any (some ad) n c bs i w1 HN.out (by omega) hi (HX.out.thru k))
    obtain ⟨q, hq⟩ : ∃ q, en (dOf bs) n i = q := ⟨_, rfl⟩
    rw [hq] at HE e1 e2 he
    have HME := Lib.hid he
    clear hq hN he
    go_upto_region 4 with (first | (go_at_call 32; refine (HR.out _).mono ?_; rintro e w1 ⟨rfl, k1⟩))
    have K1 := Lib.hid (thru HB.out k1)
    have HM1 := Lib.hid (HM.out.below k1)
    clear c0 c1 c2 c3 c4 c5 c6 c7 c8 c9 c10 c11 c12 c13 k1 HB HM
    go_wp2_with fail
    go_loopw [5, 6] (fun s t wr => ∃ m : Nat, ∃ A' : Option Addr, ∃ l c' : Nat, i + 1 ≤ m ∧ m ≤ q ∧ t = .int .i64 (m : Int) ∧ s = .slice A' l c' ∧ l ≤ m ∧ Hid (l = (memTo bs i m).length ∧ Mine wr w.heap.size A' l c' ((memTo bs i m).map Int.ofNat) ∧ Below w.heap.size w wr)) (fun _ t _ => q - (intOf t).toNat)
    case atStart => exact ⟨i + 1, _, 0, 0, by omega, by omega, rfl, rfl, by omega, Lib.hid ⟨by rw [memTo_start]; rfl, by rw [memTo_start]; exact HM1.out, K1.out⟩⟩
    case round =>
      clear HM1 K1
      obtain ⟨m, A', l, c', hm1, hm2, rfl, rfl, hlm, H⟩ := hrel
      by_cases hlt : m < q
      · have hmq : (m : Int) < (q : Int) := by omega
        have hwm : IntKind.i64.wrap ((m : Int) + 1) = ((m + 1 : Nat) : Int) := by rw [IntWalk.i64_in _ (by omega)]; omega
        go_upto_region 7 with (first | (go_at_call 33; refine (HE.out _ H.out.2.2).mono ?_; rintro e w1 ⟨rfl, k1⟩))
        have HM1 := Lib.hid (H.out.2.1.below k1)
        have K1 := Lib.hid (thru H.out.2.2 k1)
        clear k1
        have HC := Lib.hid (refctx_any (some ad) n c bs m w1 HN.out (by omega) (by omega) (HX.out.thru K1.out) (fun k hk => HD.out k (by omega)))
        have HNX := Lib.hid (memTo_next bs i m)
        obtain ⟨x, hx⟩ : ∃ x, ctx (dOf bs) (oOf bs) m = x := ⟨_, rfl⟩
        rw [hx] at HC HNX
        clear hx
        by_cases hxi : x = i
        · have hb : ((x : Int) == (i : Int)) = true := by simp [hxi]
          go_wp2_with (first
            | (go_at_call 37; refine HC.out.mono ?_; rintro e w2 ⟨rfl, k2⟩; have HM2 := Lib.hid (HM1.out.below k2); have K2 := Lib.hid (thru K1.out k2); clear k2)
            | (at_builtin; refine wpList_append_mine _ rfl (.tmp 39) (.tmp 41) rfl w.heap.size A' l c' ((memTo bs i m).map Int.ofNat) rfl (HM2.out.alloc _) (some ⟨w2.heap.size, 0, none⟩) 1 1 [(m : Int)] rfl (one_src w2 (m : Int)) (by omega) (by have := K2.out.size; simp; omega) ?_; intro A1 c1' W1 h1; have hb1 := h1.below (HM2.out.alloc _) (K2.out.alloc K2.out.size _) (Nat.le_refl _) (by have := K2.out.size; simp; omega); have HM5 := Lib.hid h1.1; have K5 := Lib.hid hb1; clear h1 hb1))
          go_roundw
          case rel =>
            refine ⟨m + 1, A1, l + 1, c1', by omega, by omega, by go_num, rfl, by omega, Lib.hid ⟨?_, ?_, K5.out⟩⟩
            · rw [HNX.out, if_pos ⟨by omega, hxi⟩]; simp [H.out.1]
            · rw [HNX.out, if_pos ⟨by omega, hxi⟩, List.map_append]; exact HM5.out
          case measure => simp [intOf]; omega
        · have hb : ((x : Int) == (i : Int)) = false := by rw [beq_eq_false_iff_ne]; omega
          go_wp2_with (first
            | (go_at_call 37; refine HC.out.mono ?_; rintro e w2 ⟨rfl, k2⟩; have HM2 := Lib.hid (HM1.out.below k2); have K2 := Lib.hid (thru K1.out k2); clear k2))
          go_roundw
          case rel =>
            refine ⟨m + 1, A', l, c', by omega, by omega, by go_num, rfl, by omega, Lib.hid ⟨?_, ?_, K2.out⟩⟩
            · rw [HNX.out, if_neg (fun h => hxi h.2)]; simp [H.out.1]
            · rw [HNX.out, if_neg (fun h => hxi h.2)]; simpa using HM2.out
          case measure => simp [intOf]; omega
      · obtain rfl : m = q := by omega
        go_wp2_with (first | (go_at_call 33; refine (HE.out _ H.out.2.2).mono ?_; rintro e w1 ⟨rfl, k1⟩))
        go_ret
        have hl := H.out.1
        have hms := HME.out
        subst hms
        exact ⟨⟨A', c', by rw [List.length_map, ← hl]; rfl, by rw [List.length_map, ← hl]; exact H.out.2.1.below k1⟩, thru H.out.2.2 k1⟩

theorem refmem_any (A : Option Addr) (n c : Nat) (bs : List Bx) (i : Int) (w : World) (hn : n = bs.length) (hlen : n ≤ 1000) (hx : Boxes w w.heap.size A bs) (hd : ∀ k, k < n → 0 ≤ dOf bs k ∧ dOf bs k ≤ 256) :
    Calls Try.prog 17 #[.slice A n c, .int .i64 i] w fun e w' => (∃ A' c', e = .returned (.slice A' (memT bs i).length c') ∧ Mine w' w.heap.size A' (memT bs i).length c' (memT bs i)) ∧ Below w.heap.size w w' := by
  by_cases h : hasT bs i
  · obtain ⟨k, rfl⟩ : ∃ k : Nat, i = k := ⟨i.toNat, by have := h.1; omega⟩
    exact refmem_in A n c bs k w hn hlen (by have := h.2; omega) hx hd
  · have e := memT_no (bs := bs) (i := i) (fun x => h x.1)
    rw [e]
    exact refmem_out A n c bs i w hn h

end Go.Proofs.Ytflncnfagoekcaa.Walk

/-! What is asked of the program's walks, whatever they look like; the law's begin. -/
namespace Go.Proofs.Ytflncnfagoekcaa.Walk
open Go.RowKit Go.Sort Go.Proofs.Ytflncnfagoekcaa.Record Go.Proofs.Ytflncnfagoekcaa.Script Go.Proofs.Ytflncnfagoekcaa.Tree Go.Proofs.Ytflncnfagoekcaa.More

/-- What the captured variable in block B points to: a list of the body's own that it may write. -/
def owns (B : Option Nat) (W : World) (k : Nat) : Prop := ∃ b g n c, B = some b ∧ W.cell? ⟨b, 0, none⟩ = some (.slice (some g) n c) ∧ g.block = k

theorem owns_none (W : World) (k : Nat) : ¬ owns none W k := fun ⟨_, _, _, _, e, _⟩ => by cases e

theorem owns_same {B : Option Nat} {W W' : World} (h : ∀ b, B = some b → W'.heap[b]? = W.heap[b]?) (k : Nat) : owns B W' k ↔ owns B W k := by
  constructor
  · rintro ⟨b, g, n, c, e, hc, hk⟩
    exact ⟨b, g, n, c, e, (World.cell?_of_block (w := W) (a := ⟨b, 0, none⟩) (h b e)).symm.trans hc, hk⟩
  · rintro ⟨b, g, n, c, e, hc, hk⟩
    exact ⟨b, g, n, c, e, (World.cell?_of_block (w := W) (a := ⟨b, 0, none⟩) (h b e)).trans hc, hk⟩

/-- What a loop's body must leave as it was: what lay below s1 (the tree), what the iterator has captured (from a up to b), and from c on (where the walk began) each block of cells but the body's own list. -/
structure StayB (B : Option Nat) (s1 a b c : Nat) (W W' : World) : Prop where
  low : Below s1 W W'
  mid : ∀ k, a ≤ k → k < b → W'.heap[k]? = W.heap[k]?
  hi : ∀ k o, c ≤ k → W.heap[k]? = some o → o.isCells = true → ¬ owns B W k → W'.heap[k]? = some o ∧ ¬ owns B W' k
  wf : (∀ k, owns B W k → k < W.heap.size) → ∀ k, owns B W' k → k < W'.heap.size

theorem StayB.refl (B : Option Nat) (s1 a b c : Nat) (W : World) : StayB B s1 a b c W W := ⟨Below.refl _ _, fun _ _ _ => rfl, fun _ _ _ h _ ho => ⟨h, ho⟩, fun h => h⟩
theorem StayB.trans {B : Option Nat} {s1 a b c : Nat} {X Y Z : World} (h : StayB B s1 a b c X Y) (k : StayB B s1 a b c Y Z) : StayB B s1 a b c X Z :=
  ⟨h.low.trans k.low, fun i h1 h2 => (k.mid i h1 h2).trans (h.mid i h1 h2), fun i o h1 h2 h3 h4 => k.hi i o h1 (h.hi i o h1 h2 h3 h4).1 h3 (h.hi i o h1 h2 h3 h4).2, fun w => k.wf (h.wf w)⟩
theorem StayB.put {B : Option Nat} {s1 a b c N : Nat} (h1 : s1 ≤ N) (h2 : b ≤ N) (hB : ∀ x, B = some x → x < N) (W : World) (l : Nat) (o o' : Obj) (hl : N ≤ l) (ho : W.heap[l]? = some o) (hc : o.isCells = false) (_ : o.isWalk = false) : StayB B s1 a b c W (W.putObj l o') := by
  have hlt := (Array.getElem?_eq_some_iff.1 ho).1
  have hs : ∀ k, owns B (W.putObj l o') k ↔ owns B W k := fun k => owns_same (fun x e => World.putObj_heap_other (by have := hB x e; omega)) k
  refine ⟨(Below.refl s1 W).grown (grownBy_putObj' W l o') (by omega) (fun k e => by cases e; omega), fun k _ hk => World.putObj_heap_other (by omega), fun k q hk hq hqc hn => ⟨(World.putObj_heap_other (fun e => ?_)).trans hq, fun h => hn ((hs k).1 h)⟩, fun h k hk => ?_⟩
  · subst e; rw [ho] at hq; cases hq; rw [hc] at hqc; cases hqc
  · have := h k ((hs k).1 hk); simpa using this
theorem StayB.grown {s1 a b c : Nat} {W W' : World} {row : Option Nat} (hg : W.grownBy W' row) (hb : s1 ≤ W.heap.size ∧ b ≤ W.heap.size) (hr : ∀ r, row = some r → s1 ≤ r ∧ ¬ (a ≤ r ∧ r < b) ∧ r < c) : StayB none s1 a b c W W' :=
  ⟨(Below.refl s1 W).grown hg hb.1 (fun k e => (hr k e).1), fun k h1 h2 => hg.block k (by omega) (fun e => (hr k e.symm).2.1 ⟨h1, h2⟩), fun k o h1 h2 _ _ => ⟨(hg.block k (Array.getElem?_eq_some_iff.1 h2).1 (fun e => by have := (hr k e.symm).2.2; omega)).trans h2, owns_none _ _⟩, fun _ k h => (owns_none _ _ h).elim⟩

abbrev Stay (s1 a b : Nat) (W W' : World) : Prop := StayB none s1 a b b W W'
theorem Stay.refl (s1 a b : Nat) (W : World) : Stay s1 a b W W := StayB.refl _ _ _ _ _ W
theorem Stay.trans {s1 a b : Nat} {X Y Z : World} (h : Stay s1 a b X Y) (k : Stay s1 a b Y Z) : Stay s1 a b X Z := StayB.trans h k
theorem Stay.put {s1 a b N : Nat} (h1 : s1 ≤ N) (h2 : b ≤ N) (W : World) (l : Nat) (o o' : Obj) (hl : N ≤ l) (ho : W.heap[l]? = some o) (hc : o.isCells = false) (hw : o.isWalk = false) : Stay s1 a b W (W.putObj l o') :=
  StayB.put h1 h2 (fun _ e => by cases e) W l o o' hl ho hc hw
theorem Stay.grown {s1 a b : Nat} {W W' : World} {row : Option Nat} (hg : W.grownBy W' row) (hb : s1 ≤ W.heap.size ∧ b ≤ W.heap.size) (hr : ∀ r, row = some r → s1 ≤ r ∧ r < a ∧ r < b) : Stay s1 a b W W' :=
  StayB.grown hg hb (fun r e => by have := hr r e; omega)

/-- An event by value. -/
def encW (x : Ev) : Array Value := #[.agg #[.int .i64 x.a, .bool x.l]]

/-- A value that is gone through: these events, or a front of them. -/
def Gives (evs : List Ev) (s1 a : Nat) (r : Ending) (w' : World) : Prop :=
  ∃ f lb, r = .returned (.func (.func f) #[] lb) ∧ (∀ args w, (callFunc f args).run Try.prog w = .ok (.enter f args) w) ∧
    ∀ (B : Option Nat) (w0 : World), Below w'.heap.size w' w0 → (∀ x, B = some x → x < w0.heap.size) → (∀ k, owns B w0 k → k < w0.heap.size) → ∀ n, 1 ≤ n → SeqStopsK Fence.wide n Try.prog f lb encW (StayB B s1 a w'.heap.size w0.heap.size) (fun ys => ys = evs) (fun pre => pre <+: evs) evs.length w0

theorem Gives.plain {evs : List Ev} {s1 a : Nat} {w' : World} {f : Nat} {lb : Array Value}
    (h : ∀ (B : Option Nat) (w0 : World), Below w'.heap.size w' w0 → (∀ x, B = some x → x < w0.heap.size) → (∀ k, owns B w0 k → k < w0.heap.size) → ∀ n, 1 ≤ n → SeqStopsK Fence.wide n Try.prog f lb encW (StayB B s1 a w'.heap.size w0.heap.size) (fun ys => ys = evs) (fun pre => pre <+: evs) evs.length w0) (n : Nat) (hn : 1 ≤ n) :
    SeqStopsK Fence.wide n Try.prog f lb encW (Stay s1 a w'.heap.size) (fun ys => ys = evs) (fun pre => pre <+: evs) evs.length w' :=
  h none w' (Below.refl _ _) (fun _ e => by cases e) (fun k h => (owns_none _ _ h).elim) n hn

/-- The places of the boxes in which one stands, the outermost one first. -/
def pathD (d : Nat → Int) (i : Nat) : List Nat :=
  if _h : 0 ≤ par d i then pathD d (par d i).toNat ++ [(par d i).toNat] else []
termination_by i
decreasing_by have := par_bounds d i; omega

def pathT (bs : List Bx) (i : Int) : List Int := if hasT bs i then (pathD (dOf bs) i.toNat).map Int.ofNat else []

/-- The contracts of the program's walks. -/
structure WalkOk (T : World → Addr → List Bx → Prop) : Prop where
  all : ∀ w1 p bs w, T w1 p bs → Below w1.heap.size w1 w → Calls Try.prog 12 #[.pointer (some p)] w fun r w' => Gives (evAll bs) w1.heap.size w.heap.size r w' ∧ Below w.heap.size w w'
  ctx : ∀ w1 p bs w (i : Int), T w1 p bs → Below w1.heap.size w1 w → Calls Try.prog 14 #[.pointer (some p), .int .i64 i] w fun r w' => Gives (evCtx bs i) w1.heap.size w.heap.size r w' ∧ Below w.heap.size w w'
  members : ∀ w p bs (i : Int), T w p bs → Calls Try.prog 16 #[.pointer (some p), .int .i64 i] w fun r w' => ∃ u, r = .returned u ∧ GivesN w.heap.size (memT bs i) w' u ∧ Below w.heap.size w w'
  path : ∀ w p bs (i : Int), T w p bs → Calls Try.prog 23 #[.pointer (some p), .int .i64 i] w fun r w' => ∃ u, r = .returned u ∧ GivesN w.heap.size (pathT bs i) w' u ∧ Below w.heap.size w w'

section
variable {T : World → Addr → List Bx → Prop}

set_option maxRecDepth 100000 in
set_option maxHeartbeats 1000000 in
theorem wbegin_some (hT : TreeOk T) (A : Option Addr) (n c : Nat) (bs : List Bx) (w : World) (hn : n = bs.length) (hlen : n ≤ 100) (h0 : 0 < n) (hx : Boxes w w.heap.size A bs) (hb : ∀ b ∈ bs, OkB b) (hf : Fine bs n) :
    Calls Try.prog 9 #[.slice A n c] w fun r w' => (∃ p, r = .returned (.pointer (some p)) ∧ T w' p bs) ∧ Below w.heap.size w w' := by
  have HX := Lib.hid hx
  have HN := Lib.hid hn
  have HB := Lib.hid hb
  have HF := Lib.hid hf
  have HC := Lib.hid (fun w1 (k : Below w.heap.size w w1) => refchk_any A n c bs (-1) 0 w1 HN.out (by omega) (HX.out.thru k) (chk_fine HN.out h0 HF.out))
  have HG := Lib.hid (fun w1 (k : Below w.heap.size w w1) => begin_some hT A n c bs w1 HN.out (by omega) h0 (HX.out.thru k) HB.out HF.out)
  have hl : ¬ (100 : Int) < (n : Int) := by omega
  clear hx hn hb hf
  go_enter Try.func9, Try.ntmps9
  go_wp2_with (first
    | (go_at_call 25; refine (HC.out _ (Below.refl _ _)).mono ?_; rintro e w1 ⟨rfl, k1⟩; have K1 := Lib.hid k1; clear k1)
    | (go_at_call 26; refine (HG.out _ K1.out).mono ?_; rintro e w2 ⟨⟨p, rfl, ht⟩, k2⟩; have HT2 := Lib.hid ht; have K2 := Lib.hid (thru K1.out k2); clear ht k2))
  go_ret
  exact ⟨⟨p, rfl, HT2.out⟩, K2.out⟩

set_option maxRecDepth 100000 in
set_option maxHeartbeats 1000000 in
theorem wbegin_bad (A : Option Addr) (n c : Nat) (bs : List Bx) (w : World) (hn : n = bs.length) (hlen : n ≤ 1000) (hx : Boxes w w.heap.size A bs) (a e : Int) (hc : chk bs = (a, e)) (he : e ≠ 0) :
    Calls Try.prog 9 #[.slice A n c] w fun r w' => r = .returned (.pointer none) ∧ Below w.heap.size w w' := by
  have HC := Lib.hid (refchk_any A n c bs a e w hn hlen hx hc)
  have he' : (e == 0) = false := by rw [beq_eq_false_iff_ne]; exact he
  have he2 : (e != 0) = true := by simp [he]
  clear hx hn hc
  go_enter Try.func9, Try.ntmps9
  go_wp2_with (first
    | (go_at_call 25; refine HC.out.mono ?_; rintro e w1 ⟨rfl, k1⟩; have K1 := Lib.hid k1; clear k1))
  go_ret
  exact ⟨rfl, K1.out⟩

set_option maxRecDepth 100000 in
set_option maxHeartbeats 1000000 in
theorem wbegin_long (A : Option Addr) (n c : Nat) (bs : List Bx) (w : World) (hn : n = bs.length) (hlen : n ≤ 9223372036854775807) (hx : Boxes w w.heap.size A bs) (hl : 100 < n) :
    Calls Try.prog 9 #[.slice A n c] w fun r w' => r = .returned (.pointer none) ∧ Below w.heap.size w w' := by
  have HC := Lib.hid (refchk_some A n c bs w hn hlen hx)
  have hl1 : (100 : Int) < (n : Int) := by omega
  clear hx hn hlen hl
  go_enter Try.func9, Try.ntmps9
  go_upto_region 2 with (first
    | (go_at_call 25; refine HC.out.mono ?_; rintro e w1 ⟨⟨a, e, rfl⟩, k1⟩; have K1 := Lib.hid k1; clear k1))
  go_wp2_with fail
  all_goals (go_ret; exact ⟨rfl, K1.out⟩)
end

end Go.Proofs.Ytflncnfagoekcaa.Walk

/-! Events that are held against each other; boxes that are written out. -/
namespace Go.Proofs.Ytflncnfagoekcaa.Walk
open Go.RowKit Go.Sort Go.Proofs.Ytflncnfagoekcaa.Record Go.Proofs.Ytflncnfagoekcaa.Script Go.Proofs.Ytflncnfagoekcaa.Tree Go.Proofs.Ytflncnfagoekcaa.More

abbrev Ev.v (x : Ev) : Value := .agg #[.int .i64 x.a, .bool x.l]

def sameEv (x y : Ev) : Bool := x.a == y.a && x.l == y.l

theorem sameEv_iff (x y : Ev) : sameEv x y = true ↔ x = y := by
  cases x; cases y
  simp [sameEv]

theorem eqEvW (x y : Ev) (w : World) : (Op.equalIn 10000 32 x.v y.v).run Try.prog w = .ok (sameEv x y) w := by
  have u3 := Try.underlying3
  have a3 := Try.isAgg3
  have z3 := Try.sizeOf3
  have u4 := Try.underlying4
  have a4 := Try.isAgg4
  have z4 := Try.sizeOf4
  have hS : Try.prog.underlying 32 = some (.struct (Try.prog.fieldsOf 32)) := by kernel_rfl
  rw [show (10000 : Nat) = 9999 + 1 from rfl, run_equalIn_agg w 9999 32 _ _ hS (by kernel_rfl)]
  simp only [Program.fieldsOf, Try.underlying32]
  unfold sameEv
  by_cases h1 : x.a = y.a
  · by_cases h2 : x.l = y.l
    · go_simp
    · go_simp
  · go_simp

theorem eqEvR (x y : Ev) (w : World) : (Op.equalIn 10000 33 x.v y.v).run Try.prog w = .ok (sameEv x y) w := by
  have u3 := Try.underlying3
  have a3 := Try.isAgg3
  have z3 := Try.sizeOf3
  have u4 := Try.underlying4
  have a4 := Try.isAgg4
  have z4 := Try.sizeOf4
  have hS : Try.prog.underlying 33 = some (.struct (Try.prog.fieldsOf 33)) := by kernel_rfl
  rw [show (10000 : Nat) = 9999 + 1 from rfl, run_equalIn_agg w 9999 33 _ _ hS (by kernel_rfl)]
  simp only [Program.fieldsOf, Try.underlying33]
  unfold sameEv
  by_cases h1 : x.a = y.a
  · by_cases h2 : x.l = y.l
    · go_simp
    · go_simp
  · go_simp

theorem funcNil (f : FuncId) (lb : Array Value) (w : World) : Sem.run Try.prog (binOp BinOp.eql 29 (Value.func (Fn.func f) #[] lb) Value.nilFunc) w = .ok (.bool false) w := by
  kernel_rfl

theorem litB_boxes (w : World) (bs : List Bx) (t : TypeId) (hl : bs.length ≤ 1000) : Boxes (w.alloc (.cells (bs.flatMap cellsOfB).toArray t)) (w.alloc (.cells (bs.flatMap cellsOfB).toArray t)).heap.size (some ⟨w.heap.size, 0, none⟩) bs := by
  have hm : MineB t (w.alloc (.cells (bs.flatMap cellsOfB).toArray t)) 0 (some ⟨w.heap.size, 0, none⟩) bs.length bs.length bs := by
    have := World.ownsRow_lit (e := t) (size := 14) (base := 0) w (bs.flatMap cellsOfB).toArray bs.length (Nat.zero_le _) (by unfold maxLen; omega) (by simp only [List.size_toArray]; exact flat_len bs)
    simpa [MineB] using this
  exact hm.boxes

/-- The document's example: a Root with one Block. -/
def exB : List Bx := [⟨0, 3, 0, 0, 0, 0, 0, 0, 0, 0, 0, 0, 0, 0⟩, ⟨1, 1, 0, 0, 0, 0, 0, 0, 0, 0, 0, 0, 0, 0⟩]
def exE : List Ev := [⟨0, false⟩, ⟨1, false⟩, ⟨1, true⟩, ⟨0, true⟩]

theorem exB_fine : Fine exB 2 := fun j hj => by
  obtain rfl | rfl : j = 0 ∨ j = 1 := by omega
  · decide
  · decide

theorem exB_all : evAll exB = exE := by
  have e0 : en (dOf exB) 2 0 = 2 := by decide
  have e1 : en (dOf exB) 2 1 = 2 := by decide
  unfold evAll
  rw [show exB.length = 2 from rfl, wlk_next _ _ _ _ (by omega) (by omega), e0, wlk_next _ _ _ _ (by omega) (by omega), e1, wlk_end _ _ _ _ (by omega)]
  rfl

theorem exB_ok : ∀ b ∈ exB, OkB b := by
  intro b hb
  simp only [exB, List.mem_cons, List.not_mem_nil, or_false] at hb
  rcases hb with rfl | rfl <;>
  · intro x hx
    simp only [List.mem_cons, List.not_mem_nil, or_false] at hx
    rcases hx with h | h | h | h | h | h | h | h | h | h | h | h | h | h <;> subst h <;> decide

end Go.Proofs.Ytflncnfagoekcaa.Walk

/-! A law on regions that draw their order, over any program: operations that only read, callees that only make memory, new blocks and rows, guarded or not, in whichever order, ahead of a forced tail: what each leaves is listed once. -/
namespace Go.Proofs.Ytflncnfagoekcaa
open Go.RowKit Go.Sort

namespace Told

/-- What an operation leaves: a value, a new block, a slice of a new block, or nothing, as its guard says no. -/
inductive Leave where
  | val (v : Value)
  | box (o : Obj)
  | row (o : Obj) (n c : Nat)
  | skip

def Leave.value (y : Leave) (g : Nat) : Value := match y with
  | .val v => v
  | .box _ => .pointer (some ⟨g, 0, none⟩)
  | .row _ n c => .slice (some ⟨g, 0, none⟩) n c
  | .skip => undef
def Leave.obj : Leave → Option Obj
  | .val _ => none
  | .box o => some o
  | .row o _ _ => some o
  | .skip => none
def Leave.isSkip : Leave → Bool
  | .skip => true
  | _ => false

section
variable {P : Program}

/-- What is asked of an operation that leaves the value v: that it only reads, or that its callee only makes memory. -/
def stays (P : Program) (w : World) (v : Value) : Result Next → Prop
  | .ok (.value u) w' => w' = w ∧ u = v
  | .ok (.enter f args) w' => w' = w ∧ Calls P f args w (fun e w'' => e = .returned v ∧ Below w.heap.size w w'')
  | _ => False

theorem stays_call {w : World} {v : Value} {f : FuncId} {args : Array Value} (h : Calls P f args w (fun e w'' => e = .returned v ∧ Below w.heap.size w w'')) : stays P w v (.ok (.enter f args) w) := ⟨rfl, h⟩
theorem stays_val {w : World} {v : Value} : stays P w v (.ok (.value v) w) := ⟨rfl, rfl⟩

/-- The frame with all that was left. -/
def fill (g : Nat → Nat) : Nat → List Oper → List Leave → Act → Act
  | k, o :: os, y :: ys, a => fill g (k + 1) os ys (a.put o.dst (y.value (g k)))
  | _, _, _, a => a

/-- What is known of the blocks that an operation waits for. -/
def known (ys : List Leave) (o : Oper) (W : World) (g : Nat → Nat) (w : World) : Prop :=
  ∀ e ∈ o.after, Region.binds .any e = true → ∀ y b, ys[e.on]? = some y → y.obj = some b → W.heap.size ≤ g e.on ∧ w.heap[g e.on]? = some b

def leaves (P : Program) (o : Oper) (F : (Nat → Nat) → Act) (ys : List Leave) (W : World) : Leave → Prop
  | .val v => ∀ g w, Below W.heap.size W w → known ys o W g w → stays P w v ((execOp (F g).eval o).run P w)
  | .box b => ∀ g w, Below W.heap.size W w → known ys o W g w → (execOp (F g).eval o).run P w = .ok (.value (.pointer (some ⟨w.heap.size, 0, none⟩))) (w.alloc b)
  | .row b n c => ∀ g w, Below W.heap.size W w → known ys o W g w → (execOp (F g).eval o).run P w = .ok (.value (.slice (some ⟨w.heap.size, 0, none⟩) n c)) (w.alloc b)
  | .skip => True

def allLeave (P : Program) (F : (Nat → Nat) → Act) (all : List Leave) (W : World) : List Oper → List Leave → Prop
  | o :: os, y :: ys => leaves P o F all W y ∧ allLeave P F all W os ys
  | _, _ => True

theorem allLeave_at {F : (Nat → Nat) → Act} {all : List Leave} {W : World} : ∀ {os : List Oper} {ys : List Leave} {i : Nat} {o : Oper} {y : Leave}, allLeave P F all W os ys → os[i]? = some o → ys[i]? = some y → leaves P o F all W y
  | o :: os, y :: ys, 0, _, _, h, h1, h2 => by
    simp only [List.getElem?_cons_zero, Option.some.injEq] at h1 h2; subst h1 h2; exact h.1
  | o :: os, y :: ys, i + 1, _, _, h, h1, h2 => by
    simp only [List.getElem?_cons_succ] at h1 h2; exact allLeave_at h.2 h1 h2
  | [], _, _, _, _, _, h1, _ => by simp at h1
  | _ :: _, [], _, _, _, _, _, h2 => by simp at h2

theorem put_size (a : Act) (d : Option Tmp) (v : Value) : (a.put d v).tmps.size = a.tmps.size := by cases d <;> simp [Act.put]
theorem put_defers (a : Act) (d : Option Tmp) (v : Value) : (a.put d v).defers = a.defers := by cases d <;> rfl
theorem put_slot (a : Act) (d : Tmp) (v : Value) (h : d < a.tmps.size) : (a.put (some d) v).tmps.getD d undef = v := by simp [Act.put, h]
theorem put_other (a : Act) (d : Option Tmp) (v : Value) (t : Tmp) (h : d ≠ some t) : (a.put d v).tmps.getD t undef = a.tmps.getD t undef := by
  cases d with
  | none => rfl
  | some d =>
    have hne : d ≠ t := fun e => h (by rw [e])
    simp [Act.put, Array.getElem?_setIfInBounds_ne hne]

theorem fill_size (g : Nat → Nat) : ∀ (k : Nat) (os : List Oper) (ys : List Leave) (a : Act), (fill g k os ys a).tmps.size = a.tmps.size
  | k, o :: os, y :: ys, a => by rw [fill, fill_size g (k + 1) os ys, put_size]
  | _, [], _, _ => rfl
  | _, _ :: _, [], _ => rfl
theorem fill_defers (g : Nat → Nat) : ∀ (k : Nat) (os : List Oper) (ys : List Leave) (a : Act), (fill g k os ys a).defers = a.defers
  | k, o :: os, y :: ys, a => by rw [fill, fill_defers g (k + 1) os ys, put_defers]
  | _, [], _, _ => rfl
  | _, _ :: _, [], _ => rfl
theorem fill_other (g : Nat → Nat) (t : Tmp) : ∀ (k : Nat) (os : List Oper) (ys : List Leave) (a : Act), (∀ i o, i < ys.length → os[i]? = some o → o.dst ≠ some t) → (fill g k os ys a).tmps.getD t undef = a.tmps.getD t undef
  | k, o :: os, y :: ys, a, h => by
    rw [fill, fill_other g t (k + 1) os ys _ (fun i o hi ho => h (i + 1) o (by simp; omega) (by simpa using ho)), put_other _ _ _ _ (h 0 o (by simp) rfl)]
  | _, [], _, _, _ => rfl
  | _, _ :: _, [], _, _ => rfl
theorem fill_slot (g : Nat → Nat) (d : Tmp) : ∀ (k : Nat) (os : List Oper) (ys : List Leave) (a : Act) (i : Nat) (o : Oper) (y : Leave), d < a.tmps.size → os[i]? = some o → ys[i]? = some y → o.dst = some d →
    (∀ j p, j < ys.length → j ≠ i → os[j]? = some p → p.dst ≠ some d) → (fill g k os ys a).tmps.getD d undef = y.value (g (k + i))
  | k, o :: os, y :: ys, a, 0, _, _, hd, ho, hy, hdst, hne => by
    simp only [List.getElem?_cons_zero, Option.some.injEq] at ho hy
    subst ho hy
    rw [fill, fill_other g d (k + 1) os ys _ (fun i p hi hp => hne (i + 1) p (by simp; omega) (by omega) (by simpa using hp)), hdst, put_slot _ _ _ hd]
    rfl
  | k, o :: os, y :: ys, a, i + 1, o', y', hd, ho, hy, hdst, hne => by
    simp only [List.getElem?_cons_succ] at ho hy
    rw [fill, fill_slot g d (k + 1) os ys _ i o' y' (by rw [put_size]; exact hd) ho hy hdst (fun j p hj hji hp => hne (j + 1) p (by simp; omega) (by omega) (by simpa using hp))]
    congr 2
    omega
  | _, [], _, _, _, _, _, _, ho, _, _, _ => by simp at ho
  | _, _ :: _, [], _, _, _, _, _, _, hy, _, _ => by simp at hy

/-- What is asked of a region's text: of its first operations, that each writes a slot of its own and looks only at what it waits for. -/
def headB (l : List Oper) (n size : Nat) : Bool :=
  (List.range n).all fun i => match l[i]? with
    | none => false
    | some o => (match o.dst with | none => false | some d => decide (d < size)) && (o.after.all fun e => !Region.binds .any e || decide (e.on < i)) &&
      (List.range n).all fun j => match l[j]? with
        | none => false
        | some p => (decide (i = j) || p.dst != o.dst) &&
          (match p.dst with | none => false | some d => !(o.looksAt l.toArray).contains d || o.after.any (fun e => Region.binds .any e && e.on == j))

/-- .. that each guard is decided by what is listed. -/
def guardsB : List Oper → List Leave → List Leave → Bool
  | o :: os, y :: ys, all => (match o.guard with
    | none => !y.isSkip
    | some (k, b) => o.after.any (fun e => Region.binds .any e && e.on == k) && (match all[k]? with
      | some (.val (.bool c)) => (c == b) == !y.isSkip
      | _ => false)) && guardsB os ys all
  | _, _, _ => true

structure HeadOk (l : List Oper) (n size : Nat) : Prop where
  dst : ∀ i o, i < n → l[i]? = some o → ∃ d, o.dst = some d ∧ d < size
  back : ∀ i o, i < n → l[i]? = some o → ∀ e ∈ o.after, Region.binds .any e = true → e.on < i
  apart : ∀ i j o p, i < n → j < n → l[i]? = some o → l[j]? = some p → i ≠ j → p.dst ≠ o.dst
  looks : ∀ i j o p d, i < n → j < n → l[i]? = some o → l[j]? = some p → p.dst = some d → d ∈ o.looksAt l.toArray → ∃ e ∈ o.after, Region.binds .any e = true ∧ e.on = j
  there : ∀ i, i < n → ∃ o, l[i]? = some o

theorem headOk {l : List Oper} {n size : Nat} (h : headB l n size = true) : HeadOk l n size := by
  have key : ∀ i, i < n → ∃ o, l[i]? = some o ∧ (∃ d, o.dst = some d ∧ d < size) ∧ (∀ e ∈ o.after, Region.binds .any e = true → e.on < i) ∧
      ∀ j, j < n → ∃ p, l[j]? = some p ∧ (i ≠ j → p.dst ≠ o.dst) ∧ ∀ d, p.dst = some d → d ∈ o.looksAt l.toArray → ∃ e ∈ o.after, Region.binds .any e = true ∧ e.on = j := by
    intro i hi
    have h1 := List.all_eq_true.1 h i (List.mem_range.2 hi)
    cases ho : l[i]? with
    | none => rw [ho] at h1; cases h1
    | some o =>
      simp only [ho, Bool.and_eq_true] at h1
      obtain ⟨⟨h3, h4⟩, h5⟩ := h1
      refine ⟨o, rfl, ?_, ?_, ?_⟩
      · cases hd : o.dst with
        | none => rw [hd] at h3; cases h3
        | some d => rw [hd] at h3; exact ⟨d, rfl, by simpa using h3⟩
      · intro e he hb
        have := Array.all_eq_true'.1 h4 e he
        simpa [hb] using this
      · intro j hj
        have h6 := List.all_eq_true.1 h5 j (List.mem_range.2 hj)
        cases hp : l[j]? with
        | none => rw [hp] at h6; cases h6
        | some p =>
          simp only [hp, Bool.and_eq_true] at h6
          obtain ⟨h7, h8⟩ := h6
          refine ⟨p, rfl, fun hij => ?_, fun d hd hm => ?_⟩
          · have : (p.dst != o.dst) = true := by simpa [hij] using h7
            simpa using this
          · rw [hd] at h8
            have hc : (o.looksAt l.toArray).contains d = true := by simpa using hm
            simp only [hc, Bool.not_true, Bool.false_or] at h8
            obtain ⟨e, he, he2⟩ := Array.any_eq_true'.1 h8
            simp only [Bool.and_eq_true, beq_iff_eq] at he2
            exact ⟨e, he, he2⟩
  refine ⟨?_, ?_, ?_, ?_, ?_⟩
  · intro i o hi ho; obtain ⟨o', ho', h1, _⟩ := key i hi; rw [ho] at ho'; cases ho'; exact h1
  · intro i o hi ho; obtain ⟨o', ho', _, h1, _⟩ := key i hi; rw [ho] at ho'; cases ho'; exact h1
  · intro i j o p hi hj ho hp hij; obtain ⟨o', ho', _, _, h1⟩ := key i hi; rw [ho] at ho'; cases ho'
    obtain ⟨p', hp', h2, _⟩ := h1 j hj; rw [hp] at hp'; cases hp'; exact h2 hij
  · intro i j o p d hi hj ho hp hd hm; obtain ⟨o', ho', _, _, h1⟩ := key i hi; rw [ho] at ho'; cases ho'
    obtain ⟨p', hp', _, h2⟩ := h1 j hj; rw [hp] at hp'; cases hp'; exact h2 d hd hm
  · intro i hi; obtain ⟨o', ho', _⟩ := key i hi; exact ⟨o', ho'⟩

theorem guards_at : ∀ {os : List Oper} {ys all : List Leave} {i : Nat} {o : Oper} {y : Leave}, guardsB os ys all = true → os[i]? = some o → ys[i]? = some y →
    (o.guard = none ∧ y.isSkip = false) ∨ ∃ k b c, o.guard = some (k, b) ∧ (∃ e ∈ o.after, Region.binds .any e = true ∧ e.on = k) ∧ all[k]? = some (.val (.bool c)) ∧ ((c == b) = !y.isSkip)
  | o :: os, y :: ys, all, 0, _, _, h, h1, h2 => by
    simp only [List.getElem?_cons_zero, Option.some.injEq] at h1 h2
    subst h1 h2
    simp only [guardsB, Bool.and_eq_true] at h
    obtain ⟨h, _⟩ := h
    cases hg : o.guard with
    | none => rw [hg] at h; left; exact ⟨rfl, by simpa using h⟩
    | some kb =>
      obtain ⟨k, b⟩ := kb
      rw [hg] at h
      simp only [Bool.and_eq_true] at h
      obtain ⟨h3, h4⟩ := h
      obtain ⟨e, he, he2⟩ := Array.any_eq_true'.1 h3
      simp only [Bool.and_eq_true, beq_iff_eq] at he2
      right
      split at h4
      · rename_i c hc
        exact ⟨k, b, c, rfl, ⟨e, he, he2⟩, hc, by simpa using h4⟩
      · cases h4
  | o :: os, y :: ys, all, i + 1, _, _, h, h1, h2 => by
    simp only [List.getElem?_cons_succ] at h1 h2
    simp only [guardsB, Bool.and_eq_true] at h
    exact guards_at h.2 h1 h2
  | [], _, _, _, _, _, _, h1, _ => by simp at h1
  | _ :: _, [], _, _, _, _, _, _, h2 => by simp at h2

/-- The state of the region's head. -/
structure Telling (l : List Oper) (ys : List Leave) (a0 : Act) (W : World) (g : Nat → Nat) (listed : Array Bool) (a : Act) (w : World) : Prop where
  size : a.tmps.size = a0.tmps.size
  defers : a.defers = a0.defers
  below : Below W.heap.size W w
  other : ∀ t, (∀ i o, i < ys.length → l[i]? = some o → listed.getD i false = true → o.dst ≠ some t) → a.tmps.getD t undef = a0.tmps.getD t undef
  slot : ∀ i o y d, l[i]? = some o → ys[i]? = some y → listed.getD i false = true → o.dst = some d → a.tmps.getD d undef = y.value (g i)
  boxes : ∀ i y b, ys[i]? = some y → y.obj = some b → listed.getD i false = true → W.heap.size ≤ g i ∧ w.heap[g i]? = some b
  apart : ∀ i j y z b c, i ≠ j → ys[i]? = some y → ys[j]? = some z → y.obj = some b → z.obj = some c → listed.getD i false = true → listed.getD j false = true → g i ≠ g j

theorem getD_set_cases {listed : Array Bool} {i j : Nat} (h : (listed.setIfInBounds i true).getD j false = true) : j = i ∨ listed.getD j false = true := by
  by_cases hji : i = j
  · exact .inl hji.symm
  · rw [getD_set_ne false hji] at h; exact .inr h

theorem Leave.value_plain {y : Leave} (h : y.obj = none) (g g' : Nat) : y.value g = y.value g' := by cases y <;> first | rfl | cases h

variable {l : List Oper} {ys : List Leave} {a0 : Act} {W : World}

theorem eval_tmp (a : Act) (t : Tmp) : a.eval (.tmp t) = a.tmps.getD t undef := rfl

/-- An operation whose turn it is does in the frame at hand what it does in the full one. -/
theorem Telling.same {g : Nat → Nat} {listed : Array Bool} {a : Act} {w : World} (ok : HeadOk l ys.length a0.tmps.size) (h : Telling l ys a0 W g listed a w) (hs : Region.noSelect l.toArray = true) {i : Nat} {o : Oper} (hi : i < ys.length) (ho : l[i]? = some o)
    (hd : ∀ e ∈ o.after, Region.binds .any e = true → listed.getD e.on false = true) : execOp a.eval o = execOp (fill g 0 l ys a0).eval o := by
  have hsel : ∀ cs b, o.op ≠ .select cs b := fun cs b => Region.noSelect_spec hs i o cs b (by simpa using ho)
  refine execOp_congr o hsel fun x hx => ?_
  cases x with
  | tmp t =>
    have hm : t ∈ o.looksAt l.toArray := List.mem_append_left _ (List.mem_filterMap.2 ⟨.tmp t, by simpa using hx, rfl⟩)
    rw [eval_tmp, eval_tmp]
    by_cases hex : ∃ j p, j < ys.length ∧ l[j]? = some p ∧ p.dst = some t
    · obtain ⟨j, p, hj, hp, hpt⟩ := hex
      obtain ⟨e, he, hb, hon⟩ := ok.looks i j o p t hi hj ho hp hpt hm
      have hlj : listed.getD j false = true := by rw [← hon]; exact hd e he hb
      have hy : ys[j]? = some ys[j] := by simp [hj]
      obtain ⟨d, hd1, hd2⟩ := ok.dst j p hj hp
      have htd : t = d := by rw [hd1] at hpt; exact (Option.some.inj hpt).symm
      rw [h.slot j p _ t hp hy hlj hpt, fill_slot g t 0 l ys a0 j p _ (by rw [htd]; exact hd2) hp hy hpt (fun k q hk hkj hq e => ok.apart j k p q hj hk hp hq (Ne.symm hkj) (by rw [e, hpt])), Nat.zero_add]
    · rw [h.other t (fun j p hj hp _ e => hex ⟨j, p, hj, hp, e⟩), fill_other g t 0 l ys a0 (fun j p hj hp e => hex ⟨j, p, hj, hp, e⟩)]
  | _ => rfl

/-- The world behind an operation that leaves no block. -/
theorem Telling.plain {g : Nat → Nat} {listed : Array Bool} {a : Act} {w w' : World} {i : Nat} {o : Oper} {y : Leave} {v : Value} (ok : HeadOk l ys.length a0.tmps.size) (h : Telling l ys a0 W g listed a w) (hi : i < ys.length) (ho : l[i]? = some o) (hy : ys[i]? = some y)
    (hin : i < listed.size) (hun : listed.getD i false = false) (hv : v = y.value (g i)) (hno : y.obj = none) (hb : Below w.heap.size w w') : Telling l ys a0 W g (listed.setIfInBounds i true) (a.put o.dst v) w' := by
  obtain ⟨d, hd1, hd2⟩ := ok.dst i o hi ho
  have hset : (listed.setIfInBounds i true).getD i false = true := by simp [hin]
  refine ⟨by rw [put_size, h.size], by rw [put_defers, h.defers], h.below.trans (hb.mono h.below.size), ?_, ?_, ?_, ?_⟩
  · intro t ht
    rw [put_other _ _ _ _ (ht i o hi ho hset)]
    refine h.other t fun j p hj hp hl => ht j p hj hp ?_
    by_cases hij : i = j
    · subst hij; rw [hun] at hl; cases hl
    · rw [getD_set_ne false hij]; exact hl
  · intro j p z t hp hyj hl ht
    by_cases hij : j = i
    · subst hij
      rw [ho] at hp; cases hp
      rw [hy] at hyj; cases hyj
      rw [hd1] at ht; cases ht
      rw [hd1, put_slot _ _ _ (by rw [h.size]; exact hd2), hv]
    · rcases getD_set_cases hl with e | hl'
      · exact absurd e hij
      · have hj : j < ys.length := (List.getElem?_eq_some_iff.1 hyj).1
        rw [put_other _ _ _ _ (fun e => ok.apart j i p o hj hi hp ho hij (by rw [e, ht])), h.slot j p z t hp hyj hl' ht]
  · intro j z b hyj hz hl
    rcases getD_set_cases hl with e | hl'
    · subst e; rw [hy] at hyj; cases hyj; rw [hno] at hz; cases hz
    · obtain ⟨h1, h2⟩ := h.boxes j z b hyj hz hl'
      exact ⟨h1, by rw [hb.block _ (lt_of_block h2)]; exact h2⟩
  · intro j k z u b c hjk hj hk hz hu hlj hlk
    rcases getD_set_cases hlj with e | hlj'
    · subst e; rw [hy] at hj; cases hj; rw [hno] at hz; cases hz
    · rcases getD_set_cases hlk with e | hlk'
      · subst e; rw [hy] at hk; cases hk; rw [hno] at hu; cases hu
      · exact h.apart j k z u b c hjk hj hk hz hu hlj' hlk'

/-- .. behind one that leaves a block. -/
theorem Telling.block {g : Nat → Nat} {listed : Array Bool} {a : Act} {w : World} {i : Nat} {o : Oper} {y : Leave} {b : Obj} (ok : HeadOk l ys.length a0.tmps.size) (h : Telling l ys a0 W g listed a w) (hi : i < ys.length) (ho : l[i]? = some o) (hy : ys[i]? = some y)
    (hin : i < listed.size) (hun : listed.getD i false = false) (hob : y.obj = some b) : ∃ g', Telling l ys a0 W g' (listed.setIfInBounds i true) (a.put o.dst (y.value w.heap.size)) (w.alloc b) := by
  obtain ⟨d, hd1, hd2⟩ := ok.dst i o hi ho
  have hset : (listed.setIfInBounds i true).getD i false = true := by simp [hin]
  obtain ⟨gg, hgi, hgj⟩ : ∃ gg : Nat → Nat, gg i = w.heap.size ∧ ∀ j, j ≠ i → gg j = g j := ⟨fun j => if j = i then w.heap.size else g j, by simp, fun j hj => by simp [hj]⟩
  refine ⟨gg, by rw [put_size, h.size], by rw [put_defers, h.defers], h.below.alloc h.below.size b, ?_, ?_, ?_, ?_⟩
  · intro t ht
    rw [put_other _ _ _ _ (ht i o hi ho hset)]
    refine h.other t fun j p hj hp hl => ht j p hj hp ?_
    by_cases hij : i = j
    · subst hij; rw [hun] at hl; cases hl
    · rw [getD_set_ne false hij]; exact hl
  · intro j p z t hp hyj hl ht
    by_cases hij : j = i
    · subst hij
      rw [ho] at hp; cases hp
      rw [hy] at hyj; cases hyj
      rw [hd1] at ht; cases ht
      rw [hd1, put_slot _ _ _ (by rw [h.size]; exact hd2), hgi]
    · rcases getD_set_cases hl with e | hl'
      · exact absurd e hij
      · have hj : j < ys.length := (List.getElem?_eq_some_iff.1 hyj).1
        rw [put_other _ _ _ _ (fun e => ok.apart j i p o hj hi hp ho hij (by rw [e, ht])), h.slot j p z t hp hyj hl' ht, hgj j hij]
  · intro j z c hj hz hl
    by_cases hji : j = i
    · subst hji
      rw [hy] at hj; cases hj
      rw [hob] at hz; cases hz
      rw [hgi]
      exact ⟨h.below.size, by show (w.heap.push b)[w.heap.size]? = some b; simp⟩
    · rcases getD_set_cases hl with e | hl'
      · exact absurd e hji
      · obtain ⟨h1, h2⟩ := h.boxes j z c hj hz hl'
        rw [hgj j hji]
        exact ⟨h1, by rw [Below.heap_alloc _ _ _ (lt_of_block h2)]; exact h2⟩
  · intro j k z u c1 c2 hjk hj hk hz hu hlj hlk
    by_cases hji : j = i
    · have hki : k ≠ i := fun e => hjk (hji.trans e.symm)
      rcases getD_set_cases hlk with e | hlk'
      · exact absurd e hki
      · have := lt_of_block (h.boxes k u c2 hk hu hlk').2
        rw [hgj k hki, hji, hgi]; omega
    · rcases getD_set_cases hlj with e | hlj'
      · exact absurd e hji
      · by_cases hki : k = i
        · have := lt_of_block (h.boxes j z c1 hj hz hlj').2
          rw [hgj j hji, hki, hgi]; omega
        · rcases getD_set_cases hlk with e | hlk'
          · exact absurd e hki
          · rw [hgj j hji, hgj k hki]; exact h.apart j k z u c1 c2 hjk hj hk hz hu hlj' hlk'

theorem Telling.step {g : Nat → Nat} {listed : Array Bool} {a : Act} {w : World} {Q : Exit → Act → World → Prop} (ok : HeadOk l ys.length a0.tmps.size) (h : Telling l ys a0 W g listed a w) (hs : Region.noSelect l.toArray = true)
    (hgd : guardsB l ys ys = true) (hall : allLeave P (fun g => fill g 0 l ys a0) ys W l ys) (hsz : listed.size = l.toArray.size) {i : Nat} (hi : i < ys.length) (hr : i ∈ Region.ready .any l.toArray listed) :
    wpOp P l.toArray Q i (fun a' w' => ∃ g, Telling l ys a0 W g (listed.setIfInBounds i true) a' w') a w := by
  obtain ⟨hun, o, ho, hdep⟩ := mem_ready.1 hr
  have ho' : l[i]? = some o := by simpa using ho
  have hy : ys[i]? = some ys[i] := by simp [hi]
  have hsame := h.same ok hs hi ho' hdep
  have hY := allLeave_at hall ho' hy
  have hun' : listed.getD i false = false := getD_both hun
  have hin : i < listed.size := by
    rw [hsz]; simpa using (List.getElem?_eq_some_iff.1 ho').1
  have hkn : known ys o W g w := fun e he hb y b hye hyb => h.boxes e.on y b hye hyb (hdep e he hb)
  have hw : Region.wanted o (yielded l.toArray a.tmps) = !(ys[i]).isSkip := by
    rcases guards_at hgd ho' hy with ⟨hg, hsk⟩ | ⟨k, b, c, hg, ⟨e, he, hb, hon⟩, hk, hcb⟩
    · simp [Region.wanted, hg, hsk]
    · have hlk : listed.getD k false = true := by rw [← hon]; exact hdep e he hb
      have hkl : k < ys.length := (List.getElem?_eq_some_iff.1 hk).1
      obtain ⟨p, hp⟩ := ok.there k hkl
      obtain ⟨d, hd1, hd2⟩ := ok.dst k p hkl hp
      have hsl := h.slot k p _ d hp hk hlk hd1
      have hda : d < a.tmps.size := by rw [h.size]; exact hd2
      have hyl : yielded l.toArray a.tmps k = some c := by
        unfold yielded
        simp only [List.getElem?_toArray, hp, Option.bind_some, hd1]
        have : a.tmps[d]? = some (.bool c) := by
          rw [Array.getElem?_eq_getElem hda]
          simpa [Leave.value, hda] using hsl
        rw [this]
      simp only [Region.wanted, hg, hyl]
      rw [← hcb]
      cases c <;> cases b <;> rfl
  unfold wpOp
  simp only [ho, hw]
  revert hY
  generalize hyi : ys[i] = y at *
  cases y with
  | skip =>
    intro _
    simp only [Leave.isSkip, Bool.not_true, Bool.false_eq_true, if_false]
    exact ⟨g, h.plain ok hi ho' hy hin hun' rfl rfl (Below.refl _ _)⟩
  | val v =>
    intro hY
    simp only [Leave.isSkip, Bool.not_false, if_true]
    left
    unfold Oper.wp
    rw [hsame]
    have h3 := hY g w h.below hkn
    generalize (execOp (fill g 0 l ys a0).eval o).run P w = r at *
    cases r with
    | ok nx w' =>
      cases nx <;> simp only [stays] at h3 <;> simp only [Oper.upon]
      case value u =>
        obtain ⟨rfl, rfl⟩ := h3
        exact ⟨g, h.plain ok hi ho' hy hin hun' rfl rfl (Below.refl _ _)⟩
      case enter f args =>
        obtain ⟨rfl, hc⟩ := h3
        refine hc.mono fun e w'' ⟨he, hb⟩ => ?_
        subst he
        exact ⟨g, h.plain ok hi ho' hy hin hun' rfl rfl hb⟩
    | halt x w' => simp only [stays] at h3
  | box b =>
    intro hY
    simp only [Leave.isSkip, Bool.not_false, if_true]
    left
    unfold Oper.wp
    rw [hsame, hY g w h.below hkn]
    simp only [Oper.upon]
    exact h.block ok hi ho' hy hin hun' rfl
  | row b n c =>
    intro hY
    simp only [Leave.isSkip, Bool.not_false, if_true]
    left
    unfold Oper.wp
    rw [hsame, hY g w h.below hkn]
    simp only [Oper.upon]
    exact h.block ok hi ho' hy hin hun' rfl

/-- Behind the whole head the frame is the full one. -/
theorem Telling.full {g : Nat → Nat} {listed : Array Bool} {a : Act} {w : World} (ok : HeadOk l ys.length a0.tmps.size) (h : Telling l ys a0 W g listed a w) (hl : ∀ i, i < ys.length → listed.getD i false = true) : a = fill g 0 l ys a0 := by
  have hsz : a.tmps.size = (fill g 0 l ys a0).tmps.size := by rw [fill_size, h.size]
  have hslot : ∀ t, a.tmps.getD t undef = (fill g 0 l ys a0).tmps.getD t undef := by
    intro t
    by_cases hex : ∃ j p, j < ys.length ∧ l[j]? = some p ∧ p.dst = some t
    · obtain ⟨j, p, hj, hp, hpt⟩ := hex
      have hy : ys[j]? = some ys[j] := by simp [hj]
      obtain ⟨d, hd1, hd2⟩ := ok.dst j p hj hp
      have htd : t = d := by rw [hd1] at hpt; exact (Option.some.inj hpt).symm
      rw [h.slot j p _ t hp hy (hl j hj) hpt, fill_slot g t 0 l ys a0 j p _ (by rw [htd]; exact hd2) hp hy hpt (fun k q hk hkj hq e => ok.apart j k p q hj hk hp hq (Ne.symm hkj) (by rw [e, hpt])), Nat.zero_add]
    · rw [h.other t (fun j p hj hp _ e => hex ⟨j, p, hj, hp, e⟩), fill_other g t 0 l ys a0 (fun j p hj hp e => hex ⟨j, p, hj, hp, e⟩)]
  have ht : a.tmps = (fill g 0 l ys a0).tmps := by
    refine Array.ext hsz fun t h1 h2 => ?_
    have := hslot t
    simpa [h1, h2] using this
  have hdf : a.defers = (fill g 0 l ys a0).defers := by rw [fill_defers, h.defers]
  generalize fill g 0 l ys a0 = F at *
  cases a; cases F
  simp only at ht hdf
  subst ht hdf
  rfl

/-- A region that draws its order: the operations of its head leave what is listed; new blocks are apart; then its tail, one by one. -/
theorem wp_region_told {id : Nat} {Q : Exit → Act → World → Prop} (ys : List Leave) (hm : P.follows .mixedOrders = true)
    (hB : (Region.noSelect l.toArray && decide (ys.length < l.toArray.size) && Region.sinkB .any l.toArray ys.length && Region.chainB .any l.toArray ys.length &&
      Region.seqB .any l.toArray (l.toArray.size - ys.length) ys.length ((List.replicate ys.length true ++ List.replicate (l.toArray.size - ys.length) false).toArray) && headB l ys.length a0.tmps.size) = true)
    (hgd : guardsB l ys ys = true)
    (hall : allLeave P (fun g => fill g 0 l ys a0) ys W l ys)
    (hend : ∀ (g : Nat → Nat) (w' : World), Below W.heap.size W w' → (∀ i y b, ys[i]? = some y → y.obj = some b → W.heap.size ≤ g i ∧ w'.heap[g i]? = some b) →
      (∀ i j y z b c, i ≠ j → ys[i]? = some y → ys[j]? = some z → y.obj = some b → z.obj = some c → g i ≠ g j) → wpList P l.toArray Q (l.drop ys.length) (fill g 0 l ys a0) w') :
    (Code.region id l.toArray true).wp P Q a0 W := by
  simp only [Bool.and_eq_true, decide_eq_true_eq] at hB
  obtain ⟨⟨⟨⟨⟨hsel, hn⟩, hs⟩, hc⟩, hseq⟩, hhead⟩ := hB
  have ok := headOk hhead
  have hn' : ys.length < l.length := by simpa using hn
  have hdl : (l.drop ys.length).length = l.toArray.size - ys.length := by simp
  refine wp_region_any hm ?_
  have key : ∀ (f : Nat) (listed : Array Bool) (a : Act) (w : World) (g : Nat → Nat), HeadInv .any l.toArray ys.length listed → unlisted listed = f + (l.toArray.size - ys.length) → Telling l ys a0 W g listed a w →
      wpAny P .any l.toArray Q (f + (l.toArray.size - ys.length)) listed a w := by
    intro f
    induction f with
    | zero =>
      intro listed a w g inv hu hb
      have hls : listed.size = l.length := by have := inv.size; simpa using this
      -- all of the head has come up
      have hcount : listed.toList.countP (fun b => !b) = l.length - ys.length := by
        unfold unlisted at hu; simpa using hu
      have htail : listed.toList.drop ys.length = List.replicate (l.length - ys.length) false := by
        refine List.ext_getElem (by simp [hls]) fun k h1 h2 => ?_
        have hk : ys.length + k < listed.size := by simp at h1; omega
        have := inv.tail (ys.length + k) (by omega) (by rw [← inv.size]; exact hk)
        simpa [hk] using this
      have hsplit : listed.toList = listed.toList.take ys.length ++ List.replicate (l.length - ys.length) false := by rw [← htail, List.take_append_drop]
      have hh : (listed.toList.take ys.length).countP (fun b => !b) = 0 := by
        rw [hsplit, List.countP_append] at hcount
        have hr : (List.replicate (l.length - ys.length) false).countP (fun b => !b) = l.length - ys.length := by rw [List.countP_replicate]; simp
        rw [hr] at hcount
        omega
      have hhead : listed.toList.take ys.length = List.replicate ys.length true := by
        have hlen : (listed.toList.take ys.length).length = ys.length := by simp [hls]; omega
        rw [List.eq_replicate_iff]
        refine ⟨hlen, fun b hb => ?_⟩
        have := List.countP_eq_zero.1 hh b hb
        simpa using this
      have hlisted : listed = (List.replicate ys.length true ++ List.replicate (l.toArray.size - ys.length) false).toArray := by
        have h1 : listed = listed.toList.toArray := by simp
        rw [h1, hsplit, hhead]
        simp
      have hall' : ∀ i, i < ys.length → listed.getD i false = true := by
        intro i hi
        rw [hlisted, Array.getD_eq_getD_getElem?, List.getElem?_toArray, List.getElem?_append_left (by simpa using hi)]
        simp [hi]
      have hfull := hb.full ok hall'
      have := wpAny_of_seq (P := P) (ops := l.toArray) (md := .any) (Q' := Q) (l.drop ys.length) ys.length listed a w (fun j => by simp [List.getElem?_drop]) (by rw [hdl, hlisted]; exact hseq) (by
        rw [hfull]
        exact hend g w hb.below (fun i y b hi hy => hb.boxes i y b hi hy (hall' i (List.getElem?_eq_some_iff.1 hi).1)) (fun i j y z b c hij hi hj hy hz => hb.apart i j y z b c hij hi hj hy hz (hall' i (List.getElem?_eq_some_iff.1 hi).1) (hall' j (List.getElem?_eq_some_iff.1 hj).1)))
      rwa [hdl, ← Nat.zero_add (l.toArray.size - ys.length)] at this
    | succ f ih =>
      intro listed a w g inv hu hb
      -- the first one of the head that has not come up
      have hex : ∃ i, i < ys.length ∧ listed.getD i false = false := by
        refine Classical.byContradiction fun hno => ?_
        have hno' : ∀ i, i < ys.length → listed.getD i false = true := fun i hi => by
          cases h : listed.getD i false with
          | true => rfl
          | false => exact absurd ⟨i, hi, h⟩ hno
        have hls : listed.size = l.length := by have := inv.size; simpa using this
        have h0 : (listed.toList.take ys.length).countP (fun b => !b) = 0 := by
          rw [List.countP_eq_zero]
          intro b hb'
          obtain ⟨k, hk, rfl⟩ := List.getElem_of_mem hb'
          have hk1 : k < ys.length := by simp at hk; omega
          have hk2 : k < listed.size := by omega
          have := hno' k hk1
          simpa [hk2] using this
        have h1 := List.countP_le_length (p := fun b => !b) (l := listed.toList.drop ys.length)
        have h2 : unlisted listed = (listed.toList.take ys.length).countP (fun b => !b) + (listed.toList.drop ys.length).countP (fun b => !b) := by
          unfold unlisted; rw [← List.countP_append, List.take_append_drop]
        simp only [List.length_drop, Array.length_toList, hls] at h1
        have h3 : l.toArray.size = l.length := by simp
        omega
      have hleast : ∀ m : Nat, (∃ i, i < m ∧ i < ys.length ∧ listed.getD i false = false) → ∃ i, i < ys.length ∧ listed.getD i false = false ∧ ∀ j, j < i → listed.getD j false = true := by
        intro m
        induction m with
        | zero => rintro ⟨i, hi, _⟩; omega
        | succ m ih2 =>
          rintro ⟨i, hi, hiy, hil⟩
          by_cases hsm : ∃ j, j < m ∧ j < ys.length ∧ listed.getD j false = false
          · exact ih2 hsm
          · refine ⟨i, hiy, hil, fun j hj => ?_⟩
            cases h : listed.getD j false with
            | true => rfl
            | false => exact absurd ⟨j, by omega, by omega, h⟩ hsm
      obtain ⟨i, hi, hil, hlt⟩ := hleast ys.length (by obtain ⟨i, h1, h2⟩ := hex; exact ⟨i, h1, h1, h2⟩)
      have hsize : ∀ k, k < ys.length → k < listed.size := fun k hk => by rw [inv.size]; omega
      have hready : i ∈ Region.ready .any l.toArray listed := by
        obtain ⟨o, ho⟩ := ok.there i hi
        exact mem_ready.2 ⟨getD_in (hsize i hi) hil, o, by simpa using ho, fun e he hbd => hlt _ (ok.back i o hi ho e he hbd)⟩
      rw [show f + 1 + (l.toArray.size - ys.length) = (f + (l.toArray.size - ys.length)) + 1 by omega]
      refine ⟨fun h0 => (by rw [h0] at hready; cases hready), fun j hj => ?_⟩
      have hjn : j < ys.length := by
        rcases Nat.lt_or_ge j ys.length with h | h
        · exact h
        · exact absurd hj (tail_waits hs hc hn inv _ i rfl hi (getD_in (hsize i hi) hil) j h)
      refine wpOp_mono (fun a' w' ⟨g', hb'⟩ => ih _ a' w' g' (inv.set hj hjn) ?_ hb') (hb.step ok hsel hgd hall inv.size hjn hj)
      have := unlisted_set (mem_ready.1 hj).1
      omega
  have inv0 : HeadInv .any l.toArray ys.length (Array.replicate l.toArray.size false) :=
    ⟨by simp, fun j oj _ hl => (by rw [getD_replicate_false] at hl; cases hl), fun t _ ht => getD_in (by simpa using ht) (getD_replicate_false _ _)⟩
  have hu : unlisted (Array.replicate l.toArray.size false) = ys.length + (l.toArray.size - ys.length) := by
    unfold unlisted
    rw [Array.toList_replicate, List.countP_replicate]
    simp
    omega
  have := key ys.length _ a0 { W with drawn := W.drawn + 1 } (fun _ => 0) inv0 hu
    ⟨rfl, rfl, ⟨rfl, rfl, rfl, Nat.le_refl _, fun _ _ => rfl⟩, fun _ _ => rfl, fun i o y d _ _ hl => (by rw [getD_replicate_false] at hl; cases hl), fun i y b _ _ hl => (by rw [getD_replicate_false] at hl; cases hl),
      fun i j y z b c _ _ _ _ _ hl => (by rw [getD_replicate_false] at hl; cases hl)⟩
  rwa [show ys.length + (l.toArray.size - ys.length) = l.toArray.size by omega] at this
end
end Told
end Go.Proofs.Ytflncnfagoekcaa
