/- The program's walk: going through boxes that stand side by side, whatever is asked what lies within. -/
import Derived.Test.YtflncnfagoekcaaPart16
import Derived.Test.YtflncnfagoekcaaPart13
import Derived.Test.YtflncnfagoekcaaPart10
import Derived.Test.YtflncnfagoekcaaPart11
import Derived.Sort.CutIn
namespace Go.Proofs.Ytflncnfagoekcaa.Walk
open Go.RowKit Go.Shelf Go.Sort Go.Proofs.Ytflncnfagoekcaa.Record Go.Proofs.Ytflncnfagoekcaa.Script Go.Proofs.Ytflncnfagoekcaa.Tree Go.Proofs.Ytflncnfagoekcaa.More

attribute [local go_sem] Oper.semAt_some

theorem YieldAt.atDepth {m : Nat} (m' : Nat) {P : Program} {l : Nat} {args : Array Value} {W : World} {R : Ending → World → Prop} (h : YieldAt Fence.wide m P l args W R) : YieldAt Fence.wide m' P l args W R := by
  obtain ⟨fn, tmps, assign, body, hy, hR⟩ := h
  exact ⟨fn, tmps, assign, body, hy, hR.1, fun c cs _ => hR.2 c cs (fun d h => by cases h)⟩

/-- What the walk itself does to the world: new blocks alone. -/
theorem StayB.of_below {B : Option Nat} {s1 a b0 b : Nat} {W W' : World} (h : Below W.heap.size W W') (h1 : s1 ≤ W.heap.size) (h2 : b ≤ W.heap.size) (hbb : b0 ≤ b) (hB : ∀ x, B = some x → x < b) : StayB B s1 a b0 b W W' := by
  have hs : ∀ k, owns B W' k ↔ owns B W k := fun k => owns_same (fun x e => h.block x (by have := hB x e; omega)) k
  exact ⟨h.mono h1, fun k _ hk => h.block k (by omega), fun k o _ hk _ hn => ⟨(h.block k (Array.getElem?_eq_some_iff.1 hk).1).trans hk, fun e => hn ((hs k).1 e)⟩, fun hw k e => Nat.lt_of_lt_of_le (hw k ((hs k).1 e)) h.size⟩

/-- A cell of the walk's own. -/
def Own1 (B : Option Nat) (b : Nat) (W : World) (ad : Addr) (v : Value) : Prop := W.cell? ad = some v ∧ b ≤ ad.block ∧ ¬ owns B W ad.block

theorem Own1.stay {B : Option Nat} {s1 a b0 b : Nat} {W W' : World} {ad : Addr} {v : Value} (h : Own1 B b W ad v) (k : StayB B s1 a b0 b W W') : Own1 B b W' ad v := by
  obtain ⟨h1, h2, h3⟩ := h
  cases hb : W.heap[ad.block]? with
  | none => simp [World.cell?, hb] at h1
  | some o =>
    have hc : o.isCells = true := by
      cases o <;> simp [World.cell?, hb] at h1 <;> rfl
    obtain ⟨g1, g2⟩ := k.hi _ o h2 hb hc h3
    exact ⟨(World.cell?_of_block (w := W) (g1.trans hb.symm)).trans h1, h2, g2⟩

/-- The list of places that is gone through. -/
def Places (B : Option Nat) (b : Nat) (W : World) (A : Option Addr) (ps : List Nat) : Prop := ∀ (k x : Nat), ps[k]? = some x → ∃ ad : Addr, A = some ad ∧ Own1 B b W (ad.add k) (.int .i64 (x : Int))

theorem Places.stay {B : Option Nat} {s1 a b0 b : Nat} {W W' : World} {A : Option Addr} {ps : List Nat} (h : Places B b W A ps) (k : StayB B s1 a b0 b W W') : Places B b W' A ps := fun i x hx => by
  obtain ⟨ad, e, ho⟩ := h i x hx
  exact ⟨ad, e, ho.stay k⟩

/-- The worlds that the walk goes through. -/
structure Good (B : Option Nat) (s1 b : Nat) (w1 W : World) : Prop where
  low : Below s1 w1 W
  hs : s1 ≤ W.heap.size
  hb : b ≤ W.heap.size
  wf : ∀ k, owns B W k → k < W.heap.size

theorem Good.stay {B : Option Nat} {s1 a b0 b : Nat} {w1 W W' : World} (h : Good B s1 b w1 W) (k : StayB B s1 a b0 b W W') : Good B s1 b w1 W' :=
  ⟨h.low.trans k.low, Nat.le_trans h.hs k.low.size, Nat.le_trans h.hb k.low.size, k.wf h.wf⟩

/-- New numbers are the walk's own. -/
theorem Places.fresh {B : Option Nat} {s1 b : Nat} {w1 W W' : World} (hg : Good B s1 b w1 W) (h : Below W.heap.size W W') (hB : ∀ x, B = some x → x < b) {A : Option Addr} {ps : List Nat} (hn : Nums W' W'.heap.size A (ps.map Int.ofNat)) (hnew : ps.map Int.ofNat ≠ [] → ∀ ad, A = some ad → W.heap.size ≤ ad.block) : Places B b W' A ps := fun k x hx => by
  have hk : k < ps.length := (List.getElem?_eq_some_iff.1 hx).1
  obtain ⟨ad, e, -, hc⟩ := hn k (by simpa using hk)
  have hne : ps.map Int.ofNat ≠ [] := fun e => by have := congrArg List.length e; simp at this; subst this; simp at hk
  have hl := hnew hne ad e
  have hs : ∀ k, owns B W' k ↔ owns B W k := fun k => owns_same (fun x e => h.block x (by have := hB x e; have := hg.hb; omega)) k
  refine ⟨ad, e, ?_, ?_, fun ho => ?_⟩
  · rw [hc]; simp [List.getD, hx]
  · rw [block_of_add]; have := hg.hb; omega
  · rw [block_of_add] at ho; have := hg.wf _ ((hs _).1 ho); omega


theorem front4 {dn X Y rest : List Ev} {e : Ev} (h : dn ++ X = Y) (hx : X = e :: rest) : dn ++ [e] <+: Y := ⟨rest, by rw [← h, hx]; simp⟩
theorem front12 {dn X Y inn q rest : List Ev} {e : Ev} (h : dn ++ X = Y) (hx : X = e :: (inn ++ rest)) (hq : q <+: inn) : dn ++ [e] ++ q <+: Y := by
  obtain ⟨r, rfl⟩ := hq
  exact ⟨r ++ rest, by rw [← h, hx]; simp⟩
theorem front20 {dn X Y inn rest : List Ev} {e e' : Ev} (h : dn ++ X = Y) (hx : X = e :: (inn ++ e' :: rest)) : dn ++ [e] ++ inn ++ [e'] <+: Y := ⟨rest, by rw [← h, hx]; simp⟩
theorem next20 {dn X inn rest : List Ev} {e e' : Ev} (hx : X = e :: (inn ++ e' :: rest)) : dn ++ [e] ++ inn ++ [e'] ++ rest = dn ++ X := by rw [hx]; simp

section
variable {T : World → Addr → List Bx → Prop}

/-- A new list of places is answered. -/
def Answers (ks : List Nat) (N : Nat) (r : Ending) (W' : World) : Prop := ∃ A c, r = .returned (.slice A ks.length c) ∧ Nums W' W'.heap.size A (ks.map Int.ofNat) ∧ (ks.map Int.ofNat ≠ [] → ∀ ad, A = some ad → N ≤ ad.block)

/-- What the walk asks what lies within a box. -/
structure Within (bs : List Bx) (wh : Bool) (w1 : World) (f : Nat) (bv : Value) : Prop where
  enter : ∀ args w, (callFunc f args).run Try.prog w = .ok (.enter f args) w
  ask : ∀ W (j : Nat), Below w1.heap.size w1 W → j < bs.length → Calls Try.prog f #[bv, .int .i64 (j : Int)] W fun r W' =>
    Answers (if wh || !oOf bs j then kids (dOf bs) bs.length j else []) W.heap.size r W' ∧ Below W.heap.size W W'

set_option maxRecDepth 100000 in
set_option maxHeartbeats 4000000 in
theorem thru_m (bs : List Bx) (hs : Shape (dOf bs) bs.length) (wh : Bool) (w1 : World) (f : Nat) (bv : Value) (hW : Within bs wh w1 f bv) (hlen : bs.length ≤ 1000)
    (B : Option Nat) (s1 a b0 b : Nat) (hbb : b0 ≤ b) (hs1 : s1 = w1.heap.size) (hB : ∀ x, B = some x → x < b) (l N : Nat) (J Jx : List Ev → World → Prop)
    (hJ : ∀ pre W W', J pre W → Below W.heap.size W W' → J pre W')
    (hY : ∀ m pre x W, J pre W → pre.length < N → YieldAt Fence.wide m Try.prog l (encW x) W fun e W' => (e = .returned (.bool true) ∧ J (pre ++ [x]) W' ∧ StayB B s1 a b0 b W W') ∨ (e = .returned (.bool false) ∧ Jx (pre ++ [x]) W')) :
    ∀ m (k : Nat) (i tz : Nat) (A : Option Addr) (c : Nat) (ps : List Nat) (pre : List Ev) (W : World), bs.length - i < m → Nested (dOf bs) bs.length i tz → ps = tops (dOf bs) bs.length i tz → ps.length ≤ 1000 → Places B b W A ps → Good B s1 b w1 W → J pre W →
      pre.length + (wlk (dOf bs) (oOf bs) bs.length wh i tz).length ≤ N →
      CallsIn Fence.wide k Try.prog 31 #[.agg #[.func (.func f) #[bv] #[], .func (.yield l) #[] #[]], .slice A ps.length c] W fun e W' =>
        (e = .returned (.bool true) ∧ J (pre ++ wlk (dOf bs) (oOf bs) bs.length wh i tz) W' ∧ StayB B s1 a b0 b W W') ∨ (e = .returned (.bool false) ∧ ∃ q, q <+: wlk (dOf bs) (oOf bs) bs.length wh i tz ∧ Jx (pre ++ q) W')
  | 0, _, _, _, _, _, _, _, _, h, _, _, _, _, _, _, _ => by omega
  | m + 1, k, i, tz, A, c, ps, pre, W, hm, hnest, hps, hpl, hP, hG, hj0, hN => by
    have hro : Fence.wide.round = none := rfl
    have IH := Lib.hid (thru_m bs hs wh w1 f bv hW hlen B s1 a b0 b hbb hs1 hB l N J Jx hJ hY m)
    have HY := Lib.hid hY
    have HJ := Lib.hid hJ
    have HW := Lib.hid hW
    have HB := Lib.hid hB
    have HS := Lib.hid hs
    have HS1 := Lib.hid hs1
    clear hY hJ hW hB hs hs1
    obtain ⟨L, hL⟩ : ∃ L, ps.length = L := ⟨_, rfl⟩
    rw [hL] at hpl ⊢
    have HL := Lib.hid hL
    have HP := Lib.hid hP
    have HG := Lib.hid hG
    have HJ0 := Lib.hid hj0
    have HPS := Lib.hid hps
    have HNE := Lib.hid hnest
    have HN := Lib.hid hN
    clear hL hP hG hj0 hps hnest hN
    refine callsIn_of_wp Try.func31 rfl trivial ?_ hro
    simp only [Try.ntmps31, List.size_toArray, List.length_cons, List.length_nil, Nat.reduceAdd, Nat.reduceSub, Array.replicate_succ, Array.replicate_zero, List.push_toArray, List.append_toArray, List.nil_append, List.cons_append]
    gi_upto_region 1 with fail
    obtain ⟨fv, hfv⟩ : ∃ fv, Value.func (Fn.func f) #[bv] #[] = fv := ⟨_, rfl⟩
    obtain ⟨yv, hyv⟩ : ∃ yv, Value.func (Fn.yield l) #[] #[] = yv := ⟨_, rfl⟩
    rw [hfv, hyv]
    generalize hWa : World.alloc W _ = Wa
    have hka : Below W.heap.size W Wa := by rw [← hWa]; exact ba1 _ _
    have hSa : StayB B s1 a b0 b W Wa := StayB.of_below hka HG.out.hs HG.out.hb hbb HB.out
    have hwb : ∀ q, ¬ owns B Wa (W.heap.size + q) := fun q h => by
      have := HG.out.wf _ ((owns_same (fun x e => hka.block x (by have := HB.out x e; have := HG.out.hb; omega)) _).1 h)
      omega
    have hb0 : Own1 B b Wa ⟨W.heap.size, 0, none⟩ fv := ⟨by rw [cell_of_row Wa W.heap.size 0 _ _ _ (by rw [← hWa]; exact heap_alloc_new W _)]; rfl, HG.out.hb, by simpa using hwb 0⟩
    have hb1 : Own1 B b Wa ⟨W.heap.size, 1, none⟩ yv := ⟨by rw [cell_of_row Wa W.heap.size 1 _ _ _ (by rw [← hWa]; exact heap_alloc_new W _)]; rfl, HG.out.hb, by simpa using hwb 0⟩
    clear hWa hwb
    subst hfv hyv
    have hla := hka.size
    have HSA := Lib.hid hSa
    have HKA := Lib.hid hka
    have HB0 := Lib.hid hb0
    have HB1 := Lib.hid hb1
    clear hSa hka hb0 hb1
    gi_wp2_with fail
    gi_loopw [9] (fun s wr => ∃ kk : Nat, ∃ j : Nat, ∃ dn : List Ev, kk ≤ L ∧ s = .int .i64 (kk : Int) ∧ Hid (ps.drop kk = tops (dOf bs) bs.length j tz ∧ i ≤ j ∧ dn ++ wlk (dOf bs) (oOf bs) bs.length wh j tz = wlk (dOf bs) (oOf bs) bs.length wh i tz ∧ J (pre ++ dn) wr ∧ StayB B s1 a b0 b Wa wr)) (fun s _ => L - (intOf s).toNat)
    case atStart => exact ⟨0, i, [], by omega, rfl, Lib.hid ⟨by rw [HPS.out]; rfl, Nat.le_refl _, rfl, by rw [List.append_nil]; exact HJ.out _ _ _ HJ0.out HKA.out, StayB.refl _ _ _ _ _ _⟩⟩
    case round =>
      obtain ⟨kk, j, dn, hkk, rfl, hst⟩ := hrel
      rcases Nat.lt_or_ge kk L with h | h
      · obtain ⟨g1, g2, g3, g4, g5⟩ := hst.out
        clear hst
        obtain ⟨pr, hpr⟩ : ∃ pr, pre ++ dn = pr := ⟨_, rfl⟩
        rw [hpr] at g4
        have HPR := Lib.hid hpr
        have HIJ := Lib.hid g2
        have HEN := Lib.hid (en_spec (dOf bs) bs.length j (tops_at g1 (by rw [HL.out]; exact h)).2.1).1
        have hwk : IntKind.i64.wrap ((kk : Int) + 1) = (kk : Int) + 1 := IntWalk.i64_in _ (by omega)
        obtain ⟨hjt, hjn, hat, hnx⟩ := tops_at g1 (by rw [HL.out]; exact h)
        have hG0 := (HG.out.stay HSA.out).stay g5
        obtain ⟨ad, hA, hcell⟩ := ((HP.out.stay HSA.out).stay g5) kk j hat
        subst hA
        have hk1 : (kk : Int) < (L : Int) := by omega
        have hk0 : ¬ (kk : Int) < 0 := by omega
        have hc := hcell.1
        obtain ⟨i2, hi2, hn2, hp2, hw2⟩ := inner_tops HS.out (oOf bs) wh hjn
        have hwj := wlk_next (dOf bs) (oOf bs) bs.length wh hjt hjn
        rw [hw2] at hwj
        have hlen1 : pr.length + (wlk (dOf bs) (oOf bs) bs.length wh j tz).length ≤ N := by
          have q1 := congrArg List.length g3
          have q2 := congrArg List.length hpr
          have q3 := HN.out
          simp only [List.length_append] at q1 q2
          omega
        have hlen2 := congrArg List.length hwj
        simp only [List.length_cons, List.length_append] at hlen2
        obtain ⟨inn, hinn⟩ : ∃ inn, wlk (dOf bs) (oOf bs) bs.length wh i2 (en (dOf bs) bs.length j) = inn := ⟨_, rfl⟩
        rw [hinn] at hwj hlen2 hw2
        have hd0 : Below wr.heap.size wr wr.drew := (Below.refl _ _).drew
        have hY1 := HY.out (k - 1) pr ⟨(j : Int), false⟩ wr.drew (HJ.out _ _ _ g4 hd0) (by omega)
        obtain ⟨fn1, tm1, as1, bd1, hy1, hR1⟩ := hY1
        dsimp only [encW] at hy1
        have hS0 : StayB B s1 a b0 b Wa wr.drew := g5.trans (StayB.of_below hd0 hG0.hs hG0.hb hbb HB.out)
        have c0 := (HB0.out.stay g5).1
        have c1 := (HB1.out.stay g5).1
        have hen := HW.out.enter
        have G1 := Lib.hid g1
        have G3 := Lib.hid g3
        have HWJ := Lib.hid hwj
        have HNX := Lib.hid hnx
        have HS0 := Lib.hid hS0
        have HN2 := Lib.hid hn2
        have HP2 := Lib.hid hp2
        have HINN := Lib.hid hinn
        have HL1 := Lib.hid hlen1
        have HL2 := Lib.hid hlen2
        have HI2 := Lib.hid hi2
        clear hpr g1 g2 g3 g4 g5 hwj hnx hS0 hn2 hp2 hw2 hinn hlen1 hlen2 hi2 hcell hG0 hd0 hat
        gi_upto_region 4 with fail
        -- GEN
        refine wpIn_region_any (by kernel_rfl) ?_
        try (change wpAnyIn _ _ _ _ _ _ _ _ _ (World.drew _))
        refine wpAnyIn_take (i := 0) (v := ?_) rfl rfl (by kernel_rfl) (by kernel_rfl) (by kernel_rfl) (fun _ _ _ h => h) ⟨Or.inl ⟨by rfl, ?_⟩, fun _ => rfl⟩ ?_
        rotate_left
        · intro _; go_simp; rfl
        refine wpAnyIn_take (i := 2) (v := ?_) rfl rfl (by kernel_rfl) (by kernel_rfl) (by kernel_rfl) (fun _ _ _ h => h) ⟨Or.inl ⟨by rfl, ?_⟩, fun _ => rfl⟩ ?_
        rotate_left
        · intro _; go_simp; rfl
        refine wpAnyIn_take (i := 3) (v := ?_) rfl rfl (by kernel_rfl) (by kernel_rfl) (by kernel_rfl) (fun _ _ _ h => h) ⟨Or.inl ⟨by rfl, ?_⟩, fun _ => rfl⟩ ?_
        rotate_left
        · intro _; go_simp; rfl
        refine wpAnyIn_ready (rs := [1]) (by kernel_rfl) (by simp) ?_
        refine AllReadyIn.cons rfl (fun K hK => ?_) AllReadyIn.nil
        go_simp
        refine hK _ _ ?_
        clear hK K
        refine wpAnyIn_ready (rs := [4]) (by kernel_rfl) (by simp) ?_
        refine AllReadyIn.cons rfl (fun K hK => ?_) AllReadyIn.nil
        go_simp
        refine ⟨fun h => (by cases h), ?_⟩
        refine hR1.mono ?_
        clear hR1 hy1
        rintro e W2 (⟨rfl, j2, s2⟩ | ⟨rfl, jx2⟩)
        · --yes
          have t2 := HS0.out.trans s2
          have G2 := Lib.hid ((HG.out.stay HSA.out).stay t2)
          have c20 := (HB0.out.stay t2).1
          have c21 := (HB1.out.stay t2).1
          have hA2 := HW.out.ask W2 j (by rw [← HS1.out]; exact G2.out.low) hjn
          rw [HP2.out] at hA2
          replace hA2 := callsIn_wide (n := k - 1).2 hA2
          have T2 := Lib.hid t2
          have J2 := Lib.hid j2
          clear s2 j2 t2
          refine hK _ _ ?_
          clear hK K
          refine wpAnyIn_take (i := 5) (v := ?_) rfl rfl (by kernel_rfl) (by kernel_rfl) (by kernel_rfl) (fun _ _ _ h => h) ⟨Or.inl ⟨by rfl, ?_⟩, fun _ => rfl⟩ ?_
          rotate_left
          · intro _; go_simp; rfl
          refine wpAnyIn_take (i := 6) (v := ?_) rfl rfl (by kernel_rfl) (by kernel_rfl) (by kernel_rfl) (fun _ _ _ h => h) ⟨Or.inl ⟨by rfl, ?_⟩, fun _ => rfl⟩ ?_
          rotate_left
          · intro _; go_simp; rfl
          refine wpAnyIn_take (i := 8) (v := ?_) rfl rfl (by kernel_rfl) (by kernel_rfl) (by kernel_rfl) (fun _ _ _ h => h) ⟨Or.inl ⟨by rfl, ?_⟩, fun _ => rfl⟩ ?_
          rotate_left
          · intro _; go_simp; rfl
          refine wpAnyIn_take (i := 10) (v := ?_) rfl rfl (by kernel_rfl) (by kernel_rfl) (by kernel_rfl) (fun _ _ _ h => h) ⟨Or.inl ⟨by rfl, ?_⟩, fun _ => rfl⟩ ?_
          rotate_left
          · intro _; go_simp; rfl
          refine wpAnyIn_ready (rs := [7, 9]) (by kernel_rfl) (by simp) ?_
          refine AllReadyIn.cons rfl (fun K hK => ?_) ?_
          · go_simp
            refine hK _ _ ?_
            clear hK K
            refine wpAnyIn_ready (rs := [9]) (by kernel_rfl) (by simp) ?_
            refine AllReadyIn.cons rfl (fun K hK => ?_) AllReadyIn.nil
            go_simp
            refine hK _ _ ?_
            clear hK K
            refine wpAnyIn_ready (rs := [11]) (by kernel_rfl) (by simp) ?_
            refine AllReadyIn.cons rfl (fun K hK => ?_) AllReadyIn.nil
            go_simp
            refine ⟨trivial, fun h => (by cases h), ?_⟩
            refine hA2.mono ?_
            rintro e W3 ⟨⟨A3, c3, rfl, n3, f3⟩, k3⟩
            have t3 := T2.out.trans (StayB.of_below k3 G2.out.hs G2.out.hb hbb HB.out)
            have c30 := (HB0.out.stay t3).1
            have c31 := (HB1.out.stay t3).1
            refine hK _ _ ?_
            clear hK K
            have G3' := Lib.hid ((HG.out.stay HSA.out).stay t3)
            have hC3 := IH.out (k - 1) i2 (en (dOf bs) bs.length j) A3 c3 (tops (dOf bs) bs.length i2 (en (dOf bs) bs.length j)) (pr ++ [⟨(j : Int), false⟩]) W3 (by have := HI2.out; have := HIJ.out; omega) HN2.out rfl (Nat.le_trans (tops_len _ _ _ _) hlen) (Places.fresh G2.out k3 HB.out n3 f3) G3'.out (HJ.out _ _ _ J2.out k3) (by rw [HINN.out]; simp only [List.length_append, List.length_cons, List.length_nil]; have := HL1.out; have := HL2.out; omega)
            rw [HINN.out] at hC3
            have T3 := Lib.hid t3
            clear n3 f3 k3 t3
            refine wpAnyIn_ready (rs := [12]) (by kernel_rfl) (by simp) ?_
            refine AllReadyIn.cons rfl (fun K hK => ?_) AllReadyIn.nil
            go_simp
            refine ⟨trivial, fun h => (by cases h), ?_⟩
            refine hC3.mono ?_
            clear hC3
            rintro e W4 (⟨rfl, j4, s4⟩ | ⟨rfl, q, hq, jx4⟩)
            · have t4 := T3.out.trans s4
              have c41 := (HB1.out.stay t4).1
              obtain ⟨fn4, tm4, as4, bd4, hy4, hR4⟩ := HY.out (k - 1) (pr ++ [⟨(j : Int), false⟩] ++ inn) ⟨(j : Int), true⟩ W4 j4 (by simp only [List.length_append, List.length_cons, List.length_nil]; have := HL1.out; have := HL2.out; omega)
              dsimp only [encW] at hy4
              have T4 := Lib.hid t4
              clear s4 j4 t4
              refine hK _ _ ?_
              clear hK K
              refine wpAnyIn_take (i := 13) (v := ?_) rfl rfl (by kernel_rfl) (by kernel_rfl) (by kernel_rfl) (fun _ _ _ h => h) ⟨Or.inl ⟨by rfl, ?_⟩, fun _ => rfl⟩ ?_
              rotate_left
              · intro _; go_simp; rfl
              refine wpAnyIn_take (i := 14) (v := ?_) rfl rfl (by kernel_rfl) (by kernel_rfl) (by kernel_rfl) (fun _ _ _ h => h) ⟨Or.inl ⟨by rfl, ?_⟩, fun _ => rfl⟩ ?_
              rotate_left
              · intro _; go_simp; rfl
              refine wpAnyIn_take (i := 15) (v := ?_) rfl rfl (by kernel_rfl) (by kernel_rfl) (by kernel_rfl) (fun _ _ _ h => h) ⟨Or.inl ⟨by rfl, ?_⟩, fun _ => rfl⟩ ?_
              rotate_left
              · intro _; go_simp; rfl
              refine wpAnyIn_take (i := 16) (v := ?_) rfl rfl (by kernel_rfl) (by kernel_rfl) (by kernel_rfl) (fun _ _ _ h => h) ⟨Or.inl ⟨by rfl, ?_⟩, fun _ => rfl⟩ ?_
              rotate_left
              · intro _; go_simp; rfl
              refine wpAnyIn_take (i := 18) (v := ?_) rfl rfl (by kernel_rfl) (by kernel_rfl) (by kernel_rfl) (fun _ _ _ h => h) ⟨Or.inl ⟨by rfl, ?_⟩, fun _ => rfl⟩ ?_
              rotate_left
              · intro _; go_simp; rfl
              refine wpAnyIn_take (i := 19) (v := ?_) rfl rfl (by kernel_rfl) (by kernel_rfl) (by kernel_rfl) (fun _ _ _ h => h) ⟨Or.inl ⟨by rfl, ?_⟩, fun _ => rfl⟩ ?_
              rotate_left
              · intro _; go_simp; rfl
              refine wpAnyIn_ready (rs := [17]) (by kernel_rfl) (by simp) ?_
              refine AllReadyIn.cons rfl (fun K hK => ?_) AllReadyIn.nil
              go_simp
              refine hK _ _ ?_
              clear hK K
              refine wpAnyIn_ready (rs := [20]) (by kernel_rfl) (by simp) ?_
              refine AllReadyIn.cons rfl (fun K hK => ?_) AllReadyIn.nil
              go_simp
              refine ⟨fun h => (by cases h), ?_⟩
              refine hR4.mono ?_
              clear hR4 hy4
              rintro e W5 (⟨rfl, j5, s5⟩ | ⟨rfl, jx5⟩)
              · have J5 := Lib.hid j5
                have S5 := Lib.hid s5
                clear j5 s5
                refine hK _ _ ?_
                clear hK K
                refine wpAnyIn_take (i := 21) (v := ?_) rfl rfl (by kernel_rfl) (by kernel_rfl) (by kernel_rfl) (fun _ _ _ h => h) ⟨Or.inl ⟨by rfl, ?_⟩, fun _ => rfl⟩ ?_
                rotate_left
                · intro _; go_simp; rfl
                refine wpAnyIn_take (i := 22) (v := ?_) rfl rfl (by kernel_rfl) (by kernel_rfl) (by kernel_rfl) (fun _ _ _ h => h) ⟨Or.inl ⟨by rfl, ?_⟩, fun _ => rfl⟩ ?_
                rotate_left
                · intro _; go_simp; rfl
                refine wpAnyIn_done (by kernel_rfl) ?_ _
                gi_wp2
                go_roundw
                case rel => exact ⟨kk + 1, en (dOf bs) bs.length j, dn ++ [⟨(j : Int), false⟩] ++ inn ++ [⟨(j : Int), true⟩], by omega, by simp, Lib.hid ⟨HNX.out, by have := HIJ.out; have := HEN.out; omega, (next20 HWJ.out).trans G3.out, by simp only [← List.append_assoc]; rw [HPR.out]; exact J5.out, T4.out.trans S5.out⟩⟩
                case measure => simp only [intOf]; omega
              · have JX5 := Lib.hid jx5
                clear jx5
                refine hK _ _ ?_
                clear hK K
                refine wpAnyIn_take (i := 21) (v := ?_) rfl rfl (by kernel_rfl) (by kernel_rfl) (by kernel_rfl) (fun _ _ _ h => h) ⟨Or.inl ⟨by rfl, ?_⟩, fun _ => rfl⟩ ?_
                rotate_left
                · intro _; go_simp; rfl
                refine wpAnyIn_take (i := 22) (v := ?_) rfl rfl (by kernel_rfl) (by kernel_rfl) (by kernel_rfl) (fun _ _ _ h => h) ⟨Or.inl ⟨by rfl, ?_⟩, fun _ => rfl⟩ ?_
                rotate_left
                · intro _; go_simp; rfl
                refine wpAnyIn_done (by kernel_rfl) ?_ _
                gi_wp2
                go_ret
                exact .inr ⟨rfl, dn ++ [⟨(j : Int), false⟩] ++ inn ++ [⟨(j : Int), true⟩], front20 G3.out HWJ.out, by simp only [← List.append_assoc]; rw [HPR.out]; exact JX5.out⟩
            · have JX4 := Lib.hid jx4
              have HQ := Lib.hid hq
              clear jx4 hq
              refine hK _ _ ?_
              clear hK K
              refine wpAnyIn_take (i := 13) (v := ?_) rfl rfl (by kernel_rfl) (by kernel_rfl) (by kernel_rfl) (fun _ _ _ h => h) ⟨Or.inl ⟨by rfl, ?_⟩, fun _ => rfl⟩ ?_
              rotate_left
              · intro _; go_simp; rfl
              refine wpAnyIn_take (i := 14) (v := ?_) rfl rfl (by kernel_rfl) (by kernel_rfl) (by kernel_rfl) (fun _ _ _ h => h) ⟨Or.inl ⟨by rfl, ?_⟩, fun _ => rfl⟩ ?_
              rotate_left
              · intro _; go_simp; rfl
              refine wpAnyIn_take (i := 15) (v := ?_) rfl rfl (by kernel_rfl) (by kernel_rfl) (by kernel_rfl) (fun _ _ _ h => h) ⟨Or.inl ⟨by rfl, ?_⟩, fun _ => rfl⟩ ?_
              rotate_left
              · intro _; go_simp; rfl
              refine wpAnyIn_take (i := 16) (v := undef) rfl rfl (by kernel_rfl) (by kernel_rfl) (by kernel_rfl) (fun _ _ _ h => h) ⟨Or.inr ⟨by rfl, rfl⟩, fun _ => rfl⟩ ?_
              refine wpAnyIn_take (i := 18) (v := undef) rfl rfl (by kernel_rfl) (by kernel_rfl) (by kernel_rfl) (fun _ _ _ h => h) ⟨Or.inr ⟨by rfl, rfl⟩, fun _ => rfl⟩ ?_
              refine wpAnyIn_take (i := 19) (v := undef) rfl rfl (by kernel_rfl) (by kernel_rfl) (by kernel_rfl) (fun _ _ _ h => h) ⟨Or.inr ⟨by rfl, rfl⟩, fun _ => rfl⟩ ?_
              refine wpAnyIn_take (i := 17) (v := undef) rfl rfl (by kernel_rfl) (by kernel_rfl) (by kernel_rfl) (fun _ _ _ h => h) ⟨Or.inr ⟨by rfl, rfl⟩, fun _ => rfl⟩ ?_
              refine wpAnyIn_ready (rs := [20]) (by kernel_rfl) (by simp) ?_
              refine AllReadyIn.cons rfl (fun K hK => ?_) AllReadyIn.nil
              go_simp
              first | refine ⟨fun _ _ => trivial, ?_⟩ | refine ⟨trivial, ?_⟩ | skip
              refine hK _ _ ?_
              clear hK K
              refine wpAnyIn_take (i := 21) (v := undef) rfl rfl (by kernel_rfl) (by kernel_rfl) (by kernel_rfl) (fun _ _ _ h => h) ⟨Or.inr ⟨by rfl, rfl⟩, fun _ => rfl⟩ ?_
              refine wpAnyIn_take (i := 22) (v := ?_) rfl rfl (by kernel_rfl) (by kernel_rfl) (by kernel_rfl) (fun _ _ _ h => h) ⟨Or.inl ⟨by rfl, ?_⟩, fun _ => rfl⟩ ?_
              rotate_left
              · intro _; go_simp; rfl
              refine wpAnyIn_done (by kernel_rfl) ?_ _
              gi_wp2
              go_ret
              exact .inr ⟨rfl, dn ++ [⟨(j : Int), false⟩] ++ q, front12 G3.out HWJ.out HQ.out, by simp only [← List.append_assoc]; rw [HPR.out]; exact JX4.out⟩
          · refine AllReadyIn.cons rfl (fun K hK => ?_) AllReadyIn.nil
            go_simp
            refine hK _ _ ?_
            clear hK K
            refine wpAnyIn_ready (rs := [7, 11]) (by kernel_rfl) (by simp) ?_
            refine AllReadyIn.cons rfl (fun K hK => ?_) ?_
            · go_simp
              refine hK _ _ ?_
              clear hK K
              refine wpAnyIn_ready (rs := [11]) (by kernel_rfl) (by simp) ?_
              refine AllReadyIn.cons rfl (fun K hK => ?_) AllReadyIn.nil
              go_simp
              refine ⟨trivial, fun h => (by cases h), ?_⟩
              refine hA2.mono ?_
              rintro e W3 ⟨⟨A3, c3, rfl, n3, f3⟩, k3⟩
              have t3 := T2.out.trans (StayB.of_below k3 G2.out.hs G2.out.hb hbb HB.out)
              have c30 := (HB0.out.stay t3).1
              have c31 := (HB1.out.stay t3).1
              refine hK _ _ ?_
              clear hK K
              have G3' := Lib.hid ((HG.out.stay HSA.out).stay t3)
              have hC3 := IH.out (k - 1) i2 (en (dOf bs) bs.length j) A3 c3 (tops (dOf bs) bs.length i2 (en (dOf bs) bs.length j)) (pr ++ [⟨(j : Int), false⟩]) W3 (by have := HI2.out; have := HIJ.out; omega) HN2.out rfl (Nat.le_trans (tops_len _ _ _ _) hlen) (Places.fresh G2.out k3 HB.out n3 f3) G3'.out (HJ.out _ _ _ J2.out k3) (by rw [HINN.out]; simp only [List.length_append, List.length_cons, List.length_nil]; have := HL1.out; have := HL2.out; omega)
              rw [HINN.out] at hC3
              have T3 := Lib.hid t3
              clear n3 f3 k3 t3
              refine wpAnyIn_ready (rs := [12]) (by kernel_rfl) (by simp) ?_
              refine AllReadyIn.cons rfl (fun K hK => ?_) AllReadyIn.nil
              go_simp
              refine ⟨trivial, fun h => (by cases h), ?_⟩
              refine hC3.mono ?_
              clear hC3
              rintro e W4 (⟨rfl, j4, s4⟩ | ⟨rfl, q, hq, jx4⟩)
              · have t4 := T3.out.trans s4
                have c41 := (HB1.out.stay t4).1
                obtain ⟨fn4, tm4, as4, bd4, hy4, hR4⟩ := HY.out (k - 1) (pr ++ [⟨(j : Int), false⟩] ++ inn) ⟨(j : Int), true⟩ W4 j4 (by simp only [List.length_append, List.length_cons, List.length_nil]; have := HL1.out; have := HL2.out; omega)
                dsimp only [encW] at hy4
                have T4 := Lib.hid t4
                clear s4 j4 t4
                refine hK _ _ ?_
                clear hK K
                refine wpAnyIn_take (i := 13) (v := ?_) rfl rfl (by kernel_rfl) (by kernel_rfl) (by kernel_rfl) (fun _ _ _ h => h) ⟨Or.inl ⟨by rfl, ?_⟩, fun _ => rfl⟩ ?_
                rotate_left
                · intro _; go_simp; rfl
                refine wpAnyIn_take (i := 14) (v := ?_) rfl rfl (by kernel_rfl) (by kernel_rfl) (by kernel_rfl) (fun _ _ _ h => h) ⟨Or.inl ⟨by rfl, ?_⟩, fun _ => rfl⟩ ?_
                rotate_left
                · intro _; go_simp; rfl
                refine wpAnyIn_take (i := 15) (v := ?_) rfl rfl (by kernel_rfl) (by kernel_rfl) (by kernel_rfl) (fun _ _ _ h => h) ⟨Or.inl ⟨by rfl, ?_⟩, fun _ => rfl⟩ ?_
                rotate_left
                · intro _; go_simp; rfl
                refine wpAnyIn_take (i := 16) (v := ?_) rfl rfl (by kernel_rfl) (by kernel_rfl) (by kernel_rfl) (fun _ _ _ h => h) ⟨Or.inl ⟨by rfl, ?_⟩, fun _ => rfl⟩ ?_
                rotate_left
                · intro _; go_simp; rfl
                refine wpAnyIn_take (i := 18) (v := ?_) rfl rfl (by kernel_rfl) (by kernel_rfl) (by kernel_rfl) (fun _ _ _ h => h) ⟨Or.inl ⟨by rfl, ?_⟩, fun _ => rfl⟩ ?_
                rotate_left
                · intro _; go_simp; rfl
                refine wpAnyIn_take (i := 19) (v := ?_) rfl rfl (by kernel_rfl) (by kernel_rfl) (by kernel_rfl) (fun _ _ _ h => h) ⟨Or.inl ⟨by rfl, ?_⟩, fun _ => rfl⟩ ?_
                rotate_left
                · intro _; go_simp; rfl
                refine wpAnyIn_ready (rs := [17]) (by kernel_rfl) (by simp) ?_
                refine AllReadyIn.cons rfl (fun K hK => ?_) AllReadyIn.nil
                go_simp
                refine hK _ _ ?_
                clear hK K
                refine wpAnyIn_ready (rs := [20]) (by kernel_rfl) (by simp) ?_
                refine AllReadyIn.cons rfl (fun K hK => ?_) AllReadyIn.nil
                go_simp
                refine ⟨fun h => (by cases h), ?_⟩
                refine hR4.mono ?_
                clear hR4 hy4
                rintro e W5 (⟨rfl, j5, s5⟩ | ⟨rfl, jx5⟩)
                · have J5 := Lib.hid j5
                  have S5 := Lib.hid s5
                  clear j5 s5
                  refine hK _ _ ?_
                  clear hK K
                  refine wpAnyIn_take (i := 21) (v := ?_) rfl rfl (by kernel_rfl) (by kernel_rfl) (by kernel_rfl) (fun _ _ _ h => h) ⟨Or.inl ⟨by rfl, ?_⟩, fun _ => rfl⟩ ?_
                  rotate_left
                  · intro _; go_simp; rfl
                  refine wpAnyIn_take (i := 22) (v := ?_) rfl rfl (by kernel_rfl) (by kernel_rfl) (by kernel_rfl) (fun _ _ _ h => h) ⟨Or.inl ⟨by rfl, ?_⟩, fun _ => rfl⟩ ?_
                  rotate_left
                  · intro _; go_simp; rfl
                  refine wpAnyIn_done (by kernel_rfl) ?_ _
                  gi_wp2
                  go_roundw
                  case rel => exact ⟨kk + 1, en (dOf bs) bs.length j, dn ++ [⟨(j : Int), false⟩] ++ inn ++ [⟨(j : Int), true⟩], by omega, by simp, Lib.hid ⟨HNX.out, by have := HIJ.out; have := HEN.out; omega, (next20 HWJ.out).trans G3.out, by simp only [← List.append_assoc]; rw [HPR.out]; exact J5.out, T4.out.trans S5.out⟩⟩
                  case measure => simp only [intOf]; omega
                · have JX5 := Lib.hid jx5
                  clear jx5
                  refine hK _ _ ?_
                  clear hK K
                  refine wpAnyIn_take (i := 21) (v := ?_) rfl rfl (by kernel_rfl) (by kernel_rfl) (by kernel_rfl) (fun _ _ _ h => h) ⟨Or.inl ⟨by rfl, ?_⟩, fun _ => rfl⟩ ?_
                  rotate_left
                  · intro _; go_simp; rfl
                  refine wpAnyIn_take (i := 22) (v := ?_) rfl rfl (by kernel_rfl) (by kernel_rfl) (by kernel_rfl) (fun _ _ _ h => h) ⟨Or.inl ⟨by rfl, ?_⟩, fun _ => rfl⟩ ?_
                  rotate_left
                  · intro _; go_simp; rfl
                  refine wpAnyIn_done (by kernel_rfl) ?_ _
                  gi_wp2
                  go_ret
                  exact .inr ⟨rfl, dn ++ [⟨(j : Int), false⟩] ++ inn ++ [⟨(j : Int), true⟩], front20 G3.out HWJ.out, by simp only [← List.append_assoc]; rw [HPR.out]; exact JX5.out⟩
              · have JX4 := Lib.hid jx4
                have HQ := Lib.hid hq
                clear jx4 hq
                refine hK _ _ ?_
                clear hK K
                refine wpAnyIn_take (i := 13) (v := ?_) rfl rfl (by kernel_rfl) (by kernel_rfl) (by kernel_rfl) (fun _ _ _ h => h) ⟨Or.inl ⟨by rfl, ?_⟩, fun _ => rfl⟩ ?_
                rotate_left
                · intro _; go_simp; rfl
                refine wpAnyIn_take (i := 14) (v := ?_) rfl rfl (by kernel_rfl) (by kernel_rfl) (by kernel_rfl) (fun _ _ _ h => h) ⟨Or.inl ⟨by rfl, ?_⟩, fun _ => rfl⟩ ?_
                rotate_left
                · intro _; go_simp; rfl
                refine wpAnyIn_take (i := 15) (v := ?_) rfl rfl (by kernel_rfl) (by kernel_rfl) (by kernel_rfl) (fun _ _ _ h => h) ⟨Or.inl ⟨by rfl, ?_⟩, fun _ => rfl⟩ ?_
                rotate_left
                · intro _; go_simp; rfl
                refine wpAnyIn_take (i := 16) (v := undef) rfl rfl (by kernel_rfl) (by kernel_rfl) (by kernel_rfl) (fun _ _ _ h => h) ⟨Or.inr ⟨by rfl, rfl⟩, fun _ => rfl⟩ ?_
                refine wpAnyIn_take (i := 18) (v := undef) rfl rfl (by kernel_rfl) (by kernel_rfl) (by kernel_rfl) (fun _ _ _ h => h) ⟨Or.inr ⟨by rfl, rfl⟩, fun _ => rfl⟩ ?_
                refine wpAnyIn_take (i := 19) (v := undef) rfl rfl (by kernel_rfl) (by kernel_rfl) (by kernel_rfl) (fun _ _ _ h => h) ⟨Or.inr ⟨by rfl, rfl⟩, fun _ => rfl⟩ ?_
                refine wpAnyIn_take (i := 17) (v := undef) rfl rfl (by kernel_rfl) (by kernel_rfl) (by kernel_rfl) (fun _ _ _ h => h) ⟨Or.inr ⟨by rfl, rfl⟩, fun _ => rfl⟩ ?_
                refine wpAnyIn_ready (rs := [20]) (by kernel_rfl) (by simp) ?_
                refine AllReadyIn.cons rfl (fun K hK => ?_) AllReadyIn.nil
                go_simp
                first | refine ⟨fun _ _ => trivial, ?_⟩ | refine ⟨trivial, ?_⟩ | skip
                refine hK _ _ ?_
                clear hK K
                refine wpAnyIn_take (i := 21) (v := undef) rfl rfl (by kernel_rfl) (by kernel_rfl) (by kernel_rfl) (fun _ _ _ h => h) ⟨Or.inr ⟨by rfl, rfl⟩, fun _ => rfl⟩ ?_
                refine wpAnyIn_take (i := 22) (v := ?_) rfl rfl (by kernel_rfl) (by kernel_rfl) (by kernel_rfl) (fun _ _ _ h => h) ⟨Or.inl ⟨by rfl, ?_⟩, fun _ => rfl⟩ ?_
                rotate_left
                · intro _; go_simp; rfl
                refine wpAnyIn_done (by kernel_rfl) ?_ _
                gi_wp2
                go_ret
                exact .inr ⟨rfl, dn ++ [⟨(j : Int), false⟩] ++ q, front12 G3.out HWJ.out HQ.out, by simp only [← List.append_assoc]; rw [HPR.out]; exact JX4.out⟩
            · refine AllReadyIn.cons rfl (fun K hK => ?_) AllReadyIn.nil
              go_simp
              refine ⟨trivial, fun h => (by cases h), ?_⟩
              refine hA2.mono ?_
              rintro e W3 ⟨⟨A3, c3, rfl, n3, f3⟩, k3⟩
              have t3 := T2.out.trans (StayB.of_below k3 G2.out.hs G2.out.hb hbb HB.out)
              have c30 := (HB0.out.stay t3).1
              have c31 := (HB1.out.stay t3).1
              refine hK _ _ ?_
              clear hK K
              refine wpAnyIn_ready (rs := [7]) (by kernel_rfl) (by simp) ?_
              refine AllReadyIn.cons rfl (fun K hK => ?_) AllReadyIn.nil
              go_simp
              refine hK _ _ ?_
              clear hK K
              have G3' := Lib.hid ((HG.out.stay HSA.out).stay t3)
              have hC3 := IH.out (k - 1) i2 (en (dOf bs) bs.length j) A3 c3 (tops (dOf bs) bs.length i2 (en (dOf bs) bs.length j)) (pr ++ [⟨(j : Int), false⟩]) W3 (by have := HI2.out; have := HIJ.out; omega) HN2.out rfl (Nat.le_trans (tops_len _ _ _ _) hlen) (Places.fresh G2.out k3 HB.out n3 f3) G3'.out (HJ.out _ _ _ J2.out k3) (by rw [HINN.out]; simp only [List.length_append, List.length_cons, List.length_nil]; have := HL1.out; have := HL2.out; omega)
              rw [HINN.out] at hC3
              have T3 := Lib.hid t3
              clear n3 f3 k3 t3
              refine wpAnyIn_ready (rs := [12]) (by kernel_rfl) (by simp) ?_
              refine AllReadyIn.cons rfl (fun K hK => ?_) AllReadyIn.nil
              go_simp
              refine ⟨trivial, fun h => (by cases h), ?_⟩
              refine hC3.mono ?_
              clear hC3
              rintro e W4 (⟨rfl, j4, s4⟩ | ⟨rfl, q, hq, jx4⟩)
              · have t4 := T3.out.trans s4
                have c41 := (HB1.out.stay t4).1
                obtain ⟨fn4, tm4, as4, bd4, hy4, hR4⟩ := HY.out (k - 1) (pr ++ [⟨(j : Int), false⟩] ++ inn) ⟨(j : Int), true⟩ W4 j4 (by simp only [List.length_append, List.length_cons, List.length_nil]; have := HL1.out; have := HL2.out; omega)
                dsimp only [encW] at hy4
                have T4 := Lib.hid t4
                clear s4 j4 t4
                refine hK _ _ ?_
                clear hK K
                refine wpAnyIn_take (i := 13) (v := ?_) rfl rfl (by kernel_rfl) (by kernel_rfl) (by kernel_rfl) (fun _ _ _ h => h) ⟨Or.inl ⟨by rfl, ?_⟩, fun _ => rfl⟩ ?_
                rotate_left
                · intro _; go_simp; rfl
                refine wpAnyIn_take (i := 14) (v := ?_) rfl rfl (by kernel_rfl) (by kernel_rfl) (by kernel_rfl) (fun _ _ _ h => h) ⟨Or.inl ⟨by rfl, ?_⟩, fun _ => rfl⟩ ?_
                rotate_left
                · intro _; go_simp; rfl
                refine wpAnyIn_take (i := 15) (v := ?_) rfl rfl (by kernel_rfl) (by kernel_rfl) (by kernel_rfl) (fun _ _ _ h => h) ⟨Or.inl ⟨by rfl, ?_⟩, fun _ => rfl⟩ ?_
                rotate_left
                · intro _; go_simp; rfl
                refine wpAnyIn_take (i := 16) (v := ?_) rfl rfl (by kernel_rfl) (by kernel_rfl) (by kernel_rfl) (fun _ _ _ h => h) ⟨Or.inl ⟨by rfl, ?_⟩, fun _ => rfl⟩ ?_
                rotate_left
                · intro _; go_simp; rfl
                refine wpAnyIn_take (i := 18) (v := ?_) rfl rfl (by kernel_rfl) (by kernel_rfl) (by kernel_rfl) (fun _ _ _ h => h) ⟨Or.inl ⟨by rfl, ?_⟩, fun _ => rfl⟩ ?_
                rotate_left
                · intro _; go_simp; rfl
                refine wpAnyIn_take (i := 19) (v := ?_) rfl rfl (by kernel_rfl) (by kernel_rfl) (by kernel_rfl) (fun _ _ _ h => h) ⟨Or.inl ⟨by rfl, ?_⟩, fun _ => rfl⟩ ?_
                rotate_left
                · intro _; go_simp; rfl
                refine wpAnyIn_ready (rs := [17]) (by kernel_rfl) (by simp) ?_
                refine AllReadyIn.cons rfl (fun K hK => ?_) AllReadyIn.nil
                go_simp
                refine hK _ _ ?_
                clear hK K
                refine wpAnyIn_ready (rs := [20]) (by kernel_rfl) (by simp) ?_
                refine AllReadyIn.cons rfl (fun K hK => ?_) AllReadyIn.nil
                go_simp
                refine ⟨fun h => (by cases h), ?_⟩
                refine hR4.mono ?_
                clear hR4 hy4
                rintro e W5 (⟨rfl, j5, s5⟩ | ⟨rfl, jx5⟩)
                · have J5 := Lib.hid j5
                  have S5 := Lib.hid s5
                  clear j5 s5
                  refine hK _ _ ?_
                  clear hK K
                  refine wpAnyIn_take (i := 21) (v := ?_) rfl rfl (by kernel_rfl) (by kernel_rfl) (by kernel_rfl) (fun _ _ _ h => h) ⟨Or.inl ⟨by rfl, ?_⟩, fun _ => rfl⟩ ?_
                  rotate_left
                  · intro _; go_simp; rfl
                  refine wpAnyIn_take (i := 22) (v := ?_) rfl rfl (by kernel_rfl) (by kernel_rfl) (by kernel_rfl) (fun _ _ _ h => h) ⟨Or.inl ⟨by rfl, ?_⟩, fun _ => rfl⟩ ?_
                  rotate_left
                  · intro _; go_simp; rfl
                  refine wpAnyIn_done (by kernel_rfl) ?_ _
                  gi_wp2
                  go_roundw
                  case rel => exact ⟨kk + 1, en (dOf bs) bs.length j, dn ++ [⟨(j : Int), false⟩] ++ inn ++ [⟨(j : Int), true⟩], by omega, by simp, Lib.hid ⟨HNX.out, by have := HIJ.out; have := HEN.out; omega, (next20 HWJ.out).trans G3.out, by simp only [← List.append_assoc]; rw [HPR.out]; exact J5.out, T4.out.trans S5.out⟩⟩
                  case measure => simp only [intOf]; omega
                · have JX5 := Lib.hid jx5
                  clear jx5
                  refine hK _ _ ?_
                  clear hK K
                  refine wpAnyIn_take (i := 21) (v := ?_) rfl rfl (by kernel_rfl) (by kernel_rfl) (by kernel_rfl) (fun _ _ _ h => h) ⟨Or.inl ⟨by rfl, ?_⟩, fun _ => rfl⟩ ?_
                  rotate_left
                  · intro _; go_simp; rfl
                  refine wpAnyIn_take (i := 22) (v := ?_) rfl rfl (by kernel_rfl) (by kernel_rfl) (by kernel_rfl) (fun _ _ _ h => h) ⟨Or.inl ⟨by rfl, ?_⟩, fun _ => rfl⟩ ?_
                  rotate_left
                  · intro _; go_simp; rfl
                  refine wpAnyIn_done (by kernel_rfl) ?_ _
                  gi_wp2
                  go_ret
                  exact .inr ⟨rfl, dn ++ [⟨(j : Int), false⟩] ++ inn ++ [⟨(j : Int), true⟩], front20 G3.out HWJ.out, by simp only [← List.append_assoc]; rw [HPR.out]; exact JX5.out⟩
              · have JX4 := Lib.hid jx4
                have HQ := Lib.hid hq
                clear jx4 hq
                refine hK _ _ ?_
                clear hK K
                refine wpAnyIn_take (i := 13) (v := ?_) rfl rfl (by kernel_rfl) (by kernel_rfl) (by kernel_rfl) (fun _ _ _ h => h) ⟨Or.inl ⟨by rfl, ?_⟩, fun _ => rfl⟩ ?_
                rotate_left
                · intro _; go_simp; rfl
                refine wpAnyIn_take (i := 14) (v := ?_) rfl rfl (by kernel_rfl) (by kernel_rfl) (by kernel_rfl) (fun _ _ _ h => h) ⟨Or.inl ⟨by rfl, ?_⟩, fun _ => rfl⟩ ?_
                rotate_left
                · intro _; go_simp; rfl
                refine wpAnyIn_take (i := 15) (v := ?_) rfl rfl (by kernel_rfl) (by kernel_rfl) (by kernel_rfl) (fun _ _ _ h => h) ⟨Or.inl ⟨by rfl, ?_⟩, fun _ => rfl⟩ ?_
                rotate_left
                · intro _; go_simp; rfl
                refine wpAnyIn_take (i := 16) (v := undef) rfl rfl (by kernel_rfl) (by kernel_rfl) (by kernel_rfl) (fun _ _ _ h => h) ⟨Or.inr ⟨by rfl, rfl⟩, fun _ => rfl⟩ ?_
                refine wpAnyIn_take (i := 18) (v := undef) rfl rfl (by kernel_rfl) (by kernel_rfl) (by kernel_rfl) (fun _ _ _ h => h) ⟨Or.inr ⟨by rfl, rfl⟩, fun _ => rfl⟩ ?_
                refine wpAnyIn_take (i := 19) (v := undef) rfl rfl (by kernel_rfl) (by kernel_rfl) (by kernel_rfl) (fun _ _ _ h => h) ⟨Or.inr ⟨by rfl, rfl⟩, fun _ => rfl⟩ ?_
                refine wpAnyIn_take (i := 17) (v := undef) rfl rfl (by kernel_rfl) (by kernel_rfl) (by kernel_rfl) (fun _ _ _ h => h) ⟨Or.inr ⟨by rfl, rfl⟩, fun _ => rfl⟩ ?_
                refine wpAnyIn_ready (rs := [20]) (by kernel_rfl) (by simp) ?_
                refine AllReadyIn.cons rfl (fun K hK => ?_) AllReadyIn.nil
                go_simp
                first | refine ⟨fun _ _ => trivial, ?_⟩ | refine ⟨trivial, ?_⟩ | skip
                refine hK _ _ ?_
                clear hK K
                refine wpAnyIn_take (i := 21) (v := undef) rfl rfl (by kernel_rfl) (by kernel_rfl) (by kernel_rfl) (fun _ _ _ h => h) ⟨Or.inr ⟨by rfl, rfl⟩, fun _ => rfl⟩ ?_
                refine wpAnyIn_take (i := 22) (v := ?_) rfl rfl (by kernel_rfl) (by kernel_rfl) (by kernel_rfl) (fun _ _ _ h => h) ⟨Or.inl ⟨by rfl, ?_⟩, fun _ => rfl⟩ ?_
                rotate_left
                · intro _; go_simp; rfl
                refine wpAnyIn_done (by kernel_rfl) ?_ _
                gi_wp2
                go_ret
                exact .inr ⟨rfl, dn ++ [⟨(j : Int), false⟩] ++ q, front12 G3.out HWJ.out HQ.out, by simp only [← List.append_assoc]; rw [HPR.out]; exact JX4.out⟩
        · --no
          have JX2 := Lib.hid jx2
          clear jx2
          refine hK _ _ ?_
          clear hK K
          refine wpAnyIn_take (i := 5) (v := ?_) rfl rfl (by kernel_rfl) (by kernel_rfl) (by kernel_rfl) (fun _ _ _ h => h) ⟨Or.inl ⟨by rfl, ?_⟩, fun _ => rfl⟩ ?_
          rotate_left
          · intro _; go_simp; rfl
          refine wpAnyIn_take (i := 6) (v := ?_) rfl rfl (by kernel_rfl) (by kernel_rfl) (by kernel_rfl) (fun _ _ _ h => h) ⟨Or.inl ⟨by rfl, ?_⟩, fun _ => rfl⟩ ?_
          rotate_left
          · intro _; go_simp; rfl
          refine wpAnyIn_take (i := 8) (v := undef) rfl rfl (by kernel_rfl) (by kernel_rfl) (by kernel_rfl) (fun _ _ _ h => h) ⟨Or.inr ⟨by rfl, rfl⟩, fun _ => rfl⟩ ?_
          refine wpAnyIn_take (i := 10) (v := undef) rfl rfl (by kernel_rfl) (by kernel_rfl) (by kernel_rfl) (fun _ _ _ h => h) ⟨Or.inr ⟨by rfl, rfl⟩, fun _ => rfl⟩ ?_
          refine wpAnyIn_take (i := 9) (v := undef) rfl rfl (by kernel_rfl) (by kernel_rfl) (by kernel_rfl) (fun _ _ _ h => h) ⟨Or.inr ⟨by rfl, rfl⟩, fun _ => rfl⟩ ?_
          refine wpAnyIn_take (i := 7) (v := undef) rfl rfl (by kernel_rfl) (by kernel_rfl) (by kernel_rfl) (fun _ _ _ h => h) ⟨Or.inr ⟨by rfl, rfl⟩, fun _ => rfl⟩ ?_
          refine wpAnyIn_ready (rs := [11]) (by kernel_rfl) (by simp) ?_
          refine AllReadyIn.cons rfl (fun K hK => ?_) AllReadyIn.nil
          go_simp
          first | refine ⟨fun _ _ => trivial, ?_⟩ | refine ⟨trivial, ?_⟩ | skip
          refine hK _ _ ?_
          clear hK K
          refine wpAnyIn_ready (rs := [12]) (by kernel_rfl) (by simp) ?_
          refine AllReadyIn.cons rfl (fun K hK => ?_) AllReadyIn.nil
          go_simp
          first | refine ⟨fun _ _ => trivial, ?_⟩ | refine ⟨trivial, ?_⟩ | skip
          refine hK _ _ ?_
          clear hK K
          refine wpAnyIn_take (i := 13) (v := undef) rfl rfl (by kernel_rfl) (by kernel_rfl) (by kernel_rfl) (fun _ _ _ h => h) ⟨Or.inr ⟨by rfl, rfl⟩, fun _ => rfl⟩ ?_
          refine wpAnyIn_take (i := 14) (v := ?_) rfl rfl (by kernel_rfl) (by kernel_rfl) (by kernel_rfl) (fun _ _ _ h => h) ⟨Or.inl ⟨by rfl, ?_⟩, fun _ => rfl⟩ ?_
          rotate_left
          · intro _; go_simp; rfl
          refine wpAnyIn_take (i := 15) (v := ?_) rfl rfl (by kernel_rfl) (by kernel_rfl) (by kernel_rfl) (fun _ _ _ h => h) ⟨Or.inl ⟨by rfl, ?_⟩, fun _ => rfl⟩ ?_
          rotate_left
          · intro _; go_simp; rfl
          refine wpAnyIn_take (i := 16) (v := undef) rfl rfl (by kernel_rfl) (by kernel_rfl) (by kernel_rfl) (fun _ _ _ h => h) ⟨Or.inr ⟨by rfl, rfl⟩, fun _ => rfl⟩ ?_
          refine wpAnyIn_take (i := 18) (v := undef) rfl rfl (by kernel_rfl) (by kernel_rfl) (by kernel_rfl) (fun _ _ _ h => h) ⟨Or.inr ⟨by rfl, rfl⟩, fun _ => rfl⟩ ?_
          refine wpAnyIn_take (i := 19) (v := undef) rfl rfl (by kernel_rfl) (by kernel_rfl) (by kernel_rfl) (fun _ _ _ h => h) ⟨Or.inr ⟨by rfl, rfl⟩, fun _ => rfl⟩ ?_
          refine wpAnyIn_take (i := 17) (v := undef) rfl rfl (by kernel_rfl) (by kernel_rfl) (by kernel_rfl) (fun _ _ _ h => h) ⟨Or.inr ⟨by rfl, rfl⟩, fun _ => rfl⟩ ?_
          refine wpAnyIn_ready (rs := [20]) (by kernel_rfl) (by simp) ?_
          refine AllReadyIn.cons rfl (fun K hK => ?_) AllReadyIn.nil
          go_simp
          first | refine ⟨fun _ _ => trivial, ?_⟩ | refine ⟨trivial, ?_⟩ | skip
          refine hK _ _ ?_
          clear hK K
          refine wpAnyIn_take (i := 21) (v := undef) rfl rfl (by kernel_rfl) (by kernel_rfl) (by kernel_rfl) (fun _ _ _ h => h) ⟨Or.inr ⟨by rfl, rfl⟩, fun _ => rfl⟩ ?_
          refine wpAnyIn_take (i := 22) (v := ?_) rfl rfl (by kernel_rfl) (by kernel_rfl) (by kernel_rfl) (fun _ _ _ h => h) ⟨Or.inl ⟨by rfl, ?_⟩, fun _ => rfl⟩ ?_
          rotate_left
          · intro _; go_simp; rfl
          refine wpAnyIn_done (by kernel_rfl) ?_ _
          gi_wp2
          go_ret
          exact .inr ⟨rfl, dn ++ [⟨(j : Int), false⟩], front4 G3.out HWJ.out, by rw [← List.append_assoc, HPR.out]; exact JX2.out⟩
      · have h' : ¬ (kk : Int) < (L : Int) := by omega
        obtain ⟨g1, g2, g3, g4, g5⟩ := hst.out
        have hz := tops_out g1 (by rw [HL.out]; exact h) HNE.out.1
        rw [wlk_end _ _ _ _ hz, List.append_nil] at g3
        rw [g3] at g4
        have G4 := Lib.hid g4
        have G5 := Lib.hid (HSA.out.trans g5)
        clear g1 g2 g3 g4 g5 hst
        gi_wp2
        go_ret
        exact .inl ⟨rfl, G4.out, G5.out⟩
end

end Go.Proofs.Ytflncnfagoekcaa.Walk
