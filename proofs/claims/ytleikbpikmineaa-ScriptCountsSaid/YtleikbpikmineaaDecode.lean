/- The program's Decode: a range over slices.Chunk, each piece as an array, a box of it, appended to a list made with room. -/
import Derived.Test.YtleikbpikmineaaBoxOf
import Derived.Laws.OwnMore
namespace Go.Proofs.Ytleikbpikmineaa.Script
open Go.RowKit Go.Shelf Go.Sort Go.Proofs.Ytleikbpikmineaa.Record

attribute [local go_sem] Oper.semAt_some

/-- One box more, behind a call that has left what lay: what the append and the store leave; the row may lie below the variable's block. -/
theorem one_more_at {W w1 : World} {n0 B : Nat} {A' : Option Addr} {c' : Nat} {bs : List Bx} (b : Bx) (hv : Boxed W B 26 (.slice A' bs.length c')) (hrow : W.ownsRow n0 35 14 (.slice A' bs.length c') bs.length (bs.flatMap cellsOfB)) (k1 : Below W.heap.size W w1) (hlen : bs.length < 65536) (hn0 : n0 ≤ B) (hB : n0 ≤ W.heap.size) :
    ∃ A2 c2 w2, (Builtin.append_ #[26, 26] 26 #[.slice A' bs.length c', .slice (some ⟨w1.heap.size, 0, none⟩) 1 1]).run Try.prog (w1.alloc (.cells #[.int .i64 b.d, .int .i64 b.k, .int .i64 b.s, .int .i64 b.c, .int .i64 b.w, .int .i64 b.h, .int .i64 b.m0, .int .i64 b.m1, .int .i64 b.m2, .int .i64 b.m3, .int .i64 b.e0, .int .i64 b.e1, .int .i64 b.e2, .int .i64 b.e3] 35)) = .ok (.slice A2 (bs.length + 1) c2) w2 ∧
      Boxed w1 B 26 (.slice A' bs.length c') ∧ Boxed (w1.alloc (.cells #[.int .i64 b.d, .int .i64 b.k, .int .i64 b.s, .int .i64 b.c, .int .i64 b.w, .int .i64 b.h, .int .i64 b.m0, .int .i64 b.m1, .int .i64 b.m2, .int .i64 b.m3, .int .i64 b.e0, .int .i64 b.e1, .int .i64 b.e2, .int .i64 b.e3] 35)) B 26 (.slice A' bs.length c') ∧ Boxed w2 B 26 (.slice A' bs.length c') ∧ Boxed (w2.setCell ⟨B, 0, none⟩ (.slice A2 (bs.length + 1) c2)) B 26 (.slice A2 (bs.length + 1) c2) ∧
      (w2.setCell ⟨B, 0, none⟩ (.slice A2 (bs.length + 1) c2)).ownsRow n0 35 14 (.slice A2 (bs.length + 1) c2) (bs.length + 1) ((bs ++ [b]).flatMap cellsOfB) ∧ KeepsOthers W (w2.setCell ⟨B, 0, none⟩ (.slice A2 (bs.length + 1) c2)) ∧ Below n0 W (w2.setCell ⟨B, 0, none⟩ (.slice A2 (bs.length + 1) c2)) ∧
      ∀ (D : Nat) (t : TypeId) (u : Value), Boxed W D t u → t ≠ 35 → D ≠ B → Boxed (w2.setCell ⟨B, 0, none⟩ (.slice A2 (bs.length + 1) c2)) D t u := by
  have hv1 : Boxed w1 B 26 (.slice A' bs.length c') := (k1.block _ hv.lt).trans hv
  have hrow1 : MineB 35 w1 n0 A' bs.length c' bs := MineB.below (w := W) hrow k1
  have hK1 : KeepsOthers W w1 := ⟨k1.size, fun k o hk ho => (k1.block k (Array.getElem?_eq_some_iff.1 hk).1).trans hk⟩
  have hsz1 : n0 ≤ w1.heap.size := Nat.le_trans hB k1.size
  obtain ⟨A2, c2, w2, hrun, hap⟩ := run_append_boxes infoApi 26 (w1.alloc (.cells #[.int .i64 b.d, .int .i64 b.k, .int .i64 b.s, .int .i64 b.c, .int .i64 b.w, .int .i64 b.h, .int .i64 b.m0, .int .i64 b.m1, .int .i64 b.m2, .int .i64 b.m3, .int .i64 b.e0, .int .i64 b.e1, .int .i64 b.e2, .int .i64 b.e3] 35)) n0 A' bs.length c' bs (hrow1.alloc _) (some ⟨w1.heap.size, 0, none⟩) 1 1 [b] (oneB_src w1 b 35) (by omega) (by simp; omega)
  have hap1 : (w1.alloc (.cells #[.int .i64 b.d, .int .i64 b.k, .int .i64 b.s, .int .i64 b.c, .int .i64 b.w, .int .i64 b.h, .int .i64 b.m0, .int .i64 b.m1, .int .i64 b.m2, .int .i64 b.m3, .int .i64 b.e0, .int .i64 b.e1, .int .i64 b.e2, .int .i64 b.e3] 35)).grownBy w2 (Value.slice A' bs.length c').ownBlock := by
    rw [ownBlock_blk]; exact hap.2.1
  obtain ⟨hv2, hv3, hr3, hk3, hb3⟩ := hv1.appended (by decide) hrow1 hsz1 hn0 hap.1 hap1
  refine ⟨A2, c2, w2, hrun, hv1, hv1.alloc _, hv2, hv3, hr3, hK1.trans hk3, (k1.mono hB).trans hb3, fun D t u hD ht hne => ?_⟩
  have hD1 : Boxed w1 D t u := (k1.block _ hD.lt).trans hD
  exact ((hD1.alloc _).kept hap1 (hD1.not_row ht hrow1)).kept (grownBy_setCell' w2 B _) (fun e => hne (by injection e))

set_option maxRecDepth 100000 in
set_option maxHeartbeats 2000000 in
theorem decode_yes (A : Option Addr) (m c : Nat) (xs : List Int) (w : World) (hn : m * 14 = xs.length) (hlen : m ≤ 65536) (hcap : m * 14 ≤ c) (hx : Nums w w.heap.size A xs) :
    CallsIn Fence.wide 6 Try.prog 13 #[.slice A (m * 14) c] w fun e w' => (∃ A' c', e = .returned (.tuple #[.slice A' m c', .int .i64 0]) ∧ MineB 35 w' w.heap.size A' m c' (boxesOf xs m)) ∧ Below w.heap.size w w' := by
  have hro : Fence.wide.round = none := rfl
  have HX := Lib.hid hx
  have HN := Lib.hid hn
  clear hx hn
  obtain ⟨-, z, -, hinfo⟩ := infoApi
  obtain ⟨i0, hi0, hz0, hz1, hz2⟩ := info_parts hinfo
  obtain ⟨w0, hmk, hown, hg0⟩ := run_make_own (P := Try.prog) w w.heap.size 26 35 i0 z 14 Try.underlying26 hi0 hz0 hz1 .i64 .i64 m (by rw [hz2]; omega) (by unfold maxLen; omega) (Nat.le_refl _)
  have hsz0 : w.heap.size ≤ w0.heap.size := hg0.size
  have hB00 : Below w.heap.size w w0 := (Below.refl _ _).grown hg0 (Nat.le_refl _) (fun j e => by cases e)
  clear hi0 hz0 hz1 hz2 hinfo hg0
  refine callsIn_of_wp_marks Try.func13 rfl trivial ?_ hro
  simp only [Try.ntmps13, List.size_toArray, List.length_cons, List.length_nil, Nat.reduceAdd, Nat.reduceSub, Array.replicate_succ, Array.replicate_zero, List.push_toArray, List.append_toArray, List.nil_append, List.cons_append]
  gi_wp2_with (refine ⟨trivial, ?_⟩; gi_at_call 17; refine (chunk_in Fence.wide 5 trivial hro _ _ _ _).mono ?_; rintro e w' ⟨rfl, rfl⟩)
  have bO := Boxed.new w0 26 (.slice (some ⟨w.heap.size, 0, none⟩) 0 m)
  have b1 := (Boxed.new (w0.alloc (.cells #[.slice (some ⟨w.heap.size, 0, none⟩) 0 m] 26)) 24 (.slice A (m * 14) c)).alloc (.cells #[.int .i64 14] 3)
  have b2 := Boxed.new ((w0.alloc (.cells #[.slice (some ⟨w.heap.size, 0, none⟩) 0 m] 26)).alloc (.cells #[.slice A (m * 14) c] 24)) 3 (.int .i64 14)
  simp only [World.size_alloc] at b1 b2
  have hB0 : Below w.heap.size w (((w0.alloc (.cells #[.slice (some ⟨w.heap.size, 0, none⟩) 0 m] 26)).alloc (.cells #[.slice A (m * 14) c] 24)).alloc (.cells #[.int .i64 14] 3)) := ((hB00.alloc hsz0 _).alloc (by simp; omega) _).alloc (by simp; omega) _
  refine wpIn_rangeFunc_ownG hro (by omega) (gf := 19) (lb := #[.pointer (some ⟨w0.heap.size + 1, 0, none⟩), .pointer (some ⟨w0.heap.size + 1 + 1, 0, none⟩)]) rfl trivial (enters_of Try.func19 (by kernel_rfl) rfl)
    (chunk_stops Fence.wide 5 trivial hro (by omega) (w0.heap.size + 1) (w0.heap.size + 1 + 1) m c A ?some hlen hcap _ b1.cell b2.cell) (fun h k => h.trans k) (fun W l o o' h1 h2 h3 h4 => Two.put (N := w0.heap.size + 1 + 1 + 1) (by omega) (by omega) W l o o' (by simpa using h1) h2 h3 h4) (Below.refl _ _) (fun _ => rfl)
    (fun pre W => (∃ v, Boxed W w0.heap.size 26 v ∧ W.ownsRow w.heap.size 35 14 v (sofar xs pre).length ((sofar xs pre).flatMap cellsOfB) ∧ True) ∧ (Boxed W (w0.heap.size + 1) 24 (.slice A (m * 14) c) ∧ Boxed W (w0.heap.size + 1 + 1) 3 (.int .i64 14)) ∧ Below w.heap.size w W)
    (fun _ _ _ => False)
    (OwnFrom.and (Own.from (holdsRow_own w.heap.size w0.heap.size 26 35 14 (fun pre => (sofar xs pre).length) (fun pre => (sofar xs pre).flatMap cellsOfB) (fun _ _ => True)) _) (OwnFrom.and (OwnFrom.and (Own.from (boxed_own _ _ _) _) (Own.from (boxed_own _ _ _) _)) (ownFrom_below (Nat.le_refl _) (by simp; omega))))
    (fun _ _ _ _ _ hs _ _ => hs)
    ⟨⟨_, (bO.alloc _).alloc _, ((hown.alloc _).alloc _).alloc _, trivial⟩, ⟨b1, b2⟩, hB0⟩
    (fun x => { tmps := #[.slice A (m * 14) c, undef, .slice none 0 0, .int .i64 0, .pointer (some ⟨w0.heap.size, 0, none⟩), .slice (A.map (·.add (x.1 * 14))) 14 14, .slice A (m * 14) c, .int .i64 ((m : Int) * 14), .int .i64 0, .bool false, .slice A (m * 14) c, .int .i64 ((m : Int) * 14), .int .i64 m, .bool (decide ((65536 : Int) < m)), .slice A (m * 14) c, .int .i64 ((m : Int) * 14), .int .i64 m, .slice (some ⟨w.heap.size, 0, none⟩) 0 m, .slice A (m * 14) c, .func (.func 19) #[] #[.pointer (some ⟨w0.heap.size + 1, 0, none⟩), .pointer (some ⟨w0.heap.size + 1 + 1, 0, none⟩)], .slice (A.map (·.add (x.1 * 14))) 14 14, undef, undef, undef, undef, undef, undef, undef, undef], defers := [] }) ?assign ?body ?done ?stop
  case some =>
    intro h0
    obtain ⟨ad, e, _⟩ := HX.out 0 (by rw [← HN.out]; omega)
    exact ⟨ad, e⟩
  case assign =>
    intro l x W K hK
    gi_wp2
    exact hK
  case body =>
    rintro l pre x W ⟨⟨v, hv, hrow, -⟩, ⟨hS1, hS2⟩, hB⟩ hlt
    obtain ⟨A', c', rfl⟩ := mineB_shape hrow
    clear b1 b2 bO hB0 hown hmk
    have hi : x.1 * 14 + 14 ≤ xs.length := by have := x.2; rw [← HN.out]; omega
    have hpl : (sofar xs pre).length < m := by simpa [sofar] using hlt
    have HS := Lib.hid (sofar_next xs pre x)
    obtain ⟨ad, rfl, hAb, -⟩ := HX.out (x.1 * 14) (by omega)
    have HF : Hid (∀ e, e < 14 → W.cell? (ad.add (x.1 * 14 + e)) = some (.int .i64 (xs.getD (x.1 * 14 + e) 0))) := Lib.hid fun e he => nums_at (HX.out.below hB) (x.1 * 14 + e) (by omega)
    obtain ⟨p, hp⟩ : ∃ p, ad.add (x.1 * 14) = p := ⟨_, rfl⟩
    have HP : Hid (∀ e, e < 14 → W.cell? (p.add e) = some (.int .i64 (xs.getD (x.1 * 14 + e) 0))) := Lib.hid fun e he => by subst hp; rw [add_add]; exact HF.out e he
    clear HF
    obtain ⟨b, hb⟩ : ∃ b, boxAt xs (x.1 * 14) = b := ⟨_, rfl⟩
    rw [hb] at HS
    obtain ⟨bs, hbs⟩ : ∃ bs, sofar xs pre = bs := ⟨_, rfl⟩
    rw [hbs] at hrow hv HS hpl
    have hpc := HP.out
    have hc := hv.cell
    gi_wp2_with fail
    simp only [Option.map_some, hp]
    clear hp HP hi
    obtain ⟨g, o, t⟩ := p
    have cs : ∀ e, 0 < e → e < 14 → W.cell? ⟨g, o + e, none⟩ = some (.int .i64 (xs.getD (x.1 * 14 + e) 0)) := fun e h0 h1 => by
      have := hpc e h1
      unfold Addr.add at this
      rwa [if_neg (by omega)] at this
    have c0 : W.cell? ⟨g, o, t⟩ = some (.int .i64 (xs.getD (x.1 * 14) 0)) := by simpa [Addr.add] using hpc 0 (by omega)
    clear hpc
    have c1 := cs 1 (by omega) (by omega)
    have c2 := cs 2 (by omega) (by omega)
    have c3 := cs 3 (by omega) (by omega)
    have c4 := cs 4 (by omega) (by omega)
    have c5 := cs 5 (by omega) (by omega)
    have c6 := cs 6 (by omega) (by omega)
    have c7 := cs 7 (by omega) (by omega)
    have c8 := cs 8 (by omega) (by omega)
    have c9 := cs 9 (by omega) (by omega)
    have c10 := cs 10 (by omega) (by omega)
    have c11 := cs 11 (by omega) (by omega)
    have c12 := cs 12 (by omega) (by omega)
    have c13 := cs 13 (by omega) (by omega)
    clear cs
    have HE : Hid (b = ⟨xs.getD (x.1 * 14) 0, xs.getD (x.1 * 14 + 1) 0, xs.getD (x.1 * 14 + 2) 0, xs.getD (x.1 * 14 + 3) 0, xs.getD (x.1 * 14 + 4) 0, xs.getD (x.1 * 14 + 5) 0, xs.getD (x.1 * 14 + 6) 0, xs.getD (x.1 * 14 + 7) 0, xs.getD (x.1 * 14 + 8) 0, xs.getD (x.1 * 14 + 9) 0, xs.getD (x.1 * 14 + 10) 0, xs.getD (x.1 * 14 + 11) 0, xs.getD (x.1 * 14 + 12) 0, xs.getD (x.1 * 14 + 13) 0⟩) := Lib.hid hb.symm
    clear hb
    generalize xs.getD (x.1 * 14) 0 = y0 at c0 HE
    generalize xs.getD (x.1 * 14 + 1) 0 = y1 at c1 HE
    generalize xs.getD (x.1 * 14 + 2) 0 = y2 at c2 HE
    generalize xs.getD (x.1 * 14 + 3) 0 = y3 at c3 HE
    generalize xs.getD (x.1 * 14 + 4) 0 = y4 at c4 HE
    generalize xs.getD (x.1 * 14 + 5) 0 = y5 at c5 HE
    generalize xs.getD (x.1 * 14 + 6) 0 = y6 at c6 HE
    generalize xs.getD (x.1 * 14 + 7) 0 = y7 at c7 HE
    generalize xs.getD (x.1 * 14 + 8) 0 = y8 at c8 HE
    generalize xs.getD (x.1 * 14 + 9) 0 = y9 at c9 HE
    generalize xs.getD (x.1 * 14 + 10) 0 = y10 at c10 HE
    generalize xs.getD (x.1 * 14 + 11) 0 = y11 at c11 HE
    generalize xs.getD (x.1 * 14 + 12) 0 = y12 at c12 HE
    generalize xs.getD (x.1 * 14 + 13) 0 = y13 at c13 HE
    have HC : Hid (∀ l W1, CallsIn (Fence.wide.inRound l) 3 Try.prog 18 #[.agg #[.int .i64 y0, .int .i64 y1, .int .i64 y2, .int .i64 y3, .int .i64 y4, .int .i64 y5, .int .i64 y6, .int .i64 y7, .int .i64 y8, .int .i64 y9, .int .i64 y10, .int .i64 y11, .int .i64 y12, .int .i64 y13]] W1 fun e w' => e = .returned b.v ∧ Below W1.heap.size W1 w') :=
      Lib.hid fun l W1 => CallsIn.inRound l (callsIn_wide.2 (by have h := box_any b W1; rw [HE.out] at h ⊢; exact h))
    have HA : Hid (∀ w' a c', Sem.run Try.prog (Instr.arrayAt 50 (.slice a 14 c')) w' = .ok (.pointer a) w') := Lib.hid fun w' a c' => run_arrayAt Try.prog w' 50 3 14 14 c' a Try.underlying50 (Nat.le_refl _)
    clear HE
    have hk0 : KeepsOthers W W.drew := ⟨Nat.le_refl _, fun _ _ h _ => h⟩
    have hbd : Below w.heap.size W W.drew := (Below.refl _ W).drew
    have hsB : w.heap.size ≤ w0.heap.size := hsz0
    have ha := HA.out
    refine wpIn_region_any (by kernel_rfl) ?_
    try (change wpAnyIn _ _ _ _ _ _ _ _ _ (World.drew _))
    refine wpAnyIn_ready (rs := [0, 1]) (by kernel_rfl) (by simp) ?_
    refine AllReadyIn.cons rfl (fun K hK => ?_) ?_
    · go_simp
      refine hK _ _ ?_
      clear hK K
      refine wpAnyIn_ready (rs := [1]) (by kernel_rfl) (by simp) ?_
      refine AllReadyIn.cons rfl (fun K hK => ?_) AllReadyIn.nil
      go_simp
      refine hK _ _ ?_
      clear hK K
      refine wpAnyIn_ready (rs := [2]) (by kernel_rfl) (by simp) ?_
      refine AllReadyIn.cons rfl (fun K hK => ?_) AllReadyIn.nil
      go_simp
      refine hK _ _ ?_
      clear hK K
      refine wpAnyIn_ready (rs := [3]) (by kernel_rfl) (by simp) ?_
      refine AllReadyIn.cons rfl (fun K hK => ?_) AllReadyIn.nil
      go_simp
      refine hK _ _ ?_
      clear hK K
      refine wpAnyIn_ready (rs := [4]) (by kernel_rfl) (by simp) ?_
      refine AllReadyIn.cons rfl (fun K hK => ?_) AllReadyIn.nil
      go_simp
      refine ⟨trivial, ?_⟩
      refine (HC.out _ W.drew).mono ?_
      rintro e w1 ⟨rfl, k1⟩
      obtain ⟨A2, c2, w2, hrun, hv1, hva, hv2, hv3, hr3, hk3, hb3, ho3⟩ := one_more_at (W := W.drew) b hv hrow k1 (by omega) hsB hB.size
      have hc1 := hv1.cell
      have hca := hva.cell
      have hc2 := hv2.cell
      have hf2 := hv2.frozen
      refine hK _ _ ?_
      clear hK K
      refine wpAnyIn_ready (rs := [5]) (by kernel_rfl) (by simp) ?_
      refine AllReadyIn.cons rfl (fun K hK => ?_) AllReadyIn.nil
      go_simp
      refine hK _ _ ?_
      clear hK K
      refine wpAnyIn_ready (rs := [6]) (by kernel_rfl) (by simp) ?_
      refine AllReadyIn.cons rfl (fun K hK => ?_) AllReadyIn.nil
      refine Eq.mpr (if_pos (by rfl)) ?_
      refine wpIn_append_run _ (.tmp 21) (.tmp 26) 26 26 rfl rfl rfl rfl hrun ?_
      go_simp
      refine hK _ _ ?_
      clear hK K
      refine wpAnyIn_ready (rs := [7]) (by kernel_rfl) (by simp) ?_
      refine AllReadyIn.cons rfl (fun K hK => ?_) AllReadyIn.nil
      go_simp
      refine hK _ _ ?_
      clear hK K
      refine wpAnyIn_done (by kernel_rfl) ?_ _
      exact ⟨(hk0.trans hk3).from _, Two.of_boxed (hk0.trans hk3).size hS1 hS2 (ho3 _ _ _ hS1 (by decide) (by omega)) (ho3 _ _ _ hS2 (by decide) (by omega)), ⟨_, hv3, by rw [HS.out]; simpa using hr3, trivial⟩, ⟨ho3 _ _ _ hS1 (by decide) (by omega), ho3 _ _ _ hS2 (by decide) (by omega)⟩, hB.trans (hbd.trans hb3)⟩
    refine AllReadyIn.cons rfl (fun K hK => ?_) AllReadyIn.nil
    go_simp
    refine hK _ _ ?_
    clear hK K
    refine wpAnyIn_ready (rs := [0, 2]) (by kernel_rfl) (by simp) ?_
    refine AllReadyIn.cons rfl (fun K hK => ?_) ?_
    · go_simp
      refine hK _ _ ?_
      clear hK K
      refine wpAnyIn_ready (rs := [2]) (by kernel_rfl) (by simp) ?_
      refine AllReadyIn.cons rfl (fun K hK => ?_) AllReadyIn.nil
      go_simp
      refine hK _ _ ?_
      clear hK K
      refine wpAnyIn_ready (rs := [3]) (by kernel_rfl) (by simp) ?_
      refine AllReadyIn.cons rfl (fun K hK => ?_) AllReadyIn.nil
      go_simp
      refine hK _ _ ?_
      clear hK K
      refine wpAnyIn_ready (rs := [4]) (by kernel_rfl) (by simp) ?_
      refine AllReadyIn.cons rfl (fun K hK => ?_) AllReadyIn.nil
      go_simp
      refine ⟨trivial, ?_⟩
      refine (HC.out _ W.drew).mono ?_
      rintro e w1 ⟨rfl, k1⟩
      obtain ⟨A2, c2, w2, hrun, hv1, hva, hv2, hv3, hr3, hk3, hb3, ho3⟩ := one_more_at (W := W.drew) b hv hrow k1 (by omega) hsB hB.size
      have hc1 := hv1.cell
      have hca := hva.cell
      have hc2 := hv2.cell
      have hf2 := hv2.frozen
      refine hK _ _ ?_
      clear hK K
      refine wpAnyIn_ready (rs := [5]) (by kernel_rfl) (by simp) ?_
      refine AllReadyIn.cons rfl (fun K hK => ?_) AllReadyIn.nil
      go_simp
      refine hK _ _ ?_
      clear hK K
      refine wpAnyIn_ready (rs := [6]) (by kernel_rfl) (by simp) ?_
      refine AllReadyIn.cons rfl (fun K hK => ?_) AllReadyIn.nil
      refine Eq.mpr (if_pos (by rfl)) ?_
      refine wpIn_append_run _ (.tmp 21) (.tmp 26) 26 26 rfl rfl rfl rfl hrun ?_
      go_simp
      refine hK _ _ ?_
      clear hK K
      refine wpAnyIn_ready (rs := [7]) (by kernel_rfl) (by simp) ?_
      refine AllReadyIn.cons rfl (fun K hK => ?_) AllReadyIn.nil
      go_simp
      refine hK _ _ ?_
      clear hK K
      refine wpAnyIn_done (by kernel_rfl) ?_ _
      exact ⟨(hk0.trans hk3).from _, Two.of_boxed (hk0.trans hk3).size hS1 hS2 (ho3 _ _ _ hS1 (by decide) (by omega)) (ho3 _ _ _ hS2 (by decide) (by omega)), ⟨_, hv3, by rw [HS.out]; simpa using hr3, trivial⟩, ⟨ho3 _ _ _ hS1 (by decide) (by omega), ho3 _ _ _ hS2 (by decide) (by omega)⟩, hB.trans (hbd.trans hb3)⟩
    refine AllReadyIn.cons rfl (fun K hK => ?_) AllReadyIn.nil
    go_simp
    refine hK _ _ ?_
    clear hK K
    refine wpAnyIn_ready (rs := [0, 3]) (by kernel_rfl) (by simp) ?_
    refine AllReadyIn.cons rfl (fun K hK => ?_) ?_
    · go_simp
      refine hK _ _ ?_
      clear hK K
      refine wpAnyIn_ready (rs := [3]) (by kernel_rfl) (by simp) ?_
      refine AllReadyIn.cons rfl (fun K hK => ?_) AllReadyIn.nil
      go_simp
      refine hK _ _ ?_
      clear hK K
      refine wpAnyIn_ready (rs := [4]) (by kernel_rfl) (by simp) ?_
      refine AllReadyIn.cons rfl (fun K hK => ?_) AllReadyIn.nil
      go_simp
      refine ⟨trivial, ?_⟩
      refine (HC.out _ W.drew).mono ?_
      rintro e w1 ⟨rfl, k1⟩
      obtain ⟨A2, c2, w2, hrun, hv1, hva, hv2, hv3, hr3, hk3, hb3, ho3⟩ := one_more_at (W := W.drew) b hv hrow k1 (by omega) hsB hB.size
      have hc1 := hv1.cell
      have hca := hva.cell
      have hc2 := hv2.cell
      have hf2 := hv2.frozen
      refine hK _ _ ?_
      clear hK K
      refine wpAnyIn_ready (rs := [5]) (by kernel_rfl) (by simp) ?_
      refine AllReadyIn.cons rfl (fun K hK => ?_) AllReadyIn.nil
      go_simp
      refine hK _ _ ?_
      clear hK K
      refine wpAnyIn_ready (rs := [6]) (by kernel_rfl) (by simp) ?_
      refine AllReadyIn.cons rfl (fun K hK => ?_) AllReadyIn.nil
      refine Eq.mpr (if_pos (by rfl)) ?_
      refine wpIn_append_run _ (.tmp 21) (.tmp 26) 26 26 rfl rfl rfl rfl hrun ?_
      go_simp
      refine hK _ _ ?_
      clear hK K
      refine wpAnyIn_ready (rs := [7]) (by kernel_rfl) (by simp) ?_
      refine AllReadyIn.cons rfl (fun K hK => ?_) AllReadyIn.nil
      go_simp
      refine hK _ _ ?_
      clear hK K
      refine wpAnyIn_done (by kernel_rfl) ?_ _
      exact ⟨(hk0.trans hk3).from _, Two.of_boxed (hk0.trans hk3).size hS1 hS2 (ho3 _ _ _ hS1 (by decide) (by omega)) (ho3 _ _ _ hS2 (by decide) (by omega)), ⟨_, hv3, by rw [HS.out]; simpa using hr3, trivial⟩, ⟨ho3 _ _ _ hS1 (by decide) (by omega), ho3 _ _ _ hS2 (by decide) (by omega)⟩, hB.trans (hbd.trans hb3)⟩
    refine AllReadyIn.cons rfl (fun K hK => ?_) AllReadyIn.nil
    go_simp
    refine hK _ _ ?_
    clear hK K
    refine wpAnyIn_ready (rs := [0, 4]) (by kernel_rfl) (by simp) ?_
    refine AllReadyIn.cons rfl (fun K hK => ?_) ?_
    · go_simp
      refine hK _ _ ?_
      clear hK K
      refine wpAnyIn_ready (rs := [4]) (by kernel_rfl) (by simp) ?_
      refine AllReadyIn.cons rfl (fun K hK => ?_) AllReadyIn.nil
      go_simp
      refine ⟨trivial, ?_⟩
      refine (HC.out _ W.drew).mono ?_
      rintro e w1 ⟨rfl, k1⟩
      obtain ⟨A2, c2, w2, hrun, hv1, hva, hv2, hv3, hr3, hk3, hb3, ho3⟩ := one_more_at (W := W.drew) b hv hrow k1 (by omega) hsB hB.size
      have hc1 := hv1.cell
      have hca := hva.cell
      have hc2 := hv2.cell
      have hf2 := hv2.frozen
      refine hK _ _ ?_
      clear hK K
      refine wpAnyIn_ready (rs := [5]) (by kernel_rfl) (by simp) ?_
      refine AllReadyIn.cons rfl (fun K hK => ?_) AllReadyIn.nil
      go_simp
      refine hK _ _ ?_
      clear hK K
      refine wpAnyIn_ready (rs := [6]) (by kernel_rfl) (by simp) ?_
      refine AllReadyIn.cons rfl (fun K hK => ?_) AllReadyIn.nil
      refine Eq.mpr (if_pos (by rfl)) ?_
      refine wpIn_append_run _ (.tmp 21) (.tmp 26) 26 26 rfl rfl rfl rfl hrun ?_
      go_simp
      refine hK _ _ ?_
      clear hK K
      refine wpAnyIn_ready (rs := [7]) (by kernel_rfl) (by simp) ?_
      refine AllReadyIn.cons rfl (fun K hK => ?_) AllReadyIn.nil
      go_simp
      refine hK _ _ ?_
      clear hK K
      refine wpAnyIn_done (by kernel_rfl) ?_ _
      exact ⟨(hk0.trans hk3).from _, Two.of_boxed (hk0.trans hk3).size hS1 hS2 (ho3 _ _ _ hS1 (by decide) (by omega)) (ho3 _ _ _ hS2 (by decide) (by omega)), ⟨_, hv3, by rw [HS.out]; simpa using hr3, trivial⟩, ⟨ho3 _ _ _ hS1 (by decide) (by omega), ho3 _ _ _ hS2 (by decide) (by omega)⟩, hB.trans (hbd.trans hb3)⟩
    refine AllReadyIn.cons rfl (fun K hK => ?_) AllReadyIn.nil
    go_simp
    refine ⟨trivial, ?_⟩
    refine (HC.out _ W.drew).mono ?_
    rintro e w1 ⟨rfl, k1⟩
    obtain ⟨A2, c2, w2, hrun, hv1, hva, hv2, hv3, hr3, hk3, hb3, ho3⟩ := one_more_at (W := W.drew) b hv hrow k1 (by omega) hsB hB.size
    have hc1 := hv1.cell
    have hca := hva.cell
    have hc2 := hv2.cell
    have hf2 := hv2.frozen
    refine hK _ _ ?_
    clear hK K
    refine wpAnyIn_ready (rs := [0, 5]) (by kernel_rfl) (by simp) ?_
    refine AllReadyIn.cons rfl (fun K hK => ?_) ?_
    · go_simp
      refine hK _ _ ?_
      clear hK K
      refine wpAnyIn_ready (rs := [5]) (by kernel_rfl) (by simp) ?_
      refine AllReadyIn.cons rfl (fun K hK => ?_) AllReadyIn.nil
      go_simp
      refine hK _ _ ?_
      clear hK K
      refine wpAnyIn_ready (rs := [6]) (by kernel_rfl) (by simp) ?_
      refine AllReadyIn.cons rfl (fun K hK => ?_) AllReadyIn.nil
      refine Eq.mpr (if_pos (by rfl)) ?_
      refine wpIn_append_run _ (.tmp 21) (.tmp 26) 26 26 rfl rfl rfl rfl hrun ?_
      go_simp
      refine hK _ _ ?_
      clear hK K
      refine wpAnyIn_ready (rs := [7]) (by kernel_rfl) (by simp) ?_
      refine AllReadyIn.cons rfl (fun K hK => ?_) AllReadyIn.nil
      go_simp
      refine hK _ _ ?_
      clear hK K
      refine wpAnyIn_done (by kernel_rfl) ?_ _
      exact ⟨(hk0.trans hk3).from _, Two.of_boxed (hk0.trans hk3).size hS1 hS2 (ho3 _ _ _ hS1 (by decide) (by omega)) (ho3 _ _ _ hS2 (by decide) (by omega)), ⟨_, hv3, by rw [HS.out]; simpa using hr3, trivial⟩, ⟨ho3 _ _ _ hS1 (by decide) (by omega), ho3 _ _ _ hS2 (by decide) (by omega)⟩, hB.trans (hbd.trans hb3)⟩
    refine AllReadyIn.cons rfl (fun K hK => ?_) AllReadyIn.nil
    go_simp
    refine hK _ _ ?_
    clear hK K
    refine wpAnyIn_ready (rs := [0]) (by kernel_rfl) (by simp) ?_
    refine AllReadyIn.cons rfl (fun K hK => ?_) AllReadyIn.nil
    go_simp
    refine hK _ _ ?_
    clear hK K
    refine wpAnyIn_ready (rs := [6]) (by kernel_rfl) (by simp) ?_
    refine AllReadyIn.cons rfl (fun K hK => ?_) AllReadyIn.nil
    refine Eq.mpr (if_pos (by rfl)) ?_
    refine wpIn_append_run _ (.tmp 21) (.tmp 26) 26 26 rfl rfl rfl rfl hrun ?_
    go_simp
    refine hK _ _ ?_
    clear hK K
    refine wpAnyIn_ready (rs := [7]) (by kernel_rfl) (by simp) ?_
    refine AllReadyIn.cons rfl (fun K hK => ?_) AllReadyIn.nil
    go_simp
    refine hK _ _ ?_
    clear hK K
    refine wpAnyIn_done (by kernel_rfl) ?_ _
    exact ⟨(hk0.trans hk3).from _, Two.of_boxed (hk0.trans hk3).size hS1 hS2 (ho3 _ _ _ hS1 (by decide) (by omega)) (ho3 _ _ _ hS2 (by decide) (by omega)), ⟨_, hv3, by rw [HS.out]; simpa using hr3, trivial⟩, ⟨ho3 _ _ _ hS1 (by decide) (by omega), ho3 _ _ _ hS2 (by decide) (by omega)⟩, hB.trans (hbd.trans hb3)⟩
  case done =>
    rintro D ys W hD hys ⟨⟨v, hv, hrow, -⟩, ⟨hS1, hS2⟩, hB⟩ hK
    have hc := hv.cell
    gi_wp2
    refine ⟨by simp, .inl ⟨_, _, rfl, run_takeDeferred hK, ?_⟩⟩
    rw [sofar_all xs hys] at hrow
    have hm : (boxesOf xs m).length = m := by simp [boxesOf]
    rw [hm] at hrow
    obtain ⟨A', c', rfl⟩ := mineB_shape hrow
    exact ⟨_, by first | exact results_tmp rfl _ _ _ | (simp [results, Try.results13, go_sem]), ⟨A', c', rfl, ownsRow_putObj hrow _ hK rfl⟩, hB.trans (belowK_b (w := w) (Nat.le_refl _) W D _ _ (by simp at hD; omega) hK rfl rfl)⟩
  case stop =>
    rintro D c pre W _ _ h _
    exact h.elim

theorem decode_ok : DecodeOk := fun A m c xs w hn hlen hcap hx => callsIn_wide.1 (decode_yes A m c xs w hn hlen hcap hx)

set_option maxRecDepth 100000 in
set_option maxHeartbeats 2000000 in
theorem decode_short : DecodeShort := by
  intro A n c w hn h14
  have h1 : ¬ (n : Int) % 14 = 0 := by omega
  have h2 : ((n : Int) % 14 == 0) = false := by simp [h1]
  refine (callsIn_wide (n := 6)).1 ?_
  refine callsIn_of_wp_marks Try.func13 rfl trivial ?_ rfl
  simp only [Try.ntmps13, List.size_toArray, List.length_cons, List.length_nil, Nat.reduceAdd, Nat.reduceSub, Array.replicate_succ, Array.replicate_zero, List.push_toArray, List.append_toArray, List.nil_append, List.cons_append]
  gi_wp2_with fail
  exact ⟨.tuple #[.slice none 0 0, .int .i64 2], by simp [results, Try.results13, go_sem], ⟨_, _, rfl⟩, Below.refl _ _⟩

set_option maxRecDepth 100000 in
set_option maxHeartbeats 2000000 in
theorem decode_many : DecodeMany := by
  intro A m c w hn h14
  refine (callsIn_wide (n := 6)).1 ?_
  refine callsIn_of_wp_marks Try.func13 rfl trivial ?_ rfl
  simp only [Try.ntmps13, List.size_toArray, List.length_cons, List.length_nil, Nat.reduceAdd, Nat.reduceSub, Array.replicate_succ, Array.replicate_zero, List.push_toArray, List.append_toArray, List.nil_append, List.cons_append]
  gi_wp2_with fail
  exact ⟨.tuple #[.slice none 0 0, .int .i64 3], by simp [results, Try.results13, go_sem], ⟨_, _, rfl⟩, Below.refl _ _⟩

end Go.Proofs.Ytleikbpikmineaa.Script
