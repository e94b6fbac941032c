/- The walk of TreeGrafts, over the contracts of the program's trees. -/
import Derived.Test.YtmmmlegjhblfaaaTreeFronts
import Derived.Test.YtmmmlegjhblfaaaTreeSeen
import Derived.Test.YtmmmlegjhblfaaaTreeGraft
namespace Go.Proofs.Ytmmmlegjhblfaaa.Tree
open Go.RowKit Go.Sort Go.Proofs.Ytmmmlegjhblfaaa.Record Go.Proofs.Ytmmmlegjhblfaaa.Script Go.Proofs.Ytmmmlegjhblfaaa.More

/-- Writing a cell of a list of boxes of one's own. -/
theorem row_set {w : World} {B g n c j : Nat} {T : TypeId} {xs : List Value} (h : w.ownsRow B T 14 (.slice (some ⟨g, 0, none⟩) n c) n xs) (v : Value) : (w.setCell ⟨g, j, none⟩ v).ownsRow B T 14 (.slice (some ⟨g, 0, none⟩) n c) n (xs.set j v) := by
  obtain ⟨hl, hv⟩ := h
  rcases hv with ⟨e, _⟩ | ⟨g1, cap, cur, e, hg, hb, hnc, hcm, hsz, htk⟩
  · injection e with e _ _; cases e
  · injection e with e1 e2 e3
    injection e1 with e1
    injection e1 with e1 _ _
    subst e1 e3
    refine ⟨by simpa using hl, .inr ⟨g, c, cur.set! j v, rfl, hg, ?_, hnc, hcm, by simpa using hsz, ?_⟩⟩
    · simp [World.setCell, Array.getElem?_modify, hb]
    · rw [Array.set!_eq_setIfInBounds, Array.toList_setIfInBounds, List.take_set, htk]

theorem row_thawed {w : World} {B g n c : Nat} {T : TypeId} {xs : List Value} (h : w.ownsRow B T 14 (.slice (some ⟨g, 0, none⟩) n c) n xs) (o : Nat) : w.frozen? ⟨g, o, none⟩ = false := by
  obtain ⟨hl, hv⟩ := h
  rcases hv with ⟨e, _⟩ | ⟨g1, cap, cur, e, hg, hb, hnc, hcm, hsz, htk⟩
  · injection e with e _ _; cases e
  · injection e with e1 e2 e3
    injection e1 with e1
    injection e1 with e1 _ _
    subst e1
    exact thawed_in hb o

theorem flat_set_d (v : Int) : ∀ (bs : List Bx) (k : Nat), k < bs.length → (bs.flatMap cellsOfB).set (k * 14) (.int .i64 v) = (bs.set k { bs.getD k noB with d := v }).flatMap cellsOfB
  | [], k, h => by simp at h
  | b :: bs, 0, _ => rfl
  | b :: bs, k + 1, h => by
    rw [List.flatMap_cons, List.set_cons_succ, List.flatMap_cons, show (k + 1) * 14 = (cellsOfB b).length + k * 14 by rw [cellsOfB_len]; omega, List.set_append_right _ _ (by omega), Nat.add_sub_cancel_left, flat_set_d v bs k (by simpa using h)]
    rfl

theorem flat_set_all (y : Bx) : ∀ bs : List Bx, 0 < bs.length → ((((((((((((((bs.flatMap cellsOfB).set 0 (.int .i64 y.d)).set 1 (.int .i64 y.k)).set 2 (.int .i64 y.s)).set 3 (.int .i64 y.c)).set 4 (.int .i64 y.w)).set 5 (.int .i64 y.h)).set 6 (.int .i64 y.m0)).set 7 (.int .i64 y.m1)).set 8 (.int .i64 y.m2)).set 9 (.int .i64 y.m3)).set 10 (.int .i64 y.e0)).set 11 (.int .i64 y.e1)).set 12 (.int .i64 y.e2)).set 13 (.int .i64 y.e3) = (bs.set 0 y).flatMap cellsOfB
  | [], h => by simp at h
  | b :: bs, _ => rfl

theorem mineB_put {w : World} {B g n c : Nat} {T : TypeId} {bs : List Bx} (h : MineB T w B (some ⟨g, 0, none⟩) n c bs) (h0 : 0 < n) (y : Bx) :
    MineB T ((((((((((((((w.setCell ⟨g, 0, none⟩ (.int .i64 y.d)).setCell ⟨g, 1, none⟩ (.int .i64 y.k)).setCell ⟨g, 2, none⟩ (.int .i64 y.s)).setCell ⟨g, 3, none⟩ (.int .i64 y.c)).setCell ⟨g, 4, none⟩ (.int .i64 y.w)).setCell ⟨g, 5, none⟩ (.int .i64 y.h)).setCell ⟨g, 6, none⟩ (.int .i64 y.m0)).setCell ⟨g, 7, none⟩ (.int .i64 y.m1)).setCell ⟨g, 8, none⟩ (.int .i64 y.m2)).setCell ⟨g, 9, none⟩ (.int .i64 y.m3)).setCell ⟨g, 10, none⟩ (.int .i64 y.e0)).setCell ⟨g, 11, none⟩ (.int .i64 y.e1)).setCell ⟨g, 12, none⟩ (.int .i64 y.e2)).setCell ⟨g, 13, none⟩ (.int .i64 y.e3)) B (some ⟨g, 0, none⟩) n c (bs.set 0 y) := by
  have hl := h.len
  unfold MineB
  rw [← flat_set_all y bs (by omega)]
  unfold MineB at h
  iterate 14 refine row_set ?_ _
  exact h

theorem mineB_setd {w : World} {B g n c k : Nat} {T : TypeId} {bs : List Bx} (h : MineB T w B (some ⟨g, 0, none⟩) n c bs) (hk : k < n) (v : Int) :
    MineB T (w.setCell ⟨g, k * 14, none⟩ (.int .i64 v)) B (some ⟨g, 0, none⟩) n c (bs.set k { bs.getD k noB with d := v }) := by
  have hl := h.len
  have hf := flat_len bs
  unfold MineB
  rw [← flat_set_d v bs k (by omega)]
  exact row_set h _

theorem mineB_block {T : TypeId} {w : World} {B n c : Nat} {A : Option Addr} {bs : List Bx} (h : MineB T w B A n c bs) (h0 : 0 < n) : ∃ g, A = some ⟨g, 0, none⟩ ∧ B ≤ g ∧ g < w.heap.size := by
  have hl := h.len
  obtain ⟨g, e, hg, _⟩ := h.cells 0 _ (flat_at bs 0 (by omega) 0 _ rfl)
  exact ⟨g, e, (h.lt g (by rw [e]; rfl)).1, hg⟩

/-- A piece of a list of boxes. -/
theorem src_piece {w : World} {B : Nat} {ad : Addr} {bs : List Bx} {i m c : Nat} (h : Boxes w B (some ad) bs) (him : i + m ≤ bs.length) : SrcB w (some (ad.add (i * 14))) m c ((bs.drop i).take m) := by
  refine ⟨by simp; omega, fun e => (by cases e), fun j u hu => ⟨_, rfl, ?_⟩⟩
  have hlt := (List.getElem?_eq_some_iff.1 hu).1
  rw [flat_len, List.length_take, List.length_drop] at hlt
  obtain ⟨q, r, hr, rfl⟩ : ∃ q r, r < 14 ∧ j = q * 14 + r := ⟨j / 14, j % 14, Nat.mod_lt _ (by omega), by omega⟩
  have hq : q < m := by omega
  obtain ⟨_, e, _, hat⟩ := h (i + q) (by omega)
  injection e with e
  subst e
  have hg : ((bs.drop i).take m).getD q noB = bs.getD (i + q) noB := by
    simp only [List.getD, List.getElem?_take, if_pos hq, List.getElem?_drop]
  obtain ⟨v, hv⟩ : ∃ v, (cellsOfB (bs.getD (i + q) noB))[r]? = some v := ⟨_, List.getElem?_eq_getElem (by rw [cellsOfB_len]; exact hr)⟩
  have h1 := flat_at ((bs.drop i).take m) q (by simp; omega) r v (by rw [hg]; exact hv)
  rw [hu] at h1
  injection h1 with h1
  subst h1
  rw [add_add, show i * 14 + (q * 14 + r) = (i + q) * 14 + r by omega, ← add_add]
  generalize ad.add ((i + q) * 14) = p at hat
  generalize bs.getD (i + q) noB = y at hat hv
  obtain ⟨c0, c1, c2, c3, c4, c5, c6, c7, c8, c9, c10, c11, c12, c13⟩ := hat
  have hadd : ∀ k, 0 < k → p.add k = ⟨p.block, p.off + k, none⟩ := fun k hk => by unfold Addr.add; rw [if_neg (by omega)]
  obtain rfl | rfl | rfl | rfl | rfl | rfl | rfl | rfl | rfl | rfl | rfl | rfl | rfl | rfl : r = 0 ∨ r = 1 ∨ r = 2 ∨ r = 3 ∨ r = 4 ∨ r = 5 ∨ r = 6 ∨ r = 7 ∨ r = 8 ∨ r = 9 ∨ r = 10 ∨ r = 11 ∨ r = 12 ∨ r = 13 := by omega
  · injection hv with hv; subst hv; simpa [Addr.add] using c0
  · injection hv with hv; subst hv; rw [hadd 1 (by omega)]; exact c1
  · injection hv with hv; subst hv; rw [hadd 2 (by omega)]; exact c2
  · injection hv with hv; subst hv; rw [hadd 3 (by omega)]; exact c3
  · injection hv with hv; subst hv; rw [hadd 4 (by omega)]; exact c4
  · injection hv with hv; subst hv; rw [hadd 5 (by omega)]; exact c5
  · injection hv with hv; subst hv; rw [hadd 6 (by omega)]; exact c6
  · injection hv with hv; subst hv; rw [hadd 7 (by omega)]; exact c7
  · injection hv with hv; subst hv; rw [hadd 8 (by omega)]; exact c8
  · injection hv with hv; subst hv; rw [hadd 9 (by omega)]; exact c9
  · injection hv with hv; subst hv; rw [hadd 10 (by omega)]; exact c10
  · injection hv with hv; subst hv; rw [hadd 11 (by omega)]; exact c11
  · injection hv with hv; subst hv; rw [hadd 12 (by omega)]; exact c12
  · injection hv with hv; subst hv; rw [hadd 13 (by omega)]; exact c13

theorem okB_part {bs : List Bx} (h : ∀ b ∈ bs, OkB b) {n i m : Nat} (hn : n = bs.length) (him : i + m ≤ n) (hs : ∀ k, 0 < k → k < m → 0 ≤ dOf bs (i + k) - dOf bs i ∧ dOf bs (i + k) - dOf bs i ≤ 256) : ∀ b ∈ partL bs i m m, OkB b := by
  intro b hb
  unfold partL at hb
  rw [List.mem_map] at hb
  obtain ⟨k, hk, rfl⟩ := hb
  have hkm := List.mem_range.1 hk
  by_cases e : k = 0
  · rw [if_pos e]
    exact okB_zero 3 (by decide)
  · rw [if_neg e, if_pos hkm]
    have hb := hs k (by omega) hkm
    have hlt : i + k < bs.length := by omega
    have hm : bs.getD (i + k) noB ∈ bs := by
      simp only [List.getD, List.getElem?_eq_getElem hlt, Option.getD_some]
      exact List.getElem_mem hlt
    have ho := h _ hm
    intro x hx
    simp only [List.mem_cons, List.not_mem_nil, or_false] at hx
    rcases hx with hx | hx | hx | hx | hx | hx | hx | hx | hx | hx | hx | hx | hx | hx
    · subst hx
      exact WalkArith.wf_i64 (by omega)
    · exact ho x (by rw [hx]; simp)
    · exact ho x (by rw [hx]; simp)
    · exact ho x (by rw [hx]; simp)
    · exact ho x (by rw [hx]; simp)
    · exact ho x (by rw [hx]; simp)
    · exact ho x (by rw [hx]; simp)
    · exact ho x (by rw [hx]; simp)
    · exact ho x (by rw [hx]; simp)
    · exact ho x (by rw [hx]; simp)
    · exact ho x (by rw [hx]; simp)
    · exact ho x (by rw [hx]; simp)
    · exact ho x (by rw [hx]; simp)
    · exact ho x (by rw [hx]; simp)

section
variable {T : World → Addr → List Bx → Prop}

set_option maxRecDepth 100000 in
set_option maxHeartbeats 8000000 in
theorem grafts_yes (hT : TreeOk T) (A : Option Addr) (n c : Nat) (bs : List Bx) (z : Int) (hz : 0 ≤ z ∧ z ≤ 255) (hcap : n ≤ c) (w : World) (hn : n = bs.length) (hlen : n ≤ 100) (h0 : 0 < n) (hx : Boxes w w.heap.size A bs) (hb : ∀ b ∈ bs, OkB b) (hf : Fine bs n) :
    Calls Try.prog 7 #[.slice A n c, .int .u8 z] w fun r w' => r = .returned (.bool true) ∧ Below w.heap.size w w' := by
  have HX := Lib.hid hx
  have HN := Lib.hid hn
  have HB := Lib.hid hb
  have HF := Lib.hid hf
  have HSH := Lib.hid (hf.shape h0)
  clear hx hn hb hf
  obtain ⟨i, hi, hin⟩ : ∃ i : Nat, z % (n : Int) = (i : Int) ∧ i < n := by
    have g0 := Int.emod_nonneg z (show (n : Int) ≠ 0 by omega)
    have g1 := Int.emod_lt_of_pos z (show (0 : Int) < n by omega)
    exact ⟨(z % (n : Int)).toNat, by omega, by omega⟩
  have hit : Int.tmod z (n : Int) = (i : Int) := by rw [Int.tmod_eq_emod_of_nonneg hz.1]; exact hi
  obtain ⟨hz0, hz1⟩ := hz
  have hnz : ¬ (n : Int) = 0 := by omega
  go_enter Try.func7, Try.ntmps7
  go_wp2_with fail
  refine (speaks_any hT _).mono ?_; rintro e w1 ⟨rfl, k1⟩
  have K1 := Lib.hid k1
  clear k1
  go_wp2_with fail
  refine (refchk_any A n c bs (-1) 0 w1 HN.out (by omega) (HX.out.thru K1.out) (chk_fine HN.out h0 HF.out)).mono ?_; rintro e w2 ⟨rfl, k2⟩
  have K2 := Lib.hid (thru K1.out k2)
  clear k2 K1
  go_wp2_with fail
  refine (begin_some hT A n c bs w2 HN.out (by omega) h0 (HX.out.thru K2.out) HB.out HF.out).mono ?_; rintro e w3 ⟨⟨p, rfl, ht⟩, k3⟩
  have K3 := Lib.hid (thru K2.out k3)
  have HT3 := Lib.hid ht
  clear k3 K2 ht
  obtain ⟨ad, hA, hab, hcx⟩ := (HX.out.below K3.out) i (by rw [← HN.out]; exact hin)
  subst hA
  have HAB := Lib.hid hab
  obtain ⟨ki, hki⟩ : ∃ ki, kOf bs i = ki := ⟨_, rfl⟩
  have g1 := hcx.2.1
  rw [show (bs.getD i noB).k = ki from hki] at g1
  have HD0 := Lib.hid hcx.1
  clear hcx hab
  by_cases h4 : ki = 4
  · have h4' : (ki == 4) = true := by simp [h4]
    go_wp2_with fail
    go_ret
    exact ⟨rfl, K3.out⟩
  have h4' : (ki == 4) = false := by simp [h4]
  by_cases h5 : ki = 5
  · have h5' : (ki == 5) = true := by simp [h5]
    go_wp2_with fail
    go_ret
    exact ⟨rfl, K3.out⟩
  have h5' : (ki == 5) = false := by simp [h5]
  have HKI : Hid (¬ (kOf bs i = 4 ∨ kOf bs i = 5)) := Lib.hid (by rw [hki]; omega)
  clear hki
  go_upto_region 12 with fail
  clear g1 h4 h4' h5 h5'
  obtain ⟨e1, e2, e3, -⟩ := en_spec (dOf bs) n i hin
  obtain ⟨e, he⟩ : ∃ e, en (dOf bs) n i = e := ⟨_, rfl⟩
  rw [he] at e1 e2
  obtain ⟨m, hm⟩ : ∃ m, e - i = m := ⟨_, rfl⟩
  have HEM : Hid (en (dOf bs) n i = i + m) := Lib.hid (by rw [he]; omega)
  have HE : Hid ((en (dOf bs) n i : Int) = (e : Int)) := Lib.hid (by rw [he])
  have hm0 : 0 < m := by omega
  have hmn : i + m ≤ n := by omega
  have hci : ¬ c = i := by omega
  have hie : i ≤ e := by omega
  have hec : e ≤ c := by omega
  have HDD : Hid (∀ k, 0 < k → k < m → 0 ≤ dOf bs (i + k) - dOf bs i ∧ dOf bs (i + k) - dOf bs i ≤ 256) := Lib.hid fun k h1 h2 => by
    have a1 := HF.out.depth (show i + k < n by omega)
    have a2 := HF.out.depth hin
    have a3 := e3 (i + k) (by omega) (by rw [he]; omega)
    omega
  clear he e3
  go_upto_region 13 with (first
    | (go_at_call 19; with_reducible refine (en_at hT HN.out (hT.keep _ _ _ _ HT3.out (ba1 w3 _)) hin HE.out).mono ?_; rintro r w4 ⟨rfl, kk⟩; have K4 := Lib.hid (thru (ba1 w3 (.cells #[] 38)) kk); have HM4 := Lib.hid ((emptyB_mine 38 w3 w3.heap.size (Nat.le_refl _)).below kk); clear kk)
    | (at_builtin; refine wpList_append_boxes infoRef _ rfl (.tmp 51) (.tmp 57) rfl w3.heap.size (some ⟨w3.heap.size, 0, none⟩) 0 0 [] rfl HM4.out (some (ad.add (i * 14))) m (c - i) ((bs.drop i).take m) rfl (src_piece (HX.out.below (thru K3.out K4.out)) (by rw [← HN.out]; exact hmn)) (by omega) K4.out.size ?_; intro A9 c9 W9 h9; have K9 := Lib.hid (h9.below HM4.out K4.out (Nat.le_refl _) K4.out.size); have HM9 : Hid (MineB 38 W9 w3.heap.size A9 m c9 ((bs.drop i).take m)) := Lib.hid (by simpa using h9.1); clear h9))
  obtain ⟨g9, hA9, hg9, hg9s⟩ := mineB_block HM9.out hm0
  subst hA9
  have hfl : (((bs.drop i).take m).flatMap cellsOfB).length = m * 14 := by rw [flat_len, HM9.out.len]
  obtain ⟨u0, z0⟩ : ∃ u, W9.cell? ⟨g9, 0, none⟩ = some u := by
    obtain ⟨g, e, -, hc⟩ := HM9.out.cells 0 _ (List.getElem?_eq_getElem (by rw [hfl]; omega))
    injection e with e
    injection e with e _ _
    subst e
    exact ⟨_, by rw [← add0]; exact hc⟩
  have f0 := row_thawed HM9.out 0
  obtain ⟨u1, z1⟩ : ∃ u, W9.cell? ⟨g9, 1, none⟩ = some u := by
    obtain ⟨g, e, -, hc⟩ := HM9.out.cells 1 _ (List.getElem?_eq_getElem (by rw [hfl]; omega))
    injection e with e
    injection e with e _ _
    subst e
    exact ⟨_, by rw [← add0]; exact hc⟩
  have f1 := row_thawed HM9.out 1
  obtain ⟨u2, z2⟩ : ∃ u, W9.cell? ⟨g9, 2, none⟩ = some u := by
    obtain ⟨g, e, -, hc⟩ := HM9.out.cells 2 _ (List.getElem?_eq_getElem (by rw [hfl]; omega))
    injection e with e
    injection e with e _ _
    subst e
    exact ⟨_, by rw [← add0]; exact hc⟩
  have f2 := row_thawed HM9.out 2
  obtain ⟨u3, z3⟩ : ∃ u, W9.cell? ⟨g9, 3, none⟩ = some u := by
    obtain ⟨g, e, -, hc⟩ := HM9.out.cells 3 _ (List.getElem?_eq_getElem (by rw [hfl]; omega))
    injection e with e
    injection e with e _ _
    subst e
    exact ⟨_, by rw [← add0]; exact hc⟩
  have f3 := row_thawed HM9.out 3
  obtain ⟨u4, z4⟩ : ∃ u, W9.cell? ⟨g9, 4, none⟩ = some u := by
    obtain ⟨g, e, -, hc⟩ := HM9.out.cells 4 _ (List.getElem?_eq_getElem (by rw [hfl]; omega))
    injection e with e
    injection e with e _ _
    subst e
    exact ⟨_, by rw [← add0]; exact hc⟩
  have f4 := row_thawed HM9.out 4
  obtain ⟨u5, z5⟩ : ∃ u, W9.cell? ⟨g9, 5, none⟩ = some u := by
    obtain ⟨g, e, -, hc⟩ := HM9.out.cells 5 _ (List.getElem?_eq_getElem (by rw [hfl]; omega))
    injection e with e
    injection e with e _ _
    subst e
    exact ⟨_, by rw [← add0]; exact hc⟩
  have f5 := row_thawed HM9.out 5
  obtain ⟨u6, z6⟩ : ∃ u, W9.cell? ⟨g9, 6, none⟩ = some u := by
    obtain ⟨g, e, -, hc⟩ := HM9.out.cells 6 _ (List.getElem?_eq_getElem (by rw [hfl]; omega))
    injection e with e
    injection e with e _ _
    subst e
    exact ⟨_, by rw [← add0]; exact hc⟩
  have f6 := row_thawed HM9.out 6
  obtain ⟨u7, z7⟩ : ∃ u, W9.cell? ⟨g9, 7, none⟩ = some u := by
    obtain ⟨g, e, -, hc⟩ := HM9.out.cells 7 _ (List.getElem?_eq_getElem (by rw [hfl]; omega))
    injection e with e
    injection e with e _ _
    subst e
    exact ⟨_, by rw [← add0]; exact hc⟩
  have f7 := row_thawed HM9.out 7
  obtain ⟨u8, z8⟩ : ∃ u, W9.cell? ⟨g9, 8, none⟩ = some u := by
    obtain ⟨g, e, -, hc⟩ := HM9.out.cells 8 _ (List.getElem?_eq_getElem (by rw [hfl]; omega))
    injection e with e
    injection e with e _ _
    subst e
    exact ⟨_, by rw [← add0]; exact hc⟩
  have f8 := row_thawed HM9.out 8
  obtain ⟨u9, z9⟩ : ∃ u, W9.cell? ⟨g9, 9, none⟩ = some u := by
    obtain ⟨g, e, -, hc⟩ := HM9.out.cells 9 _ (List.getElem?_eq_getElem (by rw [hfl]; omega))
    injection e with e
    injection e with e _ _
    subst e
    exact ⟨_, by rw [← add0]; exact hc⟩
  have f9 := row_thawed HM9.out 9
  obtain ⟨u10, z10⟩ : ∃ u, W9.cell? ⟨g9, 10, none⟩ = some u := by
    obtain ⟨g, e, -, hc⟩ := HM9.out.cells 10 _ (List.getElem?_eq_getElem (by rw [hfl]; omega))
    injection e with e
    injection e with e _ _
    subst e
    exact ⟨_, by rw [← add0]; exact hc⟩
  have f10 := row_thawed HM9.out 10
  obtain ⟨u11, z11⟩ : ∃ u, W9.cell? ⟨g9, 11, none⟩ = some u := by
    obtain ⟨g, e, -, hc⟩ := HM9.out.cells 11 _ (List.getElem?_eq_getElem (by rw [hfl]; omega))
    injection e with e
    injection e with e _ _
    subst e
    exact ⟨_, by rw [← add0]; exact hc⟩
  have f11 := row_thawed HM9.out 11
  obtain ⟨u12, z12⟩ : ∃ u, W9.cell? ⟨g9, 12, none⟩ = some u := by
    obtain ⟨g, e, -, hc⟩ := HM9.out.cells 12 _ (List.getElem?_eq_getElem (by rw [hfl]; omega))
    injection e with e
    injection e with e _ _
    subst e
    exact ⟨_, by rw [← add0]; exact hc⟩
  have f12 := row_thawed HM9.out 12
  obtain ⟨u13, z13⟩ : ∃ u, W9.cell? ⟨g9, 13, none⟩ = some u := by
    obtain ⟨g, e, -, hc⟩ := HM9.out.cells 13 _ (List.getElem?_eq_getElem (by rw [hfl]; omega))
    injection e with e
    injection e with e _ _
    subst e
    exact ⟨_, by rw [← add0]; exact hc⟩
  have f13 := row_thawed HM9.out 13
  have hput : MineB 38 ((((((((((((((W9.setCell ⟨g9, 0, none⟩ (.int .i64 0)).setCell ⟨g9, 1, none⟩ (.int .i64 3)).setCell ⟨g9, 2, none⟩ (.int .i64 0)).setCell ⟨g9, 3, none⟩ (.int .i64 0)).setCell ⟨g9, 4, none⟩ (.int .i64 0)).setCell ⟨g9, 5, none⟩ (.int .i64 0)).setCell ⟨g9, 6, none⟩ (.int .i64 0)).setCell ⟨g9, 7, none⟩ (.int .i64 0)).setCell ⟨g9, 8, none⟩ (.int .i64 0)).setCell ⟨g9, 9, none⟩ (.int .i64 0)).setCell ⟨g9, 10, none⟩ (.int .i64 0)).setCell ⟨g9, 11, none⟩ (.int .i64 0)).setCell ⟨g9, 12, none⟩ (.int .i64 0)).setCell ⟨g9, 13, none⟩ (.int .i64 0)) w3.heap.size (some ⟨g9, 0, none⟩) m c9 (((bs.drop i).take m).set 0 rootBx) := mineB_put HM9.out hm0 rootBx
  rw [raw_eq (show i + m ≤ bs.length by rw [← HN.out]; exact hmn), raw_set] at hput
  have hbp : Below w3.heap.size w3 ((((((((((((((W9.setCell ⟨g9, 0, none⟩ (.int .i64 0)).setCell ⟨g9, 1, none⟩ (.int .i64 3)).setCell ⟨g9, 2, none⟩ (.int .i64 0)).setCell ⟨g9, 3, none⟩ (.int .i64 0)).setCell ⟨g9, 4, none⟩ (.int .i64 0)).setCell ⟨g9, 5, none⟩ (.int .i64 0)).setCell ⟨g9, 6, none⟩ (.int .i64 0)).setCell ⟨g9, 7, none⟩ (.int .i64 0)).setCell ⟨g9, 8, none⟩ (.int .i64 0)).setCell ⟨g9, 9, none⟩ (.int .i64 0)).setCell ⟨g9, 10, none⟩ (.int .i64 0)).setCell ⟨g9, 11, none⟩ (.int .i64 0)).setCell ⟨g9, 12, none⟩ (.int .i64 0)).setCell ⟨g9, 13, none⟩ (.int .i64 0)) := ((((((((((((((K9.out.setCell (p := ⟨g9, 0, none⟩) hg9 (.int .i64 0)).setCell (p := ⟨g9, 1, none⟩) hg9 (.int .i64 3)).setCell (p := ⟨g9, 2, none⟩) hg9 (.int .i64 0)).setCell (p := ⟨g9, 3, none⟩) hg9 (.int .i64 0)).setCell (p := ⟨g9, 4, none⟩) hg9 (.int .i64 0)).setCell (p := ⟨g9, 5, none⟩) hg9 (.int .i64 0)).setCell (p := ⟨g9, 6, none⟩) hg9 (.int .i64 0)).setCell (p := ⟨g9, 7, none⟩) hg9 (.int .i64 0)).setCell (p := ⟨g9, 8, none⟩) hg9 (.int .i64 0)).setCell (p := ⟨g9, 9, none⟩) hg9 (.int .i64 0)).setCell (p := ⟨g9, 10, none⟩) hg9 (.int .i64 0)).setCell (p := ⟨g9, 11, none⟩) hg9 (.int .i64 0)).setCell (p := ⟨g9, 12, none⟩) hg9 (.int .i64 0)).setCell (p := ⟨g9, 13, none⟩) hg9 (.int .i64 0))
  clear K4 HM4 hfl
  go_upto_region 14 with fail
  generalize World.setCell _ _ _ = w10 at hput hbp ⊢
  have HP := Lib.hid hput
  have K10 := Lib.hid hbp
  clear hput hbp K9 HM9 z0 f0 z1 f1 z2 f2 z3 f3 z4 f4 z5 f5 z6 f6 z7 f7 z8 f8 z9 f9 z10 f10 z11 f11 z12 f12 z13 f13
  go_wp2_with fail
  go_loopw [10] (fun t wr => ∃ k : Nat, 1 ≤ k ∧ k ≤ m ∧ t = .int .i64 (k : Int) ∧ Hid (MineB 38 wr w3.heap.size (some ⟨g9, 0, none⟩) m c9 (partL bs i m k) ∧ Below w3.heap.size w3 wr)) (fun t _ => m - (intOf t).toNat)
  case atStart => exact ⟨1, Nat.le_refl _, by omega, rfl, Lib.hid ⟨HP.out, K10.out⟩⟩
  case round =>
    clear HP K10
    obtain ⟨k, hk1, hkm, rfl, H⟩ := hrel
    by_cases hlt : k < m
    · have hc1 : wr.cell? ⟨g9, k * 14, none⟩ = some (.int .i64 (dOf bs (i + k))) := by
        obtain ⟨_, e, _, hat⟩ := H.out.1.boxes k (by rw [partL_len]; exact hlt)
        injection e with e
        subst e
        have h1 := hat.1
        rw [partL_get hlt, if_neg (by omega), if_neg (by omega), add0] at h1
        exact h1
      have hc2 : wr.cell? (ad.add (i * 14)) = some (.int .i64 (dOf bs i)) := (H.out.2.cell (p := ad.add (i * 14)) (by rw [block_of_add]; exact Nat.lt_of_lt_of_le HAB.out K3.out.size)).trans HD0.out
      have hdd := HDD.out k (by omega) hlt
      have HS : Hid ((partL bs i m k).set k { bs.getD (i + k) noB with d := dOf bs (i + k) - dOf bs i } = partL bs i m (k + 1)) := Lib.hid (partL_set (by omega))
      have HG : Hid ((partL bs i m k).getD k noB = bs.getD (i + k) noB) := Lib.hid (by rw [partL_get hlt, if_neg (by omega), if_neg (by omega)])
      generalize dOf bs (i + k) = x at hc1 hdd HS
      generalize dOf bs i = y at hc2 hdd HS
      obtain ⟨hd0, hd1⟩ := hdd
      have hwx : IntKind.i64.wrap (x - y) = x - y := IntWalk.i64_in _ (by omega)
      have hq1 := fun d os => cell_regrown hc1 (d := d) (os := os)
      have hq2 := fun d os => cell_regrown hc2 (d := d) (os := os)
      clear hc1 hc2
      go_upto_region 17 with fail
      refine wp_region_quiet_below_tail 13 (by kernel_rfl) (by kernel_rfl) ?_
      simp only [List.take_succ_cons, List.take_zero, List.drop_succ_cons, List.drop_zero]
      repeat (quiet_step (fail))
      refine wpQuiet_nil ?_
      intro _ hw'
      obtain ⟨⟨dq, os⟩, hw''⟩ := hw'
      subst hw''
      clear hq1 hq2
      have q := below_regrown wr dq os
      generalize grow (redrawn wr dq) os = w11 at q ⊢
      have HM11 := Lib.hid (H.out.1.below q)
      have K11 := Lib.hid (thru H.out.2 q)
      clear q
      obtain ⟨u0, z0⟩ : ∃ u, w11.cell? ⟨g9, k * 14, none⟩ = some u := by
        obtain ⟨g, e, -, hc⟩ := HM11.out.cells (k * 14) _ (List.getElem?_eq_getElem (by rw [flat_len, partL_len]; omega))
        injection e with e
        injection e with e _ _
        subst e
        exact ⟨_, by rw [← add0]; exact hc⟩
      have f0 := row_thawed HM11.out (k * 14)
      have hput := mineB_setd HM11.out hlt (x - y)
      rw [HG.out, HS.out] at hput
      have HP := Lib.hid hput
      have K12 := Lib.hid (K11.out.setCell (p := ⟨g9, k * 14, none⟩) hg9 (.int .i64 (x - y)))
      clear hput
      go_wp2_with fail
      clear z0 f0
      go_roundw
      case rel => exact ⟨k + 1, by omega, by omega, by go_num, Lib.hid ⟨HP.out, K12.out⟩⟩
      case measure => simp [intOf]; omega
    · obtain rfl : k = m := by omega
      have HFP := Lib.hid (fine_part HF.out hin HEM.out HKI.out)
      have HOP := Lib.hid (okB_part HB.out HN.out hmn HDD.out)
      have HSZ := Lib.hid (partL_len bs i k k).symm
      obtain ⟨l, hl⟩ : ∃ l, (kids (dOf bs) n i).length = l := ⟨_, rfl⟩
      have HL := Lib.hid hl
      have HL2 : Hid ((kids (dOf (partL bs i k k)) k 0).length = l) := Lib.hid (by rw [kids_part HSH.out hin HEM.out]; exact hl)
      clear hl
      go_upto_region 18 with fail
      go_wp2_with fail
      refine (begin_some hT (some ⟨g9, 0, none⟩) k c9 (partL bs i k k) wr HSZ.out (by omega) hm0 H.out.1.boxes HOP.out HFP.out).mono ?_; rintro r w12 ⟨⟨p2, rfl, ht2⟩, kk⟩
      have HU12 := Lib.hid ht2
      have K12 := Lib.hid (thru H.out.2 kk)
      clear kk ht2 H
      go_wp2_with (first | (go_at_call 13; with_reducible refine (len_at hT HSZ.out HU12.out).mono ?_; rintro r w13 ⟨rfl, kk⟩; have K13 := Lib.hid (thru K12.out kk); have HU13 := Lib.hid (hT.keep _ _ _ _ HU12.out kk); clear kk))
      go_loopw [12] (fun t wz => ∃ j : Nat, 1 ≤ j ∧ j ≤ k ∧ t = .int .i64 (j : Int) ∧ Hid (T wz p2 (partL bs i k k) ∧ Below w3.heap.size w3 wz)) (fun t _ => k - (intOf t).toNat)
      case atStart => exact ⟨1, Nat.le_refl _, by omega, rfl, Lib.hid ⟨HU13.out, K13.out⟩⟩
      case round =>
        clear HU12 K12 HU13 K13
        obtain ⟨j, hj1, hjk, rfl, G⟩ := hrel
        by_cases hjl : j < k
        · obtain ⟨q, q1, q2, q3⟩ := par_part HSH.out hin HEM.out (show 0 < j by omega) hjl
          have e1 := en_part hin HEM.out (show 0 < j by omega) hjl
          obtain ⟨eu, heu⟩ : ∃ eu, en (dOf (partL bs i k k)) k j = eu := ⟨_, rfl⟩
          rw [heu] at e1
          have heun : eu ≤ k := by rw [← heu]; exact (en_spec _ k j hjl).2.1
          have FU := Lib.hid q1
          have FE : Hid ((en (dOf (partL bs i k k)) k j : Int) = (eu : Int)) := Lib.hid (by rw [heu])
          obtain ⟨v1, hv1⟩ : ∃ v1 : Int, (i : Int) + (q : Int) = v1 := ⟨_, rfl⟩
          obtain ⟨v2, hv2⟩ : ∃ v2 : Int, (i : Int) + (eu : Int) = v2 := ⟨_, rfl⟩
          have hs1 : v1 - (i : Int) = (q : Int) := by omega
          have hs2 : v2 - (i : Int) = (eu : Int) := by omega
          have hb1 : 0 ≤ v1 ∧ v1 ≤ 200 := by omega
          have hb2 : 0 ≤ v2 ∧ v2 ≤ 200 := by omega
          obtain ⟨hb10, hb11⟩ := hb1
          obtain ⟨hb20, hb21⟩ := hb2
          have TP : Hid (∀ w', T w' p bs → Calls Try.prog 17 #[.pointer (some p), .int .i64 ((i : Int) + (j : Int))] w' fun r w'' => r = .returned (.int .i64 v1) ∧ Below w'.heap.size w' w'') := Lib.hid fun w' h => by
            have g := par_at hT HN.out h (show i + j < n by omega) q2
            rw [Int.natCast_add, Int.natCast_add, hv1] at g
            exact g
          have TE : Hid (∀ w', T w' p bs → Calls Try.prog 19 #[.pointer (some p), .int .i64 ((i : Int) + (j : Int))] w' fun r w'' => r = .returned (.int .i64 v2) ∧ Below w'.heap.size w' w'') := Lib.hid fun w' h => by
            have g := en_at hT HN.out h (show i + j < n by omega) (show ((en (dOf bs) n (i + j) : Nat) : Int) = v2 by rw [e1, Int.natCast_add]; exact hv2)
            rw [Int.natCast_add] at g
            exact g
          have hk100 : k ≤ 100 := by omega
          have hi100 : i ≤ 100 := by omega
          clear q1 q2 e1 heu hm hmn hie hec hci hi hit hnz hcap hlen hm0 hg9 hg9s hlt hkm hv1 hv2
          go_wp2_with (first
            | (go_at_call 17; with_reducible refine (par_at hT HSZ.out G.out.1 hjl FU.out).mono ?_; rintro r w14 ⟨rfl, kk⟩; have Z14 := Lib.hid kk; clear kk)
            | (go_at_call 17; with_reducible refine (TP.out _ (hT.keep _ _ _ _ HT3.out (thru G.out.2 Z14.out))).mono ?_; rintro r w15 ⟨rfl, kk⟩; have Z15 := Lib.hid (thru Z14.out kk); clear kk)
            | (go_at_call 19; with_reducible refine (en_at hT HSZ.out (hT.keep _ _ _ _ G.out.1 Z15.out) hjl FE.out).mono ?_; rintro r w16 ⟨rfl, kk⟩; have Z16 := Lib.hid (thru Z15.out kk); clear kk)
            | (go_at_call 19; with_reducible refine (TE.out _ (hT.keep _ _ _ _ HT3.out (thru G.out.2 Z16.out))).mono ?_; rintro r w17 ⟨rfl, kk⟩; have Z17 := Lib.hid (thru Z16.out kk); clear kk))
          go_roundw
          case rel => exact ⟨j + 1, by omega, by omega, by go_num, Lib.hid ⟨hT.keep _ _ _ _ G.out.1 Z17.out, thru G.out.2 Z17.out⟩⟩
          case measure => simp [intOf]; omega
        · obtain rfl : j = k := by omega
          have UK : Hid (∀ w', T w' p2 (partL bs i j j) → Calls Try.prog 24 #[.pointer (some p2), .int .i64 0] w' fun r w'' => (∃ A1 c1, r = .returned (.slice A1 l c1)) ∧ Below w'.heap.size w' w'') := Lib.hid fun w' h => by
            refine (kids_at hT HSZ.out h hm0 HL2.out).mono ?_
            rintro r w'' ⟨⟨A1, c1, e, -⟩, kk⟩
            exact ⟨⟨A1, c1, e⟩, kk⟩
          have TK : Hid (∀ w', T w' p bs → Calls Try.prog 24 #[.pointer (some p), .int .i64 (i : Int)] w' fun r w'' => (∃ A1 c1, r = .returned (.slice A1 l c1)) ∧ Below w'.heap.size w' w'') := Lib.hid fun w' h => by
            refine (kids_at hT HN.out h hin HL.out).mono ?_
            rintro r w'' ⟨⟨A1, c1, e, -⟩, kk⟩
            exact ⟨⟨A1, c1, e⟩, kk⟩
          go_wp2_with (first
            | (go_at_call 24; with_reducible refine (UK.out _ G.out.1).mono ?_; rintro r w14 ⟨⟨A1, c1, rfl⟩, kk⟩; have Z14 := Lib.hid kk; clear kk)
            | (go_at_call 24; with_reducible refine (TK.out _ (hT.keep _ _ _ _ HT3.out (thru G.out.2 Z14.out))).mono ?_; rintro r w15 ⟨⟨A2, c2, rfl⟩, kk⟩; have Z15 := Lib.hid (thru Z14.out kk); clear kk))
          go_ret
          exact ⟨rfl, thru K3.out (thru G.out.2 Z15.out)⟩



set_option maxRecDepth 100000 in
set_option maxHeartbeats 1000000 in
theorem grafts_no (hT : TreeOk T) (A : Option Addr) (n c : Nat) (bs : List Bx) (z : Int) (w : World) (a e : Int) (hn : n = bs.length) (hlen : n ≤ 100) (hx : Boxes w w.heap.size A bs) (hc : chk bs = (a, e)) (he : e ≠ 0) :
    Calls Try.prog 7 #[.slice A n c, .int .u8 z] w fun r w' => r = .returned (.bool true) ∧ Below w.heap.size w w' := by
  have HX := Lib.hid hx
  have HN := Lib.hid hn
  have HC := Lib.hid hc
  clear hx hn hc
  have he' : (e == 0) = false := by simp [he]
  go_enter Try.func7, Try.ntmps7
  go_wp2_with fail
  refine (speaks_any hT _).mono ?_; rintro r w1 ⟨rfl, k1⟩
  have K1 := Lib.hid k1
  clear k1
  go_wp2_with fail
  refine (refchk_any A n c bs a e w1 HN.out (by omega) (HX.out.thru K1.out) HC.out).mono ?_; rintro r w2 ⟨rfl, k2⟩
  have K2 := Lib.hid (thru K1.out k2)
  clear k2 K1
  go_wp2_with fail
  go_ret
  exact ⟨rfl, K2.out⟩

set_option maxRecDepth 100000 in
set_option maxHeartbeats 1000000 in
theorem grafts_long (hT : TreeOk T) (A : Option Addr) (n c : Nat) (z : Int) (w : World) (h : ¬ n ≤ 100) :
    Calls Try.prog 7 #[.slice A n c, .int .u8 z] w fun r w' => r = .returned (.bool true) ∧ Below w.heap.size w w' := by
  have h1 : (100 : Int) < (n : Int) := by omega
  clear h
  go_enter Try.func7, Try.ntmps7
  go_wp2_with fail
  refine (speaks_any hT _).mono ?_; rintro r w1 ⟨rfl, k1⟩
  go_wp2_with fail
  refine (speaks_any hT _).mono ?_; rintro r w2 ⟨rfl, k2⟩
  go_wp2_with fail
  go_ret
  exact ⟨rfl, thru k1 k2⟩

theorem grafts_any (hT : TreeOk T) (A : Option Addr) (n c : Nat) (bs : List Bx) (z : Int) (w : World) (hn : n = bs.length) (hcap : n ≤ c) (hz : 0 ≤ z ∧ z ≤ 255) (hx : Boxes w w.heap.size A bs) (hb : ∀ b ∈ bs, OkB b) :
    Calls Try.prog 7 #[.slice A n c, .int .u8 z] w fun r w' => r = .returned (.bool true) ∧ Below w.heap.size w w' := by
  by_cases h : n ≤ 100
  · obtain ⟨a, e, hc⟩ : ∃ a e, chk bs = (a, e) := ⟨_, _, rfl⟩
    by_cases he : e = 0
    · subst he
      obtain ⟨-, h0, hf⟩ := chk_ok hn hc
      exact grafts_yes hT A n c bs z hz hcap w hn h h0 hx hb hf
    · exact grafts_no hT A n c bs z w a e hn h hx hc he
  · exact grafts_long hT A n c z w h

end

end Go.Proofs.Ytmmmlegjhblfaaa.Tree
