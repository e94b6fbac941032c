/- Texts of this proof that follow each other, in one file. -/
import Derived.Test.YtdibdfalahjmbaaGreatPart10
import Derived.Test.YtdibdfalahjmbaaGreatPart24
import Derived.Test.YtdibdfalahjmbaaGreatPart31
import Derived.Test.YtdibdfalahjmbaaGreatPart5
import Derived.Test.YtdibdfalahjmbaaGreatPart19
import Derived.Test.YtdibdfalahjmbaaGreatPart6
namespace Go.Proofs.YtdibdfalahjmbaaGreat.Text

open Go.RowKit Go.Sort Go.Proofs.YtdibdfalahjmbaaGreat.Rect Go.Proofs.YtdibdfalahjmbaaGreat.More Go.Proofs.YtdibdfalahjmbaaGreat.Shelf Go.Proofs.YtdibdfalahjmbaaGreat.Space Go.Proofs.YtdibdfalahjmbaaGreat.Place Go.Proofs.YtdibdfalahjmbaaGreat.Line

set_option linter.unusedVariables false

set_option linter.unusedSimpArgs false

theorem infoI : InfoE encI 65 34 32 := ⟨Tryz.underlying34, .agg #[.int .i64 0, .int .i64 0, .int .i64 0, .int .i64 0], rfl, by kernel_rfl⟩

set_option maxRecDepth 100000 in
set_option maxHeartbeats 1000000 in
theorem tof_any (A : Option Addr) (n c : Nat) (its : List It) (w : World) (hn : n = its.length) (hlen : n ≤ 1000) (hx : Items w w.heap.size A its) :
    Calls Tryz.prog 7 #[.slice A n c] w fun e w' => (∃ A' c', e = .returned (.slice A' n c') ∧ MineE encI 65 w' w.heap.size A' n c' its) ∧ Below w.heap.size w w' := by
  have HX := Lib.hid hx
  have HN := Lib.hid (⟨hn, hlen⟩ : n = its.length ∧ n ≤ 1000)
  clear hx hn hlen
  go_enter Tryz.func7, Tryz.ntmps7
  go_wp2_with fail
  go_loopw [3, 8] (fun u i wr => ∃ k : Nat, k ≤ n ∧ i = .int .i64 (k : Int) ∧ ∃ A9 c9, u = .slice A9 k c9 ∧ Hid (MineE encI 65 wr w.heap.size A9 k c9 (its.take k) ∧ Below w.heap.size w wr)) (fun _ i _ => n - (intOf i).toNat)
  case atStart => exact ⟨0, Nat.zero_le _, rfl, none, 0, rfl, Lib.hid ⟨noneE_mine _ _ _ _, Below.refl _ _⟩⟩
  case round =>
    obtain ⟨k, hk, rfl, A9, c9, rfl, H⟩ := hrel
    by_cases hlt : k < n
    · have hki : (k : Int) < (n : Int) := by omega
      have hk0 : ¬ (k : Int) < 0 := by omega
      have hwk : IntKind.i64.wrap ((k : Int) + 1) = (k : Int) + 1 := by have := HN.out.2; exact IntWalk.i64_in _ (by omega)
      obtain ⟨x, hz⟩ : ∃ x, its[k]? = some x := ⟨_, List.getElem?_eq_getElem (by rw [← HN.out.1]; exact hlt)⟩
      obtain ⟨ad, rfl, -, d0, d1, d2, d3⟩ := (HX.out.thru H.out.2) k x hz
      have HT := Lib.hid (show its.take (k + 1) = its.take k ++ [x] by rw [List.take_add_one, hz]; rfl)
      clear hz
      go_upto_region 5 with fail
      generalize hW : World.alloc wr _ = W
      obtain ⟨b, hb⟩ : ∃ b, wr.heap.size = b := ⟨_, rfl⟩
      have k1 : Below wr.heap.size wr W := by rw [← hW]; exact ba1 _ _
      have z1 : W.heap[b]? = some (.cells #[.int .i64 x.sd, .int .i64 x.cl, .int .i64 x.wd, .int .i64 x.ht] 76) := by rw [← hW, ← hb]; exact heap_alloc_new wr _
      rw [hb]
      obtain ⟨q0, q1, q2, q3⟩ := R4.of_block z1
      have S1 := Lib.hid (⟨H.out.1.below k1, thru H.out.2 k1⟩ : MineE encI 65 W w.heap.size A9 k c9 (its.take k) ∧ Below w.heap.size w W)
      clear hW hb k1 z1 d0 d1 d2 d3
      go_wp2_with (first
        | (at_builtin; refine wpList_append_E (bytes := 32) (by omega) infoI _ rfl (.tmp 12) (.tmp 23) rfl w.heap.size A9 k c9 (its.take k) rfl (S1.out.1.alloc _) (some ⟨W.heap.size, 0, none⟩) 1 1 [x] rfl (oneE_src encI W x 65) (by have := HN.out.2; omega) (by have := S1.out.2.size; simp; omega) ?_; intro A5 c5 w5 hA; have S5 := Lib.hid (⟨hA.1, AppendedE.below hA (S1.out.1.alloc _) (thru S1.out.2 (ba1 W _)) (Nat.le_refl _) (by have := S1.out.2.size; simp; omega)⟩ : MineE encI 65 w5 w.heap.size A5 (k + 1) c5 (its.take k ++ [x]) ∧ Below w.heap.size w w5); clear hA))
      go_roundw
      case rel => exact ⟨k + 1, by omega, by go_num, A5, c5, rfl, Lib.hid ⟨by rw [HT.out]; exact S5.out.1, S5.out.2⟩⟩
      case measure => simp [intOf]; omega
    · obtain rfl : k = n := by omega
      have he : its.take k = its := List.take_of_length_le (by rw [← HN.out.1]; exact Nat.le_refl _)
      have hm := H.out.1
      rw [he] at hm
      have HM := Lib.hid (⟨hm, H.out.2⟩ : MineE encI 65 wr w.heap.size A9 k c9 its ∧ Below w.heap.size w wr)
      clear he hm
      go_wp2_with fail
      go_ret
      exact ⟨⟨A9, c9, rfl, HM.out.1⟩, HM.out.2⟩

end Go.Proofs.YtdibdfalahjmbaaGreat.Text

namespace Go.Proofs.YtdibdfalahjmbaaGreat.Text

open Go.RowKit Go.Sort Go.Proofs.YtdibdfalahjmbaaGreat.Rect Go.Proofs.YtdibdfalahjmbaaGreat.More Go.Proofs.YtdibdfalahjmbaaGreat.Shelf Go.Proofs.YtdibdfalahjmbaaGreat.Space Go.Proofs.YtdibdfalahjmbaaGreat.Place Go.Proofs.YtdibdfalahjmbaaGreat.Line

set_option linter.unusedVariables false

set_option linter.unusedSimpArgs false

def exT : List It := [⟨0, 0, 4, 2⟩, ⟨1, 0, 3, 5⟩]

theorem exT_box : (layD [] 0 10 0 exT).box = [⟨3, 0, 7, 2⟩, ⟨0, 0, 3, 5⟩] := by rfl

theorem exT_y : (layD [] 0 10 0 exT).m.y = 2 := by rfl

theorem exT_right : ∀ x ∈ exT, RightI x := rightI_all (by decide)

theorem exT_lo : Lo 140737488355328 ⟨[], 0, 10, 0, 0, []⟩ := ⟨fun g hg => absurd hg List.not_mem_nil, by decide, by decide, by decide, by decide, by decide, by decide, by decide, fun z hz => absurd hz List.not_mem_nil, fun e => absurd rfl e, fun e => absurd rfl e⟩

theorem exT_mine (w : World) : MineE encI 65 (w.alloc (.cells #[.int .i64 0, .int .i64 0, .int .i64 4, .int .i64 2, .int .i64 1, .int .i64 0, .int .i64 3, .int .i64 5] 65)) 0 (some ⟨w.heap.size, 0, none⟩) exT.length 2 exT := by
  have := World.ownsRow_lit (e := 65) (size := 4) (base := 0) w #[.int .i64 0, .int .i64 0, .int .i64 4, .int .i64 2, .int .i64 1, .int .i64 0, .int .i64 3, .int .i64 5] 2 (Nat.zero_le _) (by unfold maxLen; omega) rfl
  exact this

section

variable {S : World → (Nat → Prop) → Addr → List Fl → Prop}

set_option maxRecDepth 100000 in
set_option maxHeartbeats 2000000 in
theorem tspeaks (hO : SpaceOk S) (hP : PlaceOk S) (w : World) : Calls Tryz.prog 5 #[] w fun e w' => e = .returned (.bool true) ∧ Below w.heap.size w w' := by
  have HNew := Lib.hid (hO.new w)
  have HLy := Lib.hid (fun w1 F p (h : S w1 F p []) (hF : ¬ F w1.heap.size) => klay_any hO hP (w1.alloc (.cells #[.int .i64 0, .int .i64 0, .int .i64 4, .int .i64 2, .int .i64 1, .int .i64 0, .int .i64 3, .int .i64 5] 65)) F p [] 0 10 0 140737488355328 (some ⟨w1.heap.size, 0, none⟩) 2 exT (thruS hO h (ba1 w1 _)) (exT_mine w1) (fun j e => by injection e with e; rw [← e]; exact hF) exT_right (by decide) exT_lo (by decide) (by decide))
  go_enter Tryz.func5, Tryz.ntmps5
  go_upto_region 5 with (first
    | (go_at_call 15; refine HNew.out.mono ?_; rintro e w1 ⟨⟨p, F, rfl, hL, hF⟩, k1⟩; have HL := Lib.hid (⟨hL, hF, k1, fun e => by have := hO.lt _ _ _ _ hL _ e; omega⟩ : S w1 F p [] ∧ (∀ k, F k → w.heap.size ≤ k) ∧ Below w.heap.size w w1 ∧ ¬ F w1.heap.size); clear hL hF k1)
    | (go_at_call 6; refine (HLy.out w1 F p HL.out.1 HL.out.2.2.2).mono ?_; rintro e w2 ⟨⟨bx, A3, c3, F2, rfl, hD⟩, k2⟩; have S2 := Lib.hid (⟨hD, (thru HL.out.2.2.1 (ba1 w1 _)).trans (k2.below (by have := HL.out.2.2.1.size; simp; omega) HL.out.2.1)⟩ : LaidOut S _ w2 F F2 p bx A3 c3 exT.length (layD [] 0 10 0 exT) ∧ Below w.heap.size w w2); clear hD k2))
  have hbo := S2.out.1.bo
  rw [exT_box] at hbo
  have b0 := box_cells hbo (k := 0) (by decide)
  have b1 := box_cells hbo (k := 1) (by decide)
  obtain ⟨x0, e0, c0, c1, c2, c3', -⟩ := b0
  obtain ⟨x1, e1, d0, d1, d2, d3, -⟩ := b1
  obtain rfl : (⟨3, 0, 7, 2⟩ : Bx) = x0 := Option.some.inj e0
  obtain rfl : (⟨0, 0, 3, 5⟩ : Bx) = x1 := Option.some.inj e1
  have hq := eqR4_same 0 0 3 5
  rw [exT_y]
  have hlen : exT.length = 2 := rfl
  rw [hlen]
  have K2 := Lib.hid S2.out.2
  have hbl := hbo.lt bx rfl
  clear hbo e0 e1 S2 HLy HNew HL hlen
  go_wp2_with fail
  go_ret
  exact ⟨rfl, thru K2.out (ba1 _ _)⟩

end

end Go.Proofs.YtdibdfalahjmbaaGreat.Text

namespace Go.Proofs.YtdibdfalahjmbaaGreat.Line

open Go.RowKit Go.Sort Go.Proofs.YtdibdfalahjmbaaGreat.Rect Go.Proofs.YtdibdfalahjmbaaGreat.More Go.Proofs.YtdibdfalahjmbaaGreat.Shelf Go.Proofs.YtdibdfalahjmbaaGreat.Space Go.Proofs.YtdibdfalahjmbaaGreat.Place

set_option linter.unusedVariables false

set_option linter.unusedSimpArgs false

def AtZ (w : World) (p : Addr) (z : Sz) : Prop := w.cell? p = some (.int .i64 z.wd) ∧ w.cell? ⟨p.block, p.off + 1, none⟩ = some (.int .i64 z.ht)

theorem AtZ.below {w w' : World} {B : Nat} {p : Addr} {z : Sz} (h : AtZ w p z) (hp : p.block < B) (k : Below B w w') : AtZ w' p z :=
  ⟨(k.cell (p := p) hp).trans h.1, (k.cell (p := ⟨p.block, p.off + 1, none⟩) hp).trans h.2⟩

def Sizes (w : World) (B : Nat) (A : Option Addr) (zs : List Sz) : Prop :=
  ∀ k z, zs[k]? = some z → ∃ ad : Addr, A = some ad ∧ ad.block < B ∧ AtZ w (ad.add (k * 2)) z

theorem Sizes.below {w w' : World} {B : Nat} {A : Option Addr} {zs : List Sz} (h : Sizes w B A zs) (k : Below B w w') : Sizes w' B A zs := fun i f hi => by
  obtain ⟨ad, e, hb, hc⟩ := h i f hi
  exact ⟨ad, e, hb, hc.below (by rw [block_of_add]; exact hb) k⟩

theorem Sizes.more {w : World} {B C : Nat} {A : Option Addr} {zs : List Sz} (h : Sizes w B A zs) (hc : B ≤ C) : Sizes w C A zs := fun i f hi => by
  obtain ⟨ad, e, hb, hx⟩ := h i f hi
  exact ⟨ad, e, by omega, hx⟩

theorem Sizes.thru {w w' : World} {A : Option Addr} {zs : List Sz} (h : Sizes w w.heap.size A zs) (k : Below w.heap.size w w') : Sizes w' w'.heap.size A zs := (h.below k).more k.size

theorem sizes_none (w : World) (B : Nat) : Sizes w B none [] := fun k z h => by simp at h

set_option maxRecDepth 100000 in
set_option maxHeartbeats 1000000 in
theorem refwide_any (A : Option Addr) (n c : Nat) (zs : List Sz) (w : World) (hn : n = zs.length) (hlen : n ≤ 1000000) (hx : Sizes w w.heap.size A zs) (hr : ∀ z ∈ zs, RightS z) :
    Calls Tryz.prog 38 #[.slice A n c] w fun e w' => e = .returned (.int .i64 (wideL zs)) ∧ Below w.heap.size w w' := by
  have HX := Lib.hid hx
  have HN := Lib.hid (⟨hn, hlen⟩ : n = zs.length ∧ n ≤ 1000000)
  have HR := Lib.hid hr
  clear hx hn hr hlen
  go_enter Tryz.func38, Tryz.ntmps38
  go_wp2_with fail
  go_loop [3, 4] (fun s i => ∃ k : Nat, k ≤ n ∧ i = .int .i64 (k : Int) ∧ s = .int .i64 (wideL (zs.take k))) (fun _ i => n - (intOf i).toNat)
  case atStart => exact ⟨0, Nat.zero_le _, rfl, by simp [wideL]⟩
  case round =>
    obtain ⟨k, hk, rfl, rfl⟩ := hrel
    by_cases hlt : k < n
    · have hki : (k : Int) < (n : Int) := by omega
      have hk0 : ¬ (k : Int) < 0 := by omega
      have hwk : IntKind.i64.wrap ((k : Int) + 1) = (k : Int) + 1 := by have := HN.out.2; exact IntWalk.i64_in _ (by omega)
      obtain ⟨z, hz⟩ : ∃ z, zs[k]? = some z := ⟨_, List.getElem?_eq_getElem (by rw [← HN.out.1]; exact hlt)⟩
      obtain ⟨ad, rfl, -, d0, d1⟩ := HX.out k z hz
      have h1 := HR.out z (List.mem_of_getElem? hz)
      have h2 := wideL_b (l := zs.take k) fun y hy => HR.out y (List.mem_of_mem_take hy)
      have h3 : (zs.take k).length ≤ 1000000 := by rw [List.length_take]; have := HN.out; omega
      have hw : IntKind.i64.wrap (wideL (zs.take k) + z.wd) = wideL (zs.take k) + z.wd := IntWalk.i64_in _ (by have := h1.w1; have := h1.w2; omega)
      have HT := Lib.hid (wideL_take hz)
      generalize wideL (zs.take k) = v at *
      clear h1 h2 h3 hz
      go_wp2_with fail
      go_round
      case rel => exact ⟨k + 1, by omega, by go_num, by rw [HT.out]⟩
      case measure => simp [intOf]; omega
    · obtain rfl : k = n := by omega
      have he : zs.take k = zs := List.take_of_length_le (by rw [← HN.out.1]; exact Nat.le_refl _)
      rw [he]
      go_wp2_with fail
      go_ret
      exact ⟨rfl, Below.refl _ _⟩

set_option maxRecDepth 100000 in
set_option maxHeartbeats 1000000 in
theorem refhigh_any (A : Option Addr) (n c : Nat) (zs : List Sz) (w : World) (hn : n = zs.length) (hlen : n ≤ 1000000) (hx : Sizes w w.heap.size A zs) :
    Calls Tryz.prog 53 #[.slice A n c] w fun e w' => e = .returned (.int .i64 (highL zs)) ∧ Below w.heap.size w w' := by
  have HX := Lib.hid hx
  have HN := Lib.hid (⟨hn, hlen⟩ : n = zs.length ∧ n ≤ 1000000)
  clear hx hn hlen
  go_enter Tryz.func53, Tryz.ntmps53
  go_wp2_with fail
  go_loop [3, 4] (fun s i => ∃ k : Nat, k ≤ n ∧ i = .int .i64 (k : Int) ∧ s = .int .i64 (highL (zs.take k))) (fun _ i => n - (intOf i).toNat)
  case atStart => exact ⟨0, Nat.zero_le _, rfl, by simp [highL]⟩
  case round =>
    obtain ⟨k, hk, rfl, rfl⟩ := hrel
    by_cases hlt : k < n
    · have hki : (k : Int) < (n : Int) := by omega
      have hk0 : ¬ (k : Int) < 0 := by omega
      have hwk : IntKind.i64.wrap ((k : Int) + 1) = (k : Int) + 1 := by have := HN.out.2; exact IntWalk.i64_in _ (by omega)
      obtain ⟨z, hz⟩ : ∃ z, zs[k]? = some z := ⟨_, List.getElem?_eq_getElem (by rw [← HN.out.1]; exact hlt)⟩
      obtain ⟨ad, rfl, -, d0, d1⟩ := HX.out k z hz
      have HT := Lib.hid (highL_take hz)
      generalize highL (zs.take k) = v at *
      clear hz
      by_cases hv : v < z.ht
      · have HV := Lib.hid hv
        go_wp2_with fail
        go_round
        case rel => exact ⟨k + 1, by omega, by go_num, by rw [HT.out, if_pos HV.out]⟩
        case measure => simp [intOf]; omega
      · have HV := Lib.hid hv
        go_wp2_with fail
        go_round
        case rel => exact ⟨k + 1, by omega, by go_num, by rw [HT.out, if_neg HV.out]⟩
        case measure => simp [intOf]; omega
    · obtain rfl : k = n := by omega
      have he : zs.take k = zs := List.take_of_length_le (by rw [← HN.out.1]; exact Nat.le_refl _)
      rw [he]
      go_wp2_with fail
      go_ret
      exact ⟨rfl, Below.refl _ _⟩

end Go.Proofs.YtdibdfalahjmbaaGreat.Line

namespace Go.Proofs.YtdibdfalahjmbaaGreat.Line

open Go.RowKit Go.Sort Go.Proofs.YtdibdfalahjmbaaGreat.Rect Go.Proofs.YtdibdfalahjmbaaGreat.More Go.Proofs.YtdibdfalahjmbaaGreat.Shelf Go.Proofs.YtdibdfalahjmbaaGreat.Space Go.Proofs.YtdibdfalahjmbaaGreat.Place

set_option linter.unusedVariables false

set_option linter.unusedSimpArgs false

def in47 (x : Int) : Bool := decide (-140737488355328 ≤ x) && decide (x ≤ 140737488355328)

theorem in47_iff {x : Int} : in47 x = true ↔ -140737488355328 ≤ x ∧ x ≤ 140737488355328 := by unfold in47; simp

def numsL (fs : List Fl) : List Int := fs.flatMap numsF

def nearL (fs : List Fl) (f t y : Int) : Bool := fs.all sideF && ([f, t, y] ++ numsL fs).all in47 && decide (f ≤ t)

theorem numsL_take {fs : List Fl} {k : Nat} {f : Fl} (h : fs[k]? = some f) : numsL (fs.take (k + 1)) = numsL (fs.take k) ++ numsF f := by
  unfold numsL
  rw [List.take_add_one, h, List.flatMap_append]
  simp

structure NearL (fs : List Fl) (f t y : Int) : Prop where
  h49 : fs.all near49 = true
  f1 : -140737488355328 ≤ f
  f2 : f ≤ 140737488355328
  t1 : -140737488355328 ≤ t
  t2 : t ≤ 140737488355328
  y1 : -140737488355328 ≤ y
  y2 : y ≤ 140737488355328
  ft : f ≤ t

theorem nearL_so {fs : List Fl} {f t y : Int} (h : nearL fs f t y = true) : NearL fs f t y := by
  unfold nearL at h
  simp only [Bool.and_eq_true, decide_eq_true_eq, List.all_append, List.all_cons, List.all_nil, Bool.and_true] at h
  obtain ⟨⟨hs, ⟨⟨h1, h2, h3⟩, hn⟩⟩, hft⟩ := h
  rw [in47_iff] at h1 h2 h3
  refine ⟨?_, h1.1, h1.2, h2.1, h2.2, h3.1, h3.2, hft⟩
  rw [List.all_eq_true]
  intro x hx
  have q : ∀ v ∈ numsF x, in47 v = true := fun v hv => List.all_eq_true.1 hn v (by unfold numsL; rw [List.mem_flatMap]; exact ⟨x, hx, hv⟩)
  have a1 := in47_iff.1 (q x.l (by simp [numsF]))
  have a2 := in47_iff.1 (q x.t (by simp [numsF]))
  have a3 := in47_iff.1 (q x.r (by simp [numsF]))
  have a4 := in47_iff.1 (q x.b (by simp [numsF]))
  exact near49_iff.2 ⟨by omega, by omega, by omega, by omega, by omega, by omega, by omega, by omega, sideF_iff.1 (List.all_eq_true.1 hs x hx)⟩

theorem all_out47 {xs : List Int} {k : Nat} (h : k < xs.length) {y : Int} (hy : xs.getD k 0 = y) (hb : in47 y = false) : xs.all in47 = false := by
  rw [List.all_eq_false]
  refine ⟨y, ?_, by rw [hb]; simp⟩
  rw [← hy, List.getD_eq_getElem?_getD, List.getElem?_eq_getElem h]
  exact List.getElem_mem _

theorem three_mine (w : World) (B : Nat) (hB : B ≤ w.heap.size) (a b c : Int) : Mine (w.alloc (.cells #[.int .i64 a, .int .i64 b, .int .i64 c] 3)) B (some ⟨w.heap.size, 0, none⟩) 3 3 [a, b, c] :=
  World.ownsRow_lit w #[.int .i64 a, .int .i64 b, .int .i64 c] 3 hB (by unfold maxLen; omega) rfl

theorem four_src {w : World} {g : Nat} {a b c d : Int} (h : w.heap[g]? = some (.cells #[.int .i64 a, .int .i64 b, .int .i64 c, .int .i64 d] 3)) : Src w (some ⟨g, 0, none⟩) 4 4 [a, b, c, d] := by
  obtain ⟨r0, r1, r2, r3⟩ := R4.of_block h
  refine ⟨rfl, fun e => (by cases e), fun k hk => ⟨_, rfl, ?_⟩⟩
  have hk : k < 4 := hk
  match k, hk with
  | 0, _ => exact r0
  | 1, _ => exact r1
  | 2, _ => exact r2
  | 3, _ => exact r3

def FourAt (a b c d : Int) (w : World) (v : Value) : Prop := ∃ g, v = .slice (some ⟨g, 0, none⟩) 4 4 ∧ w.heap[g]? = some (.cells #[.int .i64 a, .int .i64 b, .int .i64 c, .int .i64 d] 3)

theorem four_keeps (a b c d : Int) : Hold.Keeps (FourAt a b c d) := fun w w' u k ⟨g, e, h⟩ => ⟨g, e, (k.block g (lt_of_block h)).trans h⟩

set_option maxRecDepth 100000 in
set_option maxHeartbeats 2000000 in
theorem lnear_is (A : Option Addr) (n c : Nat) (fs : List Fl) (f t y : Int) (v : Bool) (w : World) (hn : n = fs.length) (hlen : n ≤ 1000) (hx : Floats w w.heap.size A fs) (hv : nearL fs f t y = v) :
    Calls Tryz.prog 12 #[.slice A n c, .int .i64 f, .int .i64 t, .int .i64 y] w fun e w' => e = .returned (.bool v) ∧ Below w.heap.size w w' := by
  have HX := Lib.hid hx
  have HN := Lib.hid (⟨hn, hlen⟩ : n = fs.length ∧ n ≤ 1000)
  have HV := Lib.hid hv
  clear hx hn hv
  go_enter Tryz.func12, Tryz.ntmps12
  go_upto_region 2 with fail
  generalize hW1 : World.alloc w _ = W
  obtain ⟨B, hB⟩ : ∃ B, w.heap.size = B := ⟨_, rfl⟩
  have k1 : Below w.heap.size w W := by rw [← hW1]; exact ba1 _ _
  have z1 : Mine W B (some ⟨B, 0, none⟩) 3 3 [f, t, y] := by rw [← hW1, ← hB]; exact three_mine w _ (Nat.le_refl _) _ _ _
  have S1 := Lib.hid (⟨k1, z1⟩ : Below w.heap.size w W ∧ Mine W B (some ⟨B, 0, none⟩) 3 3 [f, t, y])
  have HB := Lib.hid hB
  rw [hB]
  clear hW1 k1 z1 hB
  go_wp2_with fail
  go_loopw [9, 10] (fun u i wr => ∃ k : Nat, k ≤ n ∧ i = .int .i64 (k : Int) ∧ ∃ A9 c9 l9, u = .slice A9 l9 c9 ∧ Hid (l9 = 3 + k * 4 ∧ Mine wr B A9 l9 c9 ([f, t, y] ++ numsL (fs.take k)) ∧ (fs.take k).all sideF = true ∧ Below w.heap.size w wr)) (fun _ i _ => n - (intOf i).toNat)
  case atStart => exact ⟨0, Nat.zero_le _, rfl, _, _, 3, rfl, Lib.hid ⟨rfl, S1.out.2, by simp, S1.out.1⟩⟩
  case round =>
    obtain ⟨k, hk, rfl, A9, c9, l9, rfl, H⟩ := hrel
    by_cases hlt : k < n
    · have hki : (k : Int) < (n : Int) := by omega
      have hk0 : ¬ (k : Int) < 0 := by omega
      have hdd : decide ((k : Int) < (n : Int)) = true := decide_eq_true hki
      have hwk : IntKind.i64.wrap ((k : Int) + 1) = (k : Int) + 1 := IntWalk.i64_in _ (by omega)
      obtain ⟨x, hf⟩ : ∃ f, fs[k]? = some f := ⟨_, List.getElem?_eq_getElem (by rw [← HN.out.1]; exact hlt)⟩
      have HK := Lib.hid hf
      obtain ⟨ad, rfl, hab, d0, d1, d2, d3, d4⟩ := (HX.out.thru H.out.2.2.2) k x hf
      have HAT := Lib.hid (⟨d0, d1, d2, d3, d4⟩ : AtF wr (ad.add (k * 5)) x)
      clear hf
      go_upto_region 5 with fail
      have HAT2 := Lib.hid (fun w' (j : Below wr.heap.size wr w') => AtF.below HAT.out (by rw [block_of_add]; have h := block_lt_of_cell d0; rw [block_of_add] at h; exact h) j)
      clear d0 d1 d2 d3 d4 hab
      refine Hold.wp_region_hold [.val (.slice A9 l9 c9), .val (.slice (some ad) n c), .val (.int .i64 (k : Int)), .val (.pointer (some (ad.add (k * 5)))), .val (.pointer (some ⟨(ad.add (k * 5)).block, (ad.add (k * 5)).off + 1, none⟩)), .val (.pointer (some ⟨(ad.add (k * 5)).block, (ad.add (k * 5)).off + 1, none⟩)), .val (.int .i64 x.l), .val (.slice (some ad) n c), .val (.int .i64 (k : Int)), .val (.pointer (some (ad.add (k * 5)))), .val (.pointer (some ⟨(ad.add (k * 5)).block, (ad.add (k * 5)).off + 1, none⟩)), .val (.pointer (some ⟨(ad.add (k * 5)).block, (ad.add (k * 5)).off + 1 + 1, none⟩)), .val (.int .i64 x.t), .val (.slice (some ad) n c), .val (.int .i64 (k : Int)), .val (.pointer (some (ad.add (k * 5)))), .val (.pointer (some ⟨(ad.add (k * 5)).block, (ad.add (k * 5)).off + 1, none⟩)), .val (.pointer (some ⟨(ad.add (k * 5)).block, (ad.add (k * 5)).off + 1 + 2, none⟩)), .val (.int .i64 x.r), .val (.slice (some ad) n c), .val (.int .i64 (k : Int)), .val (.pointer (some (ad.add (k * 5)))), .val (.pointer (some ⟨(ad.add (k * 5)).block, (ad.add (k * 5)).off + 1, none⟩)), .val (.pointer (some ⟨(ad.add (k * 5)).block, (ad.add (k * 5)).off + 1 + 3, none⟩)), .val (.int .i64 x.b), .some (FourAt x.l x.t x.r x.b)] (by kernel_rfl) (by kernel_rfl) (by kernel_rfl) ?_ ?_
      · simp only [Hold.fill, Hold.Leave.value]
        refine ⟨?_, ?_, ?_, ?_, ?_, ?_, ?_, ?_, ?_, ?_, ?_, ?_, ?_, ?_, ?_, ?_, ?_, ?_, ?_, ?_, ?_, ?_, ?_, ?_, ?_, ?_, trivial⟩
        · intro gg w' hw hk
          go_simp
          exact ⟨rfl, rfl⟩
        · intro gg w' hw hk
          go_simp
          exact ⟨rfl, rfl⟩
        · intro gg w' hw hk
          go_simp
          exact ⟨rfl, rfl⟩
        · intro gg w' hw hk
          go_simp
          exact ⟨rfl, rfl⟩
        · intro gg w' hw hk
          go_simp
          exact ⟨rfl, rfl⟩
        · intro gg w' hw hk
          go_simp
          exact ⟨rfl, rfl⟩
        · intro gg w' hw hk
          have q := (HAT2.out w' hw).2.1
          go_simp
          exact ⟨rfl, rfl⟩
        · intro gg w' hw hk
          go_simp
          exact ⟨rfl, rfl⟩
        · intro gg w' hw hk
          go_simp
          exact ⟨rfl, rfl⟩
        · intro gg w' hw hk
          go_simp
          exact ⟨rfl, rfl⟩
        · intro gg w' hw hk
          go_simp
          exact ⟨rfl, rfl⟩
        · intro gg w' hw hk
          go_simp
          exact ⟨rfl, rfl⟩
        · intro gg w' hw hk
          have q := (HAT2.out w' hw).2.2.1
          go_simp
          exact ⟨rfl, rfl⟩
        · intro gg w' hw hk
          go_simp
          exact ⟨rfl, rfl⟩
        · intro gg w' hw hk
          go_simp
          exact ⟨rfl, rfl⟩
        · intro gg w' hw hk
          go_simp
          exact ⟨rfl, rfl⟩
        · intro gg w' hw hk
          go_simp
          exact ⟨rfl, rfl⟩
        · intro gg w' hw hk
          go_simp
          exact ⟨rfl, rfl⟩
        · intro gg w' hw hk
          have q := (HAT2.out w' hw).2.2.2.1
          go_simp
          exact ⟨rfl, rfl⟩
        · intro gg w' hw hk
          go_simp
          exact ⟨rfl, rfl⟩
        · intro gg w' hw hk
          go_simp
          exact ⟨rfl, rfl⟩
        · intro gg w' hw hk
          go_simp
          exact ⟨rfl, rfl⟩
        · intro gg w' hw hk
          go_simp
          exact ⟨rfl, rfl⟩
        · intro gg w' hw hk
          go_simp
          exact ⟨rfl, rfl⟩
        · intro gg w' hw hk
          have q := (HAT2.out w' hw).2.2.2.2
          go_simp
          exact ⟨rfl, rfl⟩
        · refine ⟨four_keeps _ _ _ _, fun gg w' hw hk => ?_⟩
          go_simp
          exact ⟨ba1 _ _, _, rfl, heap_alloc_new w' _⟩
      intro gg w4 k4 hgg
      simp only [Hold.fill, Hold.Leave.value, List.length_cons, List.length_nil, List.drop_succ_cons, List.drop_zero]
      obtain ⟨g4, q4, hg4⟩ := hgg 25 _ rfl
      rw [q4]
      have S4 := Lib.hid (⟨k4, H.out.2.1.below k4, hg4⟩ : Below wr.heap.size wr w4 ∧ Mine w4 B A9 l9 c9 ([f, t, y] ++ numsL (fs.take k)) ∧ w4.heap[g4]? = some (.cells #[.int .i64 x.l, .int .i64 x.t, .int .i64 x.r, .int .i64 x.b] 3))
      clear hgg q4 hg4 k4
      refine wpList_append_mine _ rfl (.tmp 22) (.tmp 47) rfl B A9 l9 c9 ([f, t, y] ++ numsL (fs.take k)) (by go_simp) S4.out.2.1 (some ⟨g4, 0, none⟩) 4 4 (numsF x) (by go_simp) (four_src S4.out.2.2) (by have := H.out.1; have := HN.out.2; omega) (by have := H.out.2.2.2.size; have := S4.out.1.size; have := HB.out; omega) ?_
      intro A5 c5 w5 hA
      have S5 := Lib.hid (⟨hA.1, hA.below S4.out.2.1 (thru H.out.2.2.2 S4.out.1) (by have := HB.out; omega) (by have := H.out.2.2.2.size; have := S4.out.1.size; omega)⟩ : Mine w5 B A5 (l9 + 4) c5 (([f, t, y] ++ numsL (fs.take k)) ++ numsF x) ∧ Below w.heap.size w w5)
      clear hA S4 HAT2
      obtain ⟨ad2, e2, hab, d0, d1, d2, d3, d4⟩ := (HX.out.thru S5.out.2) k x HK.out
      injection e2 with e2
      subst e2
      have HT := Lib.hid (numsL_take HK.out)
      have HL9 := Lib.hid (show l9 + 4 = 3 + (k + 1) * 4 by have := H.out.1; omega)
      go_simp
      obtain ⟨s, hs⟩ : ∃ s, x.s = s := ⟨_, rfl⟩
      rw [hs] at d0
      by_cases h1 : s = 1
      · have hb : (s != 1) = false := by simp [h1]
        have HS := Lib.hid (show sideF x = true from sideF_iff.2 (.inl (hs.trans h1)))
        clear h1 hs
        go_wp2_with fail
        go_roundw
        case rel => exact ⟨k + 1, by omega, by go_num, A5, c5, l9 + 4, rfl, Lib.hid ⟨HL9.out, by rw [HT.out, ← List.append_assoc]; exact S5.out.1, sides_take HK.out H.out.2.2.1 HS.out, S5.out.2⟩⟩
        case measure => simp [intOf]; omega
      · have hb : (s != 1) = true := by simp [h1]
        by_cases h2 : s = 2
        · have hb2 : (s != 2) = false := by simp [h2]
          have HS := Lib.hid (show sideF x = true from sideF_iff.2 (.inr (hs.trans h2)))
          clear h1 h2 hs
          go_wp2_with fail
          go_roundw
          case rel => exact ⟨k + 1, by omega, by go_num, A5, c5, l9 + 4, rfl, Lib.hid ⟨HL9.out, by rw [HT.out, ← List.append_assoc]; exact S5.out.1, sides_take HK.out H.out.2.2.1 HS.out, S5.out.2⟩⟩
          case measure => simp [intOf]; omega
        · have hb2 : (s != 2) = true := by simp [h2]
          have hvf : v = false := by rw [← HV.out]; unfold nearL; rw [sides_not HK.out (by unfold sideF; rw [hs]; simp [h1, h2])]; rfl
          subst hvf
          clear h1 h2 hs
          go_wp2_with fail
          go_ret
          exact ⟨rfl, S5.out.2⟩
    · obtain rfl : k = n := by omega
      have htk : fs.take k = fs := List.take_of_length_le (by rw [← HN.out.1]; exact Nat.le_refl _)
      have hm := H.out.2.1
      have hsd := H.out.2.2.1
      rw [htk] at hm hsd
      have HM := Lib.hid (⟨hm, hsd, H.out.2.2.2⟩ : Mine wr B A9 l9 c9 ([f, t, y] ++ numsL fs) ∧ fs.all sideF = true ∧ Below w.heap.size w wr)
      have hl9 := H.out.1
      clear htk hm hsd H
      obtain ⟨xs, hxs⟩ : ∃ xs, [f, t, y] ++ numsL fs = xs := ⟨_, rfl⟩
      have hv2 : (xs.all in47 && decide (f ≤ t)) = v := by rw [← HV.out]; unfold nearL; rw [HM.out.2.1, hxs]; rfl
      rw [hxs] at HM
      have HV2 := Lib.hid hv2
      have HX2 := Lib.hid (HM.out.1.nums)
      have HL2 := Lib.hid (HM.out.1.len)
      have hlb : l9 ≤ 5000 := by omega
      clear hv2 hxs hl9 HV
      go_wp2_with fail
      go_loopw [11] (fun i wq => ∃ j : Nat, j ≤ l9 ∧ i = .int .i64 (j : Int) ∧ wq = wr ∧ Hid ((xs.take j).all in47 = true)) (fun i _ => l9 - (intOf i).toNat)
      case atStart => exact ⟨0, Nat.zero_le _, rfl, rfl, Lib.hid (by simp)⟩
      case round =>
        obtain ⟨j, hj, rfl, rfl, G⟩ := hrel
        by_cases hlj : j < l9
        · have hji : (j : Int) < (l9 : Int) := by omega
          have hj0 : ¬ (j : Int) < 0 := by omega
          have hwj : IntKind.i64.wrap ((j : Int) + 1) = (j : Int) + 1 := IntWalk.i64_in _ (by omega)
          have hjx : j < xs.length := by have := HL2.out; omega
          obtain ⟨g, hA, hgl, hc⟩ := HX2.out j hjx
          obtain ⟨z, hz⟩ : ∃ z, xs.getD j 0 = z := ⟨_, rfl⟩
          rw [hz] at hc
          have HZ := Lib.hid (⟨hz, hjx⟩ : xs.getD j 0 = z ∧ j < xs.length)
          subst hA
          clear hz hjx
          by_cases q1 : z > 140737488355328
          · have hvf : v = false := by rw [← HV2.out, all_out47 HZ.out.2 HZ.out.1 (by rw [← Bool.not_eq_true, in47_iff]; omega)]; rfl
            subst hvf
            go_wp2_with fail
            go_ret
            exact ⟨rfl, HM.out.2.2⟩
          · by_cases q2 : z < -140737488355328
            · have hvf : v = false := by rw [← HV2.out, all_out47 HZ.out.2 HZ.out.1 (by rw [← Bool.not_eq_true, in47_iff]; omega)]; rfl
              subst hvf
              go_wp2_with fail
              go_ret
              exact ⟨rfl, HM.out.2.2⟩
            · have HJ := Lib.hid (show (xs.take (j + 1)).all in47 = true by rw [take_next xs j HZ.out.2, List.all_append, G.out, HZ.out.1]; simp [in47_iff]; omega)
              go_wp2_with fail
              go_roundw
              case rel => exact ⟨j + 1, by omega, by go_num, by first | trivial | rfl, HJ⟩
              case measure => simp [intOf]; omega
        · obtain rfl : j = l9 := by omega
          have hall : xs.all in47 = true := by have := G.out; rwa [List.take_of_length_le (by rw [HL2.out]; exact Nat.le_refl _)] at this
          have hvv : decide (f ≤ t) = v := by rw [← HV2.out, hall]; rfl
          have HVV := Lib.hid hvv
          clear hall hvv
          go_wp2_with fail
          go_ret
          exact ⟨by rw [← HVV.out]; congr 2, HM.out.2.2⟩

section

variable {S : World → (Nat → Prop) → Addr → List Fl → Prop}

end

end Go.Proofs.YtdibdfalahjmbaaGreat.Line

namespace Go.Proofs.YtdibdfalahjmbaaGreat.Text

open Go.RowKit Go.Sort Go.Proofs.YtdibdfalahjmbaaGreat.Rect Go.Proofs.YtdibdfalahjmbaaGreat.More Go.Proofs.YtdibdfalahjmbaaGreat.Shelf Go.Proofs.YtdibdfalahjmbaaGreat.Space Go.Proofs.YtdibdfalahjmbaaGreat.Place Go.Proofs.YtdibdfalahjmbaaGreat.Line

set_option linter.unusedVariables false

set_option linter.unusedSimpArgs false

def okT (fs : List Fl) (f t y : Int) (its : List It) : Bool := decide (fs.length ≤ 12) && decide (its.length ≤ 30) && nearL fs f t y && its.all rightI

theorem nearL_Z {fs : List Fl} {f t y : Int} (h : nearL fs f t y = true) : Lo 140737488355328 ⟨fs, f, t, y, 0, []⟩ := by
  have h2 := nearL_so h
  unfold nearL at h
  simp only [Bool.and_eq_true, decide_eq_true_eq, List.all_append, List.all_cons, List.all_nil, Bool.and_true] at h
  obtain ⟨⟨hs, ⟨-, hn⟩⟩, -⟩ := h
  refine ⟨fun x hx => ?_, h2.f1, h2.f2, h2.t1, h2.t2, h2.ft, h2.y1, h2.y2, fun z hz => absurd hz List.not_mem_nil, fun e => absurd rfl e, fun e => absurd rfl e⟩
  have q : ∀ v ∈ numsF x, in47 v = true := fun v hv => List.all_eq_true.1 hn v (by unfold numsL; rw [List.mem_flatMap]; exact ⟨x, hx, hv⟩)
  have a1 := in47_iff.1 (q x.l (by simp [numsF]))
  have a2 := in47_iff.1 (q x.t (by simp [numsF]))
  have a3 := in47_iff.1 (q x.r (by simp [numsF]))
  have a4 := in47_iff.1 (q x.b (by simp [numsF]))
  exact ⟨sideF_iff.1 (List.all_eq_true.1 hs x hx), by omega, by omega, by omega, by omega, by omega, by omega, by omega, by omega⟩

section

variable {S : World → (Nat → Prop) → Addr → List Fl → Prop}

set_option maxRecDepth 100000 in
set_option maxHeartbeats 1000000 in
theorem tbegin_no (A : Option Addr) (n c : Nat) (fs : List Fl) (f t y : Int) (AI : Option Addr) (ni ci : Nat) (its : List It) (w : World) (hn : n = fs.length) (hm : n ≤ 9223372036854775807) (hx : Floats w w.heap.size A fs) (hni : ni = its.length) (hmi : ni ≤ 9223372036854775807) (hxi : Items w w.heap.size AI its) (hv : okT fs f t y its = false) :
    Calls Tryz.prog 4 #[.slice A n c, .int .i64 f, .int .i64 t, .int .i64 y, .slice AI ni ci] w fun r w' => r = .returned (.pointer none) ∧ Below w.heap.size w w' := by
  unfold okT at hv
  rw [← hn, ← hni] at hv
  by_cases h12 : n ≤ 12
  · have m12 : ¬ (12 : Int) < (n : Int) := by omega
    by_cases h30 : ni ≤ 30
    · have m30 : ¬ (30 : Int) < (ni : Int) := by omega
      rw [decide_eq_true h12, decide_eq_true h30] at hv
      simp only [Bool.true_and] at hv
      cases hne : nearL fs f t y with
      | false =>
        have HNe := Lib.hid (lnear_is A n c fs f t y false w hn (by omega) hx hne)
        clear hn hx hv hne hni hmi hxi hm h12 h30
        go_enter Tryz.func4, Tryz.ntmps4
        go_wp2_with (first
          | (go_at_call 12; refine HNe.out.mono ?_; rintro e w1 ⟨rfl, k1⟩; have K1 := Lib.hid k1; clear k1))
        go_ret
        exact ⟨rfl, K1.out⟩
      | true =>
        have hri : its.all rightI = false := by rw [hne] at hv; exact hv
        have HNe := Lib.hid (lnear_is A n c fs f t y true w hn (by omega) hx hne)
        have HRi := Lib.hid (fun w1 (k : Below w.heap.size w w1) => tright_is AI ni ci its false w1 hni hmi (hxi.thru k) hri)
        clear hn hx hv hne hni hmi hxi hm h12 h30 hri
        go_enter Tryz.func4, Tryz.ntmps4
        go_wp2_with (first
          | (go_at_call 12; refine HNe.out.mono ?_; rintro e w1 ⟨rfl, k1⟩; have K1 := Lib.hid k1; clear k1)
          | (go_at_call 13; refine (HRi.out _ K1.out).mono ?_; rintro e w2 ⟨rfl, k2⟩; have K2 := Lib.hid (thru K1.out k2); clear k2))
        go_ret
        exact ⟨rfl, K2.out⟩
    · have m30 : (30 : Int) < (ni : Int) := by omega
      clear hn hx hv hni hmi hxi hm h12 h30
      go_enter Tryz.func4, Tryz.ntmps4
      go_wp2_with fail
      go_ret
      exact ⟨rfl, Below.refl _ _⟩
  · have m12 : (12 : Int) < (n : Int) := by omega
    clear hn hx hv hni hmi hxi hm h12
    go_enter Tryz.func4, Tryz.ntmps4
    go_wp2_with fail
    go_ret
    exact ⟨rfl, Below.refl _ _⟩

structure OkT (fs : List Fl) (f t y : Int) (its : List It) : Prop where
  n1 : fs.length ≤ 12
  n2 : its.length ≤ 30
  lo : Lo 140737488355328 ⟨fs, f, t, y, 0, []⟩
  nr : nearL fs f t y = true
  ri : ∀ x ∈ its, RightI x

theorem okT_so {fs : List Fl} {f t y : Int} {its : List It} (h : okT fs f t y its = true) : OkT fs f t y its := by
  unfold okT at h
  simp only [Bool.and_eq_true, decide_eq_true_eq] at h
  obtain ⟨⟨⟨h1, h2⟩, h3⟩, h4⟩ := h
  exact ⟨h1, h2, nearL_Z h3, h3, rightI_all h4⟩

set_option maxRecDepth 100000 in
set_option maxHeartbeats 1000000 in
theorem tbegin_any (hO : SpaceOk S) (A : Option Addr) (n c : Nat) (fs : List Fl) (f t y : Int) (AI : Option Addr) (ni ci : Nat) (its : List It) (w : World) (hn : n = fs.length) (hx : Floats w w.heap.size A fs) (hni : ni = its.length) (hxi : Items w w.heap.size AI its) (hv : okT fs f t y its = true) :
    Calls Tryz.prog 4 #[.slice A n c, .int .i64 f, .int .i64 t, .int .i64 y, .slice AI ni ci] w fun r w' => (∃ p F, r = .returned (.pointer (some p)) ∧ S w' F p fs ∧ ∀ k, F k → w.heap.size ≤ k) ∧ Below w.heap.size w w' := by
  have ho := okT_so hv
  have h12 := ho.n1
  have h30 := ho.n2
  have m12 : ¬ (12 : Int) < (n : Int) := by omega
  have m30 : ¬ (30 : Int) < (ni : Int) := by omega
  have HNe := Lib.hid (lnear_is A n c fs f t y true w hn (by omega) hx ho.nr)
  have hri : its.all rightI = true := by unfold okT at hv; simp only [Bool.and_eq_true] at hv; exact hv.2
  have HRi := Lib.hid (fun w1 (k : Below w.heap.size w w1) => tright_is AI ni ci its true w1 hni (by omega) (hxi.thru k) hri)
  have h49 := (nearL_so ho.nr).h49
  have HBe := Lib.hid (fun w1 (k : Below w.heap.size w w1) => pbegin_any hO A n c fs w1 hn (by omega) (hx.thru k) (near49_near h49) (near49_side h49))
  clear hn hx hni hxi hv ho h12 h30 hri h49
  go_enter Tryz.func4, Tryz.ntmps4
  go_wp2_with (first
    | (go_at_call 12; refine HNe.out.mono ?_; rintro e w1 ⟨rfl, k1⟩; have K1 := Lib.hid k1; clear k1)
    | (go_at_call 13; refine (HRi.out _ K1.out).mono ?_; rintro e w2 ⟨rfl, k2⟩; have K2 := Lib.hid (thru K1.out k2); clear k2)
    | (go_at_call 14; refine (HBe.out _ K2.out).mono ?_; rintro e w3 ⟨⟨p, F, rfl, hL, hF⟩, k3⟩; have HL := Lib.hid (⟨hL, (fun k q => Nat.le_trans K2.out.size (hF k q)), thru K2.out k3⟩ : S w3 F p fs ∧ (∀ k, F k → w.heap.size ≤ k) ∧ Below w.heap.size w w3); clear hL hF k3))
  go_ret
  exact ⟨⟨p, F, rfl, HL.out.1, HL.out.2.1⟩, HL.out.2.2⟩

end

end Go.Proofs.YtdibdfalahjmbaaGreat.Text

namespace Go.Proofs.YtdibdfalahjmbaaGreat.Text

open Go.RowKit Go.Sort Go.Proofs.YtdibdfalahjmbaaGreat.Rect Go.Proofs.YtdibdfalahjmbaaGreat.More Go.Proofs.YtdibdfalahjmbaaGreat.Shelf Go.Proofs.YtdibdfalahjmbaaGreat.Space Go.Proofs.YtdibdfalahjmbaaGreat.Place Go.Proofs.YtdibdfalahjmbaaGreat.Line

set_option linter.unusedVariables false

set_option linter.unusedSimpArgs false

structure Has (w : World) (b : Nat) (bx : Nat) (A3 : Option Addr) (c3 n : Nat) (s : Ly) : Prop where
  at' : RowAt w b [.slice (some ⟨bx, 0, none⟩) n n, .slice A3 s.out.length c3, .int .i64 s.m.y]
  bo : MineE encB 42 w 0 (some ⟨bx, 0, none⟩) n n s.box
  li : MineE encL 47 w 0 A3 s.out.length c3 (s.out.map fun e => lnOf e.1)

theorem Has.below {w w' : World} {b bx : Nat} {A3 : Option Addr} {c3 n : Nat} {s : Ly} (h : Has w b bx A3 c3 n s) (k : Below w.heap.size w w') : Has w' b bx A3 c3 n s := ⟨h.at'.below (by simp) k, h.bo.below k, h.li.below k⟩

theorem Has.but {w w' : World} {b bx : Nat} {A3 : Option Addr} {c3 n : Nat} {s : Ly} {G : Nat → Prop} (h : Has w b bx A3 c3 n s) (k : But G w w') (h1 : ¬ G b) (h2 : ¬ G bx) (h3 : ∀ j, blk A3 = some j → ¬ G j) : Has w' b bx A3 c3 n s :=
  ⟨h.at'.but (by simp) k h1, mineE_but h.bo k (fun j e => by injection e with e; rw [← e]; exact h2), mineE_but h.li k h3⟩

theorem Has.cells {w : World} {b bx : Nat} {A3 : Option Addr} {c3 n : Nat} {s : Ly} (h : Has w b bx A3 c3 n s) : w.cell? ⟨b, 0, none⟩ = some (.slice (some ⟨bx, 0, none⟩) n n) ∧ w.cell? ⟨b, 1, none⟩ = some (.slice A3 s.out.length c3) ∧ w.cell? ⟨b, 2, none⟩ = some (.int .i64 s.m.y) := ⟨h.at'.at' 0, h.at'.at' 1, h.at'.at' 2⟩

theorem Has.box {w : World} {b bx : Nat} {A3 : Option Addr} {c3 n : Nat} {s : Ly} (h : Has w b bx A3 c3 n s) {k : Nat} (hk : k < n) :
    w.cell? ⟨bx, k * 4, none⟩ = some (.int .i64 (bxAt s.box k).l) ∧ w.cell? ⟨bx, k * 4 + 1, none⟩ = some (.int .i64 (bxAt s.box k).t) ∧ w.cell? ⟨bx, k * 4 + 2, none⟩ = some (.int .i64 (bxAt s.box k).r) ∧ w.cell? ⟨bx, k * 4 + 3, none⟩ = some (.int .i64 (bxAt s.box k).b) := by
  obtain ⟨x, hx, c0, c1, c2, c3, -⟩ := box_cells h.bo hk
  have e : bxAt s.box k = x := by unfold bxAt; rw [List.getD_eq_getElem?_getD, hx]; rfl
  rw [e]
  exact ⟨c0, c1, c2, c3⟩

theorem Has.line {w : World} {b bx : Nat} {A3 : Option Addr} {c3 n : Nat} {s : Ly} (h : Has w b bx A3 c3 n s) {j : Nat} {e : Mk × List Nat} (hj : s.out[j]? = some e) : ∃ g, A3 = some ⟨g, 0, none⟩ ∧
    w.cell? ⟨g, j * 6, none⟩ = some (.int .i64 (lnOf e.1).l) ∧ w.cell? ⟨g, j * 6 + 1, none⟩ = some (.int .i64 (lnOf e.1).t) ∧ w.cell? ⟨g, j * 6 + 2, none⟩ = some (.int .i64 (lnOf e.1).r) ∧ w.cell? ⟨g, j * 6 + 3, none⟩ = some (.int .i64 (lnOf e.1).b) ∧ w.cell? ⟨g, j * 6 + 4, none⟩ = some (.int .i64 (lnOf e.1).a) ∧ w.cell? ⟨g, j * 6 + 5, none⟩ = some (.int .i64 (lnOf e.1).w) := by
  have hl := (List.getElem?_eq_some_iff.1 hj).1
  obtain ⟨g, e0, -⟩ := h.li.form (by omega)
  have hli := h.li
  rw [e0] at hli
  have ha : (s.out.map fun e => lnOf e.1)[j]? = some (lnOf e.1) := by rw [List.getElem?_map, hj]; rfl
  exact ⟨g, e0, hli.at j _ ha 0 (by show 0 < 6; omega), hli.at j _ ha 1 (by show 1 < 6; omega), hli.at j _ ha 2 (by show 2 < 6; omega), hli.at j _ ha 3 (by show 3 < 6; omega), hli.at j _ ha 4 (by show 4 < 6; omega), hli.at j _ ha 5 (by show 5 < 6; omega)⟩

section

variable {S : World → (Nat → Prop) → Addr → List Fl → Prop}

theorem lay_law (hO : SpaceOk S) (hP : PlaceOk S) {fs : List Fl} {f t y : Int} {its : List It} (ho : OkT fs f t y its) {js : List It} (hj : ∀ x ∈ js, RightI x) (hjl : js.length ≤ 30) (w : World) (F : Nat → Prop) (p : Addr) (A0 : Option Addr) (c0 : Nat) (hs : S w F p fs) (hx : MineE encI 65 w 0 A0 js.length c0 js) (hxF : ∀ j, blk A0 = some j → ¬ F j) :
    Calls Tryz.prog 6 #[.pointer (some p), .agg #[.int .i64 f, .int .i64 t], .int .i64 y, .slice A0 js.length c0] w fun e w' =>
      (∃ bx A3 c3 F', e = .returned (LaidV bx js.length A3 c3 (layD fs f t y js)) ∧ LaidOut S w.heap.size w' F F' p bx A3 c3 js.length (layD fs f t y js)) ∧ But F w w' :=
  klay_any hO hP w F p fs f t y 140737488355328 A0 c0 js hs hx hxF hj (by omega) ho.lo (by omega) (by have := ho.n1; omega)

end

structure Facts (fs : List Fl) (f t y : Int) (its : List It) (s : Ly) : Prop where
  T : Told fs f t y its its.length s
  wait : s.wait = []
  row : s.row = []
  az : s.m.az = []
  bl : s.box.length = its.length
  lo : Lo (140737488355328 + 2147483648 * (its.length : Int)) s.m
  sz : Sized its its.length s

theorem facts_of {fs : List Fl} {f t y : Int} {js : List It} (hl : Lo 140737488355328 ⟨fs, f, t, y, 0, []⟩) (hj : ∀ x ∈ js, RightI x) (hn : js.length ≤ 30) : Facts fs f t y js (layD fs f t y js) := by
  have hz : (140737488355328 : Int) + 2147483648 * (js.length : Int) ≤ 140737488355328 + 140000000000000 := by omega
  obtain ⟨h1, h2, h3, h4, h5⟩ := layD_ends hj hz hl
  exact ⟨layD_told hj hz hl, h1, h2, h3, h4, h5, layD_sized hj hz hl⟩

theorem Facts.atoms {fs : List Fl} {f t y : Int} {its : List It} {s : Ly} (h : Facts fs f t y its s) : atomsK its its.length = s.out.flatMap fun e => e.2 := by
  have := h.T.at'
  rw [h.row, List.append_nil] at this
  exact this

end Go.Proofs.YtdibdfalahjmbaaGreat.Text

namespace Go.Proofs.YtdibdfalahjmbaaGreat.Line

open Go.RowKit Go.Sort Go.Proofs.YtdibdfalahjmbaaGreat.Rect Go.Proofs.YtdibdfalahjmbaaGreat.More Go.Proofs.YtdibdfalahjmbaaGreat.Shelf Go.Proofs.YtdibdfalahjmbaaGreat.Space Go.Proofs.YtdibdfalahjmbaaGreat.Place

set_option linter.unusedVariables false

set_option linter.unusedSimpArgs false

abbrev Mv (A : Option Addr) (n c : Nat) (A2 : Option Addr) (n2 c2 : Nat) (m : Mk) : Value := .agg #[.slice A n c, .int .i64 m.f, .int .i64 m.t, .int .i64 m.y, .int .i64 m.top, .slice A2 n2 c2]

def AtM (w : World) (b : Nat) (A : Option Addr) (n c : Nat) (A2 : Option Addr) (n2 c2 : Nat) (m : Mk) : Prop :=
  w.cell? ⟨b, 0, none⟩ = some (.slice A n c) ∧ w.cell? ⟨b, 1, none⟩ = some (.int .i64 m.f) ∧ w.cell? ⟨b, 2, none⟩ = some (.int .i64 m.t) ∧ w.cell? ⟨b, 3, none⟩ = some (.int .i64 m.y) ∧ w.cell? ⟨b, 4, none⟩ = some (.int .i64 m.top) ∧ w.cell? ⟨b, 5, none⟩ = some (.slice A2 n2 c2)

section

variable {A A2 : Option Addr} {n c n2 c2 : Nat} {m : Mk}

theorem AtM.below {w w' : World} {b : Nat} (h : AtM w b A n c A2 n2 c2 m) (k : Below w.heap.size w w') : AtM w' b A n c A2 n2 c2 m := by
  obtain ⟨h0, h1, h2, h3, h4, h5⟩ := h
  have hb := block_lt_of_cell h0
  exact ⟨(k.cell (p := ⟨b, 0, none⟩) hb).trans h0, (k.cell (p := ⟨b, 1, none⟩) hb).trans h1, (k.cell (p := ⟨b, 2, none⟩) hb).trans h2, (k.cell (p := ⟨b, 3, none⟩) hb).trans h3, (k.cell (p := ⟨b, 4, none⟩) hb).trans h4, (k.cell (p := ⟨b, 5, none⟩) hb).trans h5⟩

theorem AtM.block {w : World} {b : Nat} (h : AtM w b A n c A2 n2 c2 m) : b < w.heap.size := block_lt_of_cell h.1

theorem atM_boxed (w : World) (T : TypeId) : AtM (w.alloc (.cells #[.slice A n c, .int .i64 m.f, .int .i64 m.t, .int .i64 m.y, .int .i64 m.top, .slice A2 n2 c2] T)) w.heap.size A n c A2 n2 c2 m := by
  refine ⟨?_, ?_, ?_, ?_, ?_, ?_⟩ <;> simp [go_sem]

end

structure MkIn (w : World) (A : Option Addr) (n c : Nat) (A2 : Option Addr) (n2 c2 : Nat) (m : Mk) : Prop where
  hn : n = m.fs.length
  hlen : n ≤ 1000000
  hx : Floats w w.heap.size A m.fs
  hn2 : n2 = m.az.length
  hlen2 : n2 ≤ 1000000
  hx2 : Sizes w w.heap.size A2 m.az
  ha : ∀ z ∈ m.az, RightS z
  ht : -1125899906842624 ≤ m.top ∧ m.top ≤ 1125899906842624

theorem MkIn.thru {w w' : World} {A A2 : Option Addr} {n c n2 c2 : Nat} {m : Mk} (h : MkIn w A n c A2 n2 c2 m) (k : Below w.heap.size w w') : MkIn w' A n c A2 n2 c2 m :=
  ⟨h.hn, h.hlen, h.hx.thru k, h.hn2, h.hlen2, h.hx2.thru k, h.ha, h.ht⟩

set_option maxRecDepth 100000 in
set_option maxHeartbeats 1000000 in
theorem refbox_any (A : Option Addr) (n c : Nat) (A2 : Option Addr) (n2 c2 : Nat) (m : Mk) (w : World) (h : MkIn w A n c A2 n2 c2 m) :
    Calls Tryz.prog 37 #[Mv A n c A2 n2 c2 m] w fun e w' => e = .returned (.agg #[.int .i64 m.l, .int .i64 m.top, .int .i64 m.r, .int .i64 m.b]) ∧ Below w.heap.size w w' := by
  obtain ⟨hn, hlen, hx, hn2, hlen2, hx2, ha, ht⟩ := h
  have hb := highL_b ha
  have HHi := Lib.hid (fun w1 (k : Below w.heap.size w w1) => refhigh_any A2 n2 c2 m.az w1 hn2 hlen2 (hx2.thru k))
  have HFr := Lib.hid (fun w1 (k : Below w.heap.size w w1) => reffree_any A n c m.fs m.f m.t m.top (highL m.az) w1 hn hlen (hx.thru k) ⟨by omega, by omega⟩ (by omega))
  have hw : IntKind.i64.wrap (m.top + highL m.az) = m.b := IntWalk.i64_in _ (by omega)
  rw [show max m.f (bandL m.fs m.top (m.top + highZ (highL m.az))) = m.l from rfl, show min m.t (bandR m.fs m.top (m.top + highZ (highL m.az))) = m.r from rfl] at HFr
  have HW := Lib.hid hw
  generalize highL m.az = hi at *
  generalize m.l = ml at *
  generalize m.r = mr at *
  generalize m.b = mb at *
  clear hn hlen hx hn2 hlen2 hx2 ha ht hb hw
  go_enter Tryz.func37, Tryz.ntmps37
  go_upto_region 1 with fail
  generalize hW1 : World.alloc w _ = W1
  obtain ⟨b0, hb0⟩ : ∃ b0, w.heap.size = b0 := ⟨_, rfl⟩
  have k1 : Below w.heap.size w W1 := by rw [← hW1]; exact ba1 _ _
  have s1 : W1.heap.size = b0 + 1 := by rw [← hW1, ← hb0]; simp
  have a1 : AtM W1 b0 A n c A2 n2 c2 m := by rw [← hW1, ← hb0]; exact atM_boxed _ _
  clear hW1
  generalize hW2 : World.alloc W1 _ = W2
  have k2 : Below W1.heap.size W1 W2 := by rw [← hW2]; exact ba1 _ _
  have z2 : W2.heap[b0 + 1]? = some (.cells #[.int .i64 0, .int .i64 0, .int .i64 0, .int .i64 0] 44) := by rw [← hW2, ← s1]; exact heap_alloc_new W1 _
  clear hW2
  rw [hb0]
  obtain ⟨b1, hb1⟩ : ∃ b1, b0 + 1 = b1 := ⟨_, rfl⟩
  rw [hb1] at s1 z2
  rw [hb1]
  have S2 := Lib.hid (⟨thru k1 k2, a1.below k2, z2, by omega⟩ : Below w.heap.size w W2 ∧ AtM W2 b0 A n c A2 n2 c2 m ∧ W2.heap[b1]? = some (.cells #[.int .i64 0, .int .i64 0, .int .i64 0, .int .i64 0] 44) ∧ w.heap.size ≤ b1)
  clear k1 a1 k2 z2 s1 hb0 hb1
  have HA := Lib.hid (fun w' (j : Below W2.heap.size W2 w') => S2.out.2.1.below j)
  have HB := Lib.hid (fun w' (j : Below W2.heap.size W2 w') => thru S2.out.1 j)
  refine HoldAll.wp_region_hold_all [.val (.pointer (some ⟨b0, 0, none⟩)), .val (.slice A n c), .val (.pointer (some ⟨b0, 1, none⟩)), .val (.int .i64 m.f), .val (.pointer (some ⟨b0, 2, none⟩)), .val (.int .i64 m.t), .val (.pointer (some ⟨b0, 4, none⟩)), .val (.int .i64 m.top), .val (.pointer (some ⟨b0, 5, none⟩)), .val (.slice A2 n2 c2), .val (.int .i64 hi), .val (.tuple #[.int .i64 ml, .int .i64 mr]), .val (.tuple #[.int .i64 ml, .int .i64 mr]), .val (.int .i64 ml), .val (.int .i64 mr), .val (.int .i64 ml), .val (.int .i64 mr)] (by kernel_rfl) (by kernel_rfl) (by kernel_rfl) ?_ ?_
  · simp only [Hold.fill, Hold.Leave.value]
    refine ⟨?_, ?_, ?_, ?_, ?_, ?_, ?_, ?_, ?_, ?_, ?_, ?_, ?_, ?_, ?_, ?_, ?_, trivial⟩
    · intro gg w' hw hk
      go_simp
      exact ⟨rfl, rfl⟩
    · intro gg w' hw hk
      have q := (HA.out w' hw).1
      go_simp
      exact ⟨rfl, rfl⟩
    · intro gg w' hw hk
      go_simp
      exact ⟨rfl, rfl⟩
    · intro gg w' hw hk
      have q := (HA.out w' hw).2.1
      go_simp
      exact ⟨rfl, rfl⟩
    · intro gg w' hw hk
      go_simp
      exact ⟨rfl, rfl⟩
    · intro gg w' hw hk
      have q := (HA.out w' hw).2.2.1
      go_simp
      exact ⟨rfl, rfl⟩
    · intro gg w' hw hk
      go_simp
      exact ⟨rfl, rfl⟩
    · intro gg w' hw hk
      have q := (HA.out w' hw).2.2.2.2.1
      go_simp
      exact ⟨rfl, rfl⟩
    · intro gg w' hw hk
      go_simp
      exact ⟨rfl, rfl⟩
    · intro gg w' hw hk
      have q := (HA.out w' hw).2.2.2.2.2
      go_simp
      exact ⟨rfl, rfl⟩
    · intro gg w' hw hk
      go_simp
      exact Hold.stays_call (HHi.out w' (HB.out w' hw))
    · intro gg w' hw hk
      go_simp
      exact Hold.stays_call (HFr.out w' (HB.out w' hw))
    · intro gg w' hw hk
      go_simp
      exact ⟨rfl, rfl⟩
    · intro gg w' hw hk
      go_simp
      exact ⟨rfl, rfl⟩
    · intro gg w' hw hk
      go_simp
      exact ⟨rfl, rfl⟩
    · intro gg w' hw hk
      go_simp
      exact ⟨rfl, rfl⟩
    · intro gg w' hw hk
      go_simp
      exact ⟨rfl, rfl⟩
  intro gg w3 k3 hgg
  clear hgg
  simp only [Hold.fill, Hold.Leave.value]
  have S3 := Lib.hid (⟨HB.out _ k3, HA.out _ k3, (k3.block b1 (lt_of_block S2.out.2.2.1)).trans S2.out.2.2.1⟩ : Below w.heap.size w w3 ∧ AtM w3 b0 A n c A2 n2 c2 m ∧ w3.heap[b1]? = some (.cells #[.int .i64 0, .int .i64 0, .int .i64 0, .int .i64 0] 44))
  clear k3 HA HB HFr
  go_simp
  go_upto_region 2 with fail
  have HA := Lib.hid (fun w' (j : Below w3.heap.size w3 w') => S3.out.2.1.below j)
  have HB := Lib.hid (fun w' (j : Below w3.heap.size w3 w') => thru S3.out.1 j)
  refine Hold.wp_region_hold [.val (.int .i64 ml), .val (.pointer (some ⟨b0, 4, none⟩)), .val (.int .i64 m.top), .val (.int .i64 mr), .val (.pointer (some ⟨b0, 4, none⟩)), .val (.int .i64 m.top), .val (.pointer (some ⟨b0, 5, none⟩)), .val (.slice A2 n2 c2), .val (.int .i64 hi), .val (.int .i64 mb), .val (.agg #[.int .i64 ml, .int .i64 m.top, .int .i64 mr, .int .i64 mb])] (by kernel_rfl) (by kernel_rfl) (by kernel_rfl) ?_ ?_
  · simp only [Hold.fill, Hold.Leave.value]
    refine ⟨?_, ?_, ?_, ?_, ?_, ?_, ?_, ?_, ?_, ?_, ?_, trivial⟩
    · intro gg w' hw hk
      go_simp
      exact ⟨rfl, rfl⟩
    · intro gg w' hw hk
      go_simp
      exact ⟨rfl, rfl⟩
    · intro gg w' hw hk
      have q := (HA.out w' hw).2.2.2.2.1
      go_simp
      exact ⟨rfl, rfl⟩
    · intro gg w' hw hk
      go_simp
      exact ⟨rfl, rfl⟩
    · intro gg w' hw hk
      go_simp
      exact ⟨rfl, rfl⟩
    · intro gg w' hw hk
      have q := (HA.out w' hw).2.2.2.2.1
      go_simp
      exact ⟨rfl, rfl⟩
    · intro gg w' hw hk
      go_simp
      exact ⟨rfl, rfl⟩
    · intro gg w' hw hk
      have q := (HA.out w' hw).2.2.2.2.2
      go_simp
      exact ⟨rfl, rfl⟩
    · intro gg w' hw hk
      go_simp
      exact Hold.stays_call (HHi.out w' (HB.out w' hw))
    · intro gg w' hw hk
      have q := HW.out
      go_simp
      exact ⟨rfl, rfl⟩
    · intro gg w' hw hk
      go_simp
      exact ⟨rfl, rfl⟩
  intro gg w4 k4 hgg
  clear hgg
  simp only [Hold.fill, Hold.Leave.value, List.length_cons, List.length_nil, List.drop_succ_cons, List.drop_zero]
  have S4 := Lib.hid (⟨HB.out _ k4, (k4.block b1 (lt_of_block S3.out.2.2)).trans S3.out.2.2⟩ : Below w.heap.size w w4 ∧ w4.heap[b1]? = some (.cells #[.int .i64 0, .int .i64 0, .int .i64 0, .int .i64 0] 44))
  clear k4 HA HB
  have hb2 : w.heap.size ≤ b1 := S2.out.2.2.2
  obtain ⟨r0, r1, r2, r3⟩ := R4.of_block S4.out.2
  obtain ⟨q0, q1, q2, q3⟩ := free4 S4.out.2
  go_simp
  go_wp2_with fail
  exact bodyPost_ret (v := .agg #[.int .i64 ml, .int .i64 m.top, .int .i64 mr, .int .i64 mb]) (by simp [results, Tryz.results37, go_sem, r0, r1, r2, r3]) rfl ⟨rfl, ((((S4.out.1.setCell (p := ⟨b1, 0, none⟩) hb2 _).setCell (p := ⟨b1, 1, none⟩) hb2 _).setCell (p := ⟨b1, 2, none⟩) hb2 _).setCell (p := ⟨b1, 3, none⟩) hb2 _)⟩

set_option maxRecDepth 100000 in
set_option maxHeartbeats 1000000 in
theorem refbegins_any (A : Option Addr) (n c : Nat) (A2 : Option Addr) (n2 c2 : Nat) (m : Mk) (z : Sz) (y : Int) (w : World) (hn : n = m.fs.length) (hlen : n ≤ 1000000) (hx : Floats w w.heap.size A m.fs) (h49 : m.fs.all near49 = true) (hz : RightS z) (hf : -4503599627370496 ≤ m.f ∧ m.f ≤ 4503599627370496) (ht : -4503599627370496 ≤ m.t ∧ m.t ≤ 4503599627370496) (hy : -1125899906842624 ≤ y ∧ y ≤ 1125899906842624) :
    Calls Tryz.prog 35 #[Mv A n c A2 n2 c2 m, .agg #[.int .i64 z.wd, .int .i64 z.ht], .int .i64 y] w fun e w' => e = .returned (.bool (okL m.fs m.f m.t z y)) ∧ Below w.heap.size w w' := by
  have hzh := hz.h2
  have HFr := Lib.hid (fun w1 (k : Below w.heap.size w w1) => reffree_any A n c m.fs m.f m.t y z.ht w1 hn hlen (hx.thru k) ⟨by omega, by omega⟩ (by omega))
  have HBo := Lib.hid (fun w1 (k : Below w.heap.size w w1) => refrows_any A n c m.fs y z.ht w1 hn hlen (hx.thru k) ⟨by omega, by omega⟩ (by omega))
  obtain ⟨L1, L2⟩ := bandL_49 h49 y (y + highZ z.ht)
  obtain ⟨R1, R2⟩ := bandR_49 h49 y (y + highZ z.ht)
  obtain ⟨v, hv⟩ : ∃ v, okL m.fs m.f m.t z y = v := ⟨_, rfl⟩
  rw [hv]
  unfold okL freeL freeR at hv
  generalize bandL m.fs y (y + highZ z.ht) = L at *
  generalize bandR m.fs y (y + highZ z.ht) = R at *
  obtain ⟨a, ha⟩ : ∃ a, max m.f L = a := ⟨_, rfl⟩
  obtain ⟨b, hb⟩ : ∃ b, min m.t R = b := ⟨_, rfl⟩
  rw [ha, hb] at HFr
  rw [ha, hb] at hv
  have hw1 : IntKind.i64.wrap (m.t - m.f) = m.t - m.f := IntWalk.i64_in _ (by omega)
  have hw2 : IntKind.i64.wrap (b - a) = b - a := IntWalk.i64_in _ (by omega)
  have HV := Lib.hid hv
  clear hn hlen hx h49 hz hzh hf ht hy L1 L2 R1 R2 hv ha hb
  go_enter Tryz.func35, Tryz.ntmps35
  go_upto_region 1 with fail
  generalize hW1 : World.alloc w _ = W1
  obtain ⟨b0, hb0⟩ : ∃ b0, w.heap.size = b0 := ⟨_, rfl⟩
  have k1 : Below w.heap.size w W1 := by rw [← hW1]; exact ba1 _ _
  have s1 : W1.heap.size = b0 + 1 := by rw [← hW1, ← hb0]; simp
  have a1 : AtM W1 b0 A n c A2 n2 c2 m := by rw [← hW1, ← hb0]; exact atM_boxed _ _
  clear hW1
  generalize hW2 : World.alloc W1 _ = W2
  have k2 : Below W1.heap.size W1 W2 := by rw [← hW2]; exact ba1 _ _
  have e0 : W2.cell? ⟨b0 + 1, 0, none⟩ = some (.int .i64 z.wd) := by rw [← hW2, ← s1]; simp [go_sem]
  have e1 : W2.cell? ⟨b0 + 1, 1, none⟩ = some (.int .i64 z.ht) := by rw [← hW2, ← s1]; simp [go_sem]
  clear hW2
  rw [hb0]
  obtain ⟨b1, hb1⟩ : ∃ b1, b0 + 1 = b1 := ⟨_, rfl⟩
  rw [hb1] at s1 e0 e1
  rw [hb1]
  have S2 := Lib.hid (⟨thru k1 k2, a1.below k2, e0, e1⟩ : Below w.heap.size w W2 ∧ AtM W2 b0 A n c A2 n2 c2 m ∧ W2.cell? ⟨b1, 0, none⟩ = some (.int .i64 z.wd) ∧ W2.cell? ⟨b1, 1, none⟩ = some (.int .i64 z.ht))
  have HQ := Lib.hid (fun w' (j : Below W2.heap.size W2 w') => (⟨(j.cell (p := ⟨b1, 0, none⟩) (block_lt_of_cell e0)).trans e0, (j.cell (p := ⟨b1, 1, none⟩) (block_lt_of_cell e1)).trans e1⟩ : w'.cell? ⟨b1, 0, none⟩ = some (.int .i64 z.wd) ∧ w'.cell? ⟨b1, 1, none⟩ = some (.int .i64 z.ht)))
  clear k1 a1 k2 s1 hb0 hb1 e0 e1
  obtain ⟨c0, c1, c2', c3, c4, c5⟩ := S2.out.2.1
  obtain ⟨-, -, q0, q1⟩ := S2.out
  go_upto_region 3 with (first
    | (go_at_call 50; refine (HFr.out _ S2.out.1).mono ?_; rintro e w3 ⟨rfl, k3⟩; have S3 := Lib.hid (⟨thru S2.out.1 k3, S2.out.2.1.below k3, (HQ.out _ k3).1, (HQ.out _ k3).2, k3⟩ : Below w.heap.size w w3 ∧ AtM w3 b0 A n c A2 n2 c2 m ∧ w3.cell? ⟨b1, 0, none⟩ = some (.int .i64 z.wd) ∧ w3.cell? ⟨b1, 1, none⟩ = some (.int .i64 z.ht) ∧ Below W2.heap.size W2 w3); clear c0 c1 c2' c3 c4 c5 q0 q1; obtain ⟨c0, c1, c2', c3, c4, c5⟩ := S3.out.2.1; obtain ⟨-, -, q0, q1, -⟩ := S3.out; clear k3)
    | (go_at_call 51; refine (HBo.out _ S3.out.1).mono ?_; rintro e w4 ⟨rfl, k4⟩; have S4 := Lib.hid (⟨thru S3.out.1 k4, S3.out.2.1.below k4, (HQ.out _ (thru S3.out.2.2.2.2 k4)).1⟩ : Below w.heap.size w w4 ∧ AtM w4 b0 A n c A2 n2 c2 m ∧ w4.cell? ⟨b1, 0, none⟩ = some (.int .i64 z.wd)); clear k4))
  clear c0 c1 c2' c3 c4 c5 q0 q1
  obtain ⟨c0, c1, c2', c3, c4, c5⟩ := S4.out.2.1
  have q0 := S4.out.2.2
  by_cases h1 : z.wd ≤ b - a
  · have hvt : v = true := by rw [← HV.out, decide_eq_true h1]; rfl
    subst hvt
    go_wp2_with fail
    go_ret
    exact ⟨rfl, S4.out.1⟩
  · have hv : (decide (m.t - m.f < z.wd) && decide (L ≤ m.f) && decide (m.t ≤ R)) = v := by rw [← HV.out, decide_eq_false h1]; rfl
    by_cases h2 : m.t - m.f < z.wd
    · rw [decide_eq_true h2] at hv
      by_cases h3 : L ≤ m.f
      · rw [decide_eq_true h3] at hv
        by_cases h4 : m.t ≤ R
        · rw [decide_eq_true h4] at hv
          obtain rfl : true = v := hv
          go_wp2_with fail
          go_ret
          exact ⟨rfl, S4.out.1⟩
        · rw [decide_eq_false h4] at hv
          obtain rfl : false = v := hv
          go_wp2_with fail
          go_ret
          exact ⟨rfl, S4.out.1⟩
      · rw [decide_eq_false h3] at hv
        obtain rfl : false = v := hv
        go_wp2_with fail
        go_ret
        exact ⟨rfl, S4.out.1⟩
    · rw [decide_eq_false h2] at hv
      obtain rfl : false = v := hv
      go_wp2_with fail
      go_ret
      exact ⟨rfl, S4.out.1⟩

end Go.Proofs.YtdibdfalahjmbaaGreat.Line
