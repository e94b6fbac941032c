/- The contracts of the document's Context, Children and Same. -/
import Derived.Test.YtmmmlegjhblfaaaTreeRefs
namespace Go.Proofs.Ytmmmlegjhblfaaa.Tree
open Go.RowKit Go.Sort Go.Proofs.Ytmmmlegjhblfaaa.Record Go.Proofs.Ytmmmlegjhblfaaa.Script

/-- Which boxes of a list have a context of their own. -/
def oOf (bs : List Bx) (k : Nat) : Bool := openB (bs.getD k noB).k

set_option maxRecDepth 100000 in
set_option maxHeartbeats 1000000 in
theorem refctx_any (A : Option Addr) (n c : Nat) (bs : List Bx) (i : Nat) (w : World) (hn : n = bs.length) (hlen : n ≤ 100000) (hi : i < n) (hx : Boxes w w.heap.size A bs) (hd : ∀ k, k ≤ i → 0 ≤ dOf bs k ∧ dOf bs k ≤ 256) :
    Calls Try.prog 22 #[.slice A n c, .int .i64 i] w fun e w' => e = .returned (.int .i64 (ctx (dOf bs) (oOf bs) i)) ∧ Below w.heap.size w w' := by
  have hb := par_bounds (dOf bs) i
  obtain ⟨p, hp⟩ : ∃ p, ctx (dOf bs) (oOf bs) i = p := ⟨_, rfl⟩
  rw [hp]
  have HX := Lib.hid hx
  have HN := Lib.hid hn
  have HD := Lib.hid hd
  have HP := Lib.hid hp
  have HB := Lib.hid hb
  have HI := Lib.hid hi
  clear hx hn hd hp hb
  go_enter Try.func22, Try.ntmps22
  go_wp2_with fail
  refine (refpar_any A n c bs i w HN.out hlen HI.out HX.out HD.out).mono ?_; rintro e w1 ⟨rfl, k1⟩
  have HP1 : Hid (ctxN (dOf bs) (oOf bs) (par (dOf bs) i).toNat = p) := Lib.hid HP.out
  obtain ⟨q0, hq⟩ : ∃ q, par (dOf bs) i = q := ⟨_, rfl⟩
  have hb := HB.out
  rw [hq] at hb HP1 ⊢
  have K1 := Lib.hid k1
  clear k1 hq
  go_wp2_with fail
  go_loopw [5] (fun s wr => ∃ q : Int, -1 ≤ q ∧ q < i ∧ s = .int .i64 q ∧ Hid (ctxN (dOf bs) (oOf bs) q.toNat = p ∧ Below w.heap.size w wr)) (fun s _ => (intOf s).toNat)
  case atStart => exact ⟨q0, hb.1, by omega, rfl, Lib.hid ⟨HP1.out, K1.out⟩⟩
  case round =>
    clear hb HP1 K1
    obtain ⟨q, hq0, hq1, rfl, H⟩ := hrel
    by_cases hpos : 0 < q
    · obtain ⟨m, rfl⟩ : ∃ m : Nat, q = m := ⟨q.toNat, by omega⟩
      obtain ⟨ad, hA, hab, hc⟩ := (HX.out.below H.out.2) m (by have := HN.out; have := HI.out; omega)
      subst hA
      have hmn : m < n := by have := HI.out; omega
      have HW := Lib.hid (show ctxN (dOf bs) (oOf bs) m = p by simpa using H.out.1)
      obtain ⟨v, hv⟩ : ∃ v, oOf bs m = v := ⟨_, rfl⟩
      have HV := Lib.hid hv
      have hv2 : openB (bs.getD m noB).k = v := hv
      clear hv
      generalize bs.getD m noB = y at hc hv2
      have HO : Hid (∀ w, Calls Try.prog 26 #[y.v] w fun e w' => e = .returned (.bool v) ∧ Below w.heap.size w w') := Lib.hid fun w => hv2 ▸ refopen_any y w
      clear hv2
      obtain ⟨c0, c1, c2, c3, c4, c5, c6, c7, c8, c9, c10, c11, c12, c13⟩ := hc
      cases v
      · go_wp2_with (first
          | (go_at_call 26; refine (HO.out _).mono ?_; rintro e w2 ⟨rfl, k2⟩; have K2 := Lib.hid (thru H.out.2 k2); clear k2 c0 c1 c2 c3 c4 c5 c6 c7 c8 c9 c10 c11 c12 c13)
          | (go_at_call 18; refine (refpar_any (some ad) n c bs m _ HN.out hlen hmn (HX.out.below K2.out |>.more K2.out.size) (fun k hk => HD.out k (by omega))).mono ?_; rintro e w3 ⟨rfl, k3⟩; have K3 := Lib.hid (thru K2.out k3); clear k3))
        go_roundw
        case rel =>
          have hb := par_bounds (dOf bs) m
          refine ⟨par (dOf bs) m, hb.1, by omega, rfl, Lib.hid ⟨?_, K3.out⟩⟩
          rw [← ctxN_next _ _ _ HV.out]
          exact HW.out
        case measure =>
          have hb := par_bounds (dOf bs) m
          simp [intOf]
          omega
      · have hpm : p = m := by rw [← HW.out]; exact ctxN_open _ _ _ HV.out
        subst hpm
        go_wp2_with (first
          | (go_at_call 26; refine (HO.out _).mono ?_; rintro e w2 ⟨rfl, k2⟩; have K2 := Lib.hid (thru H.out.2 k2); clear k2 c0 c1 c2 c3 c4 c5 c6 c7 c8 c9 c10 c11 c12 c13))
        go_ret
        exact ⟨rfl, K2.out⟩
    · have hp0 : p = 0 := by
        have h := H.out.1
        rw [show q.toNat = 0 by omega, ctxN_zero] at h
        exact h.symm
      subst hp0
      by_cases hneg : q < 0
      · go_wp2_with fail
        go_ret
        exact ⟨rfl, H.out.2⟩
      · obtain rfl : q = 0 := by omega
        go_wp2_with fail
        go_ret
        exact ⟨rfl, H.out.2⟩

set_option maxRecDepth 100000 in
set_option maxHeartbeats 1000000 in
theorem refkids_any (A : Option Addr) (n c : Nat) (bs : List Bx) (i : Nat) (w : World) (hn : n = bs.length) (hlen : n ≤ 100000) (hi : i < n) (hx : Boxes w w.heap.size A bs) (hd : ∀ k, k < n → 0 ≤ dOf bs k ∧ dOf bs k ≤ 256) :
    Calls Try.prog 25 #[.slice A n c, .int .i64 i] w fun e w' => (∃ A' c', e = .returned (.slice A' (kids (dOf bs) n i).length c') ∧ Mine w' w.heap.size A' (kids (dOf bs) n i).length c' ((kids (dOf bs) n i).map Int.ofNat)) ∧ Below w.heap.size w w' := by
  obtain ⟨ad, hA, hab, ci⟩ := Boxes.depth hx i (by omega)
  subst hA
  have hen := en_spec (dOf bs) n i hi
  obtain ⟨p, hp⟩ : ∃ p, en (dOf bs) n i = p := ⟨_, rfl⟩
  have HKP : Hid (kids (dOf bs) n i = kidsTo (dOf bs) i p) := Lib.hid (by unfold kids; rw [hp])
  rw [HKP.out]
  rw [hp] at hen
  obtain ⟨he1, he2, -, -⟩ := hen
  have HX := Lib.hid hx
  have HN := Lib.hid hn
  have HD := Lib.hid hd
  have HP := Lib.hid hp
  have HAB := Lib.hid hab
  obtain ⟨x, hxd⟩ : ∃ x, dOf bs i = x := ⟨_, rfl⟩
  have hx01 := hd i hi
  rw [hxd] at ci hx01
  have HXD := Lib.hid hxd
  clear hx hn hd hp hab hxd HKP
  go_enter Try.func25, Try.ntmps25
  go_wp2_with fail
  go_loopw [5, 6] (fun s t wr => ∃ m : Nat, ∃ A' : Option Addr, ∃ l c' : Nat, i + 1 ≤ m ∧ m ≤ p ∧ t = .int .i64 (m : Int) ∧ s = .slice A' l c' ∧ l ≤ m ∧ Hid (l = (kidsTo (dOf bs) i m).length ∧ Mine wr w.heap.size A' l c' ((kidsTo (dOf bs) i m).map Int.ofNat) ∧ Below w.heap.size w wr)) (fun _ t _ => p - (intOf t).toNat)
  case atStart => exact ⟨i + 1, _, 0, _, by omega, by omega, by go_num, rfl, by omega, Lib.hid ⟨by rw [kidsTo_start]; rfl, by rw [kidsTo_start]; exact none_mine _ _ (Nat.le_refl _), ba1 _ _⟩⟩
  case round =>
    obtain ⟨m, A', l, c', hm1, hm2, rfl, rfl, hlm, H⟩ := hrel
    have HE := Lib.hid (refend_any (some ad) n c bs i wr HN.out hlen hi ((HX.out.below H.out.2.2).more H.out.2.2.size))
    rw [HP.out] at HE
    by_cases hlt : m < p
    · go_upto_region 5 with (first | (go_at_call 20; refine HE.out.mono ?_; rintro e w1 ⟨rfl, k1⟩))
      have HM1 := Lib.hid (H.out.2.1.below k1)
      have K1 := Lib.hid (thru H.out.2.2 k1)
      clear k1 HE
      obtain ⟨_, h1, _, ck⟩ := Boxes.depth HX.out m (by have := HN.out; omega)
      injection h1 with h1
      subst h1
      have hmn : m < n := by omega
      have hy01 := HD.out m hmn
      obtain ⟨y, hy⟩ : ∃ y, dOf bs m = y := ⟨_, rfl⟩
      rw [hy] at ck hy01
      have HNX := Lib.hid (kidsTo_next (dOf bs) i m)
      rw [hy, HXD.out] at HNX
      clear hy
      have hci := (K1.out.cell (p := ad.add (i * 14)) (by rw [block_of_add]; exact HAB.out)).trans ci
      have hck := (K1.out.cell (p := ad.add (m * 14)) (by rw [block_of_add]; exact HAB.out)).trans ck
      have hwx : IntKind.i64.wrap (x + 1) = x + 1 := IntWalk.i64_in _ (by omega)
      by_cases hyx : y = x + 1
      · have hq : (y == x + 1) = true := by simp [hyx]
        go_quiet (fail)
        have q : Below w1.heap.size w1 (w1.drewN nq) := ⟨rfl, rfl, rfl, Nat.le_refl _, fun _ _ => rfl⟩
        clear hci hck
        generalize w1.drewN nq = w4 at q ⊢
        have HM4 := Lib.hid (HM1.out.below q)
        have K4 := Lib.hid (thru K1.out q)
        clear q HM1 K1
        go_wp2_with (first
          | (at_builtin; refine wpList_append_mine _ rfl (.tmp 29) (.tmp 31) rfl w.heap.size A' l c' ((kidsTo (dOf bs) i m).map Int.ofNat) rfl (HM4.out.alloc _) (some ⟨w4.heap.size, 0, none⟩) 1 1 [(m : Int)] rfl (one_src w4 (m : Int)) (by omega) (by have := K4.out.size; simp; omega) ?_; intro A1 c1' W1 h1; have hb1 := h1.below (HM4.out.alloc _) (K4.out.alloc K4.out.size _) (Nat.le_refl _) (by have := K4.out.size; simp; omega); have HM5 := Lib.hid h1.1; have K5 := Lib.hid hb1; clear h1 hb1))
        go_roundw
        case rel =>
          refine ⟨m + 1, A1, l + 1, c1', by omega, by omega, by go_num, rfl, by omega, Lib.hid ⟨?_, ?_, K5.out⟩⟩
          · rw [HNX.out, if_pos ⟨by omega, hyx⟩]; simp [H.out.1]
          · rw [HNX.out, if_pos ⟨by omega, hyx⟩, List.map_append]; exact HM5.out
        case measure => simp [intOf]; omega
      · have hq : (y == x + 1) = false := by simp [hyx]
        go_quiet (fail)
        have q : Below w1.heap.size w1 (w1.drewN nq) := ⟨rfl, rfl, rfl, Nat.le_refl _, fun _ _ => rfl⟩
        clear hci hck
        generalize w1.drewN nq = w4 at q ⊢
        have HM4 := Lib.hid (HM1.out.below q)
        have K4 := Lib.hid (thru K1.out q)
        clear q HM1 K1
        go_wp2_with fail
        go_roundw
        case rel =>
          refine ⟨m + 1, A', l, c', by omega, by omega, by go_num, rfl, by omega, Lib.hid ⟨?_, ?_, K4.out⟩⟩
          · rw [HNX.out, if_neg (fun h => hyx h.2)]; simp [H.out.1]
          · rw [HNX.out, if_neg (fun h => hyx h.2)]; simpa using HM4.out
        case measure => simp [intOf]; omega
    · obtain rfl : m = p := by omega
      go_wp2_with (first | (go_at_call 20; refine HE.out.mono ?_; rintro e w1 ⟨rfl, k1⟩))
      have HM1 := Lib.hid (H.out.2.1.below k1)
      have K1 := Lib.hid (thru H.out.2.2 k1)
      clear k1 HE
      go_ret
      have hl := H.out.1
      refine ⟨⟨A', c', by rw [← hl]; rfl, by rw [← hl]; exact HM1.out⟩, K1.out⟩

end Go.Proofs.Ytmmmlegjhblfaaa.Tree
