/- The walk of TreeStands, over the contracts of the program's trees. -/
import Derived.Test.YtmmmlegjhblfaaaTreeLaws
import Derived.Test.YtmmmlegjhblfaaaTreeSame
import Derived.Test.YtmmmlegjhblfaaaMoreHold
namespace Go.Proofs.Ytmmmlegjhblfaaa.Tree
open Go.RowKit Go.Sort Go.Proofs.Ytmmmlegjhblfaaa.Record Go.Proofs.Ytmmmlegjhblfaaa.Script Go.Proofs.Ytmmmlegjhblfaaa.More

/-- The places of the boxes ahead of k that have a context of their own, falling. -/
def opensTo (bs : List Bx) (k : Nat) : List Int := (((List.range k).filter (oOf bs)).map Int.ofNat).reverse

theorem opensTo_next (bs : List Bx) (k : Nat) : opensTo bs (k + 1) = (if oOf bs k then [(k : Int)] else []) ++ opensTo bs k := by
  unfold opensTo
  rw [List.range_succ, List.filter_append, List.map_append, List.reverse_append]
  congr 1
  by_cases h : oOf bs k = true <;> simp [h]

theorem keeps_givesL (xs : List Int) : Hold.Keeps (GivesL xs) := fun w w' u hb h => by
  obtain ⟨A, c, e, hn⟩ := h
  exact ⟨A, c, e, (hn.below hb).more hb.size⟩

theorem mine_gives {w : World} {B : Nat} {A : Option Addr} {c : Nat} {xs : List Int} (h : Mine w B A xs.length c xs) : GivesL xs w (.slice A xs.length c) := ⟨A, c, rfl, h.nums⟩

theorem mine_nil (w : World) (B : Nat) : Mine w B none 0 0 [] := World.ownsRow_nil w B 3 1

theorem mine_lower {w : World} {B B' : Nat} {A : Option Addr} {n c : Nat} {xs : List Int} (h : Mine w B A n c xs) (hb : B' ≤ B) : Mine w B' A n c xs := by
  refine ⟨h.1, ?_⟩
  rcases h.2 with h | ⟨g, cap, cur, e, hg, rest⟩
  · exact .inl h
  · exact .inr ⟨g, cap, cur, e, Nat.le_trans hb hg, rest⟩

theorem same_held {xs : List Int} {w : World} {u1 u2 : Value} (h1 : GivesL xs w u1) (h2 : GivesL xs w u2) (hl : xs.length ≤ 9223372036854775807) :
    Calls Try.prog 23 #[u1, u2] w fun e w' => e = .returned (.bool true) ∧ Below w.heap.size w w' := by
  obtain ⟨A1, c1, rfl, g1⟩ := h1
  obtain ⟨A2, c2, rfl, g2⟩ := h2
  exact same_yes A1 xs.length c1 A2 c2 xs w rfl hl g1 g2

section
variable {T : World → Addr → List Bx → Prop}

set_option maxRecDepth 100000 in
set_option maxHeartbeats 4000000 in
theorem stands_yes (hT : TreeOk T) (A : Option Addr) (n c : Nat) (bs : List Bx) (z : Int) (w : World) (hn : n = bs.length) (hlen : n ≤ 100) (h0 : 0 < n) (hx : Boxes w w.heap.size A bs) (hb : ∀ b ∈ bs, OkB b) (hf : Fine bs n) :
    Calls Try.prog 4 #[.slice A n c, .int .i64 z] w fun r w' => r = .returned (.bool true) ∧ Below w.heap.size w w' := by
  have HX := Lib.hid hx
  have HN := Lib.hid hn
  have HB := Lib.hid hb
  have HF := Lib.hid hf
  clear hx hn hb hf
  go_enter Try.func4, Try.ntmps4
  go_wp2_with fail
  refine (speaks_any hT _).mono ?_; rintro e w1 ⟨rfl, k1⟩
  have K1 := Lib.hid k1
  clear k1
  go_wp2_with fail
  refine (refchk_any A n c bs (-1) 0 w1 HN.out (by omega) (HX.out.thru K1.out) (chk_fine HN.out h0 HF.out)).mono ?_; rintro e w2 ⟨rfl, k2⟩
  have K2 := Lib.hid (thru K1.out k2)
  clear k2 K1
  go_wp2_with fail
  refine (begin_some hT A n c bs w2 HN.out (by omega) h0 (HX.out.thru K2.out) HB.out HF.out).mono ?_; rintro e w3 ⟨⟨p, rfl, ht⟩, k3⟩
  have K3 := Lib.hid (thru K2.out k3)
  have HT3 := Lib.hid ht
  clear k3 K2 ht
  go_wp2_with fail
  go_loopw [8, 32] (fun s t wr => ∃ k : Nat, ∃ A' : Option Addr, ∃ l c' : Nat, k ≤ n ∧ t = .int .i64 (k : Int) ∧ s = .slice A' l c' ∧ l ≤ k ∧ Hid (l = (opensTo bs k).length ∧ Mine wr w.heap.size A' l c' (opensTo bs k) ∧ T wr p bs ∧ Below w.heap.size w wr)) (fun _ t _ => n - (intOf t).toNat)
  case atStart => exact ⟨0, _, 0, _, Nat.zero_le _, rfl, rfl, Nat.le_refl _, Lib.hid ⟨rfl, mine_nil _ _, HT3.out, K3.out⟩⟩
  case round =>
    clear HT3 K3
    obtain ⟨k, A', l, c', hk, rfl, rfl, hlk, H⟩ := hrel
    by_cases hlt : k < n
    · obtain ⟨ad, hA, hab, hcx⟩ := (HX.out.below H.out.2.2.2) k (by rw [← HN.out]; exact hlt)
      subst hA
      have hkb : k < bs.length := by rw [← HN.out]; exact hlt
      obtain ⟨y, hy⟩ : ∃ y, bs.getD k noB = y := ⟨_, rfl⟩
      rw [hy] at hcx
      have FY := Lib.hid (boxT_nat hkb)
      have FP := Lib.hid (parT_nat hkb)
      have FE := Lib.hid (enT_nat hkb)
      have FC := Lib.hid (ctxT_nat hkb)
      have FK := Lib.hid (kidsT_nat hkb)
      rw [hy] at FY
      rw [← HN.out] at FE FK
      have HY := Lib.hid hy
      clear hy hkb hab
      obtain ⟨c0, c1, c2, c3, c4, c5, c6, c7, c8, c9, c10, c11, c12, c13⟩ := hcx
      go_upto_region 13 with fail
      clear c0 c1 c2 c3 c4 c5 c6 c7 c8 c9 c10 c11 c12 c13
      generalize hW : World.alloc wr _ = W
      obtain ⟨at1, k1⟩ := box_in y hW
      have AT := Lib.hid at1
      have KW := Lib.hid (thru H.out.2.2.2 k1)
      have HM := Lib.hid (H.out.2.1.below k1)
      have HTW := Lib.hid (hT.keep _ _ _ _ H.out.2.2.1 k1)
      have KR := Lib.hid k1
      clear hW k1 at1
      obtain ⟨q, hq⟩ : ∃ q, par (dOf bs) k = q := ⟨_, rfl⟩
      obtain ⟨e, he⟩ : ∃ e, en (dOf bs) n k = e := ⟨_, rfl⟩
      obtain ⟨cc, hcc⟩ : ∃ cc, ctx (dOf bs) (oOf bs) k = cc := ⟨_, rfl⟩
      obtain ⟨ks, hks⟩ : ∃ ks, (kids (dOf bs) n k).map Int.ofNat = ks := ⟨_, rfl⟩
      rw [hq] at FP
      rw [he] at FE
      rw [hcc] at FC
      rw [hks] at FK
      have GB : Hid (∀ w', Below W.heap.size W w' → Calls Try.prog 15 #[.pointer (some p), .int .i64 (k : Int)] w' fun r w'' => r = .returned y.v ∧ Below w'.heap.size w' w'') := Lib.hid fun w' hw => FY.out ▸ hT.box w' p bs k (hT.keep _ _ _ _ HTW.out hw)
      have GP : Hid (∀ w', Below W.heap.size W w' → Calls Try.prog 17 #[.pointer (some p), .int .i64 (k : Int)] w' fun r w'' => r = .returned (.int .i64 q) ∧ Below w'.heap.size w' w'') := Lib.hid fun w' hw => FP.out ▸ hT.parent w' p bs k (hT.keep _ _ _ _ HTW.out hw)
      have GE : Hid (∀ w', Below W.heap.size W w' → Calls Try.prog 19 #[.pointer (some p), .int .i64 (k : Int)] w' fun r w'' => r = .returned (.int .i64 (e : Int)) ∧ Below w'.heap.size w' w'') := Lib.hid fun w' hw => FE.out ▸ hT.en w' p bs k (hT.keep _ _ _ _ HTW.out hw)
      have GC : Hid (∀ w', Below W.heap.size W w' → Calls Try.prog 21 #[.pointer (some p), .int .i64 (k : Int)] w' fun r w'' => r = .returned (.int .i64 (cc : Int)) ∧ Below w'.heap.size w' w'') := Lib.hid fun w' hw => FC.out ▸ hT.ctx w' p bs k (hT.keep _ _ _ _ HTW.out hw)
      have GK : Hid (∀ w', Below W.heap.size W w' → Calls Try.prog 24 #[.pointer (some p), .int .i64 (k : Int)] w' fun r w'' => ∃ u, r = .returned u ∧ GivesL ks w'' u ∧ Below w'.heap.size w' w'') := Lib.hid fun w' hw => FK.out ▸ hT.kidsL w' p bs k (hT.keep _ _ _ _ HTW.out hw)
      have BX : Hid (∀ w', Below W.heap.size W w' → Boxes w' w'.heap.size (some ad) bs) := Lib.hid fun w' hw => HX.out.thru (thru KW.out hw)
      have HD : Hid (∀ j, j < n → 0 ≤ dOf bs j ∧ dOf bs j ≤ 256) := Lib.hid fun j hj => HF.out.depth hj
      have RP : Hid (∀ w', Below W.heap.size W w' → Calls Try.prog 18 #[.slice (some ad) n c, .int .i64 (k : Int)] w' fun r w'' => r = .returned (.int .i64 q) ∧ Below w'.heap.size w' w'') := Lib.hid fun w' hw => hq ▸ refpar_any (some ad) n c bs k w' HN.out (by omega) hlt (BX.out w' hw) (fun j hj => HD.out j (by omega))
      have RE : Hid (∀ w', Below W.heap.size W w' → Calls Try.prog 20 #[.slice (some ad) n c, .int .i64 (k : Int)] w' fun r w'' => r = .returned (.int .i64 (e : Int)) ∧ Below w'.heap.size w' w'') := Lib.hid fun w' hw => he ▸ refend_any (some ad) n c bs k w' HN.out (by omega) hlt (BX.out w' hw)
      have RC : Hid (∀ w', Below W.heap.size W w' → Calls Try.prog 22 #[.slice (some ad) n c, .int .i64 (k : Int)] w' fun r w'' => r = .returned (.int .i64 (cc : Int)) ∧ Below w'.heap.size w' w'') := Lib.hid fun w' hw => hcc ▸ refctx_any (some ad) n c bs k w' HN.out (by omega) hlt (BX.out w' hw) (fun j hj => HD.out j (by omega))
      have RK : Hid (∀ w', Below W.heap.size W w' → Calls Try.prog 25 #[.slice (some ad) n c, .int .i64 (k : Int)] w' fun r w'' => ∃ u, r = .returned u ∧ GivesL ks w'' u ∧ Below w'.heap.size w' w'') := Lib.hid fun w' hw => by
        refine (refkids_any (some ad) n c bs k w' HN.out (by omega) hlt (BX.out w' hw) HD.out).mono ?_
        rintro r w'' ⟨⟨A1, c1, rfl, hm⟩, hb⟩
        refine ⟨_, rfl, ?_, hb⟩
        rw [← hks]
        exact ⟨A1, c1, by simp, hm.nums⟩
      have hksn : ks.length ≤ 9223372036854775807 := by
        rw [← hks, List.length_map]
        have h1 : (kids (dOf bs) n k).length ≤ (List.range (en (dOf bs) n k)).length := List.length_filter_le _ _
        have h2 := (en_spec (dOf bs) n k hlt).2.1
        rw [List.length_range] at h1
        omega
      clear hq he hcc hks FY FP FE FC FK BX HD HTW
      have HKN := Lib.hid hksn
      clear hksn
      refine Hold.wp_region_hold [.val (.pointer (some p)), .val (.int .i64 (k : Int)), .val y.v, .val y.v, .val y.v, .val (.bool false), .val (.bool false), .val (.pointer (some p)), .val (.int .i64 (k : Int)), .val (.int .i64 q), .val (.slice (some ad) n c), .val (.int .i64 (k : Int)), .val (.int .i64 q), .val (.bool false), .val (.bool false), .val (.bool false), .val (.pointer (some p)), .val (.int .i64 (k : Int)), .val (.int .i64 (e : Int)), .val (.slice (some ad) n c), .val (.int .i64 (k : Int)), .val (.int .i64 (e : Int)), .val (.bool false), .val (.bool false), .val (.bool false), .val (.pointer (some p)), .val (.int .i64 (k : Int)), .val (.int .i64 (cc : Int)), .val (.slice (some ad) n c), .val (.int .i64 (k : Int)), .val (.int .i64 (cc : Int)), .val (.bool false), .val (.bool false), .val (.bool false), .val (.pointer (some p)), .val (.int .i64 (k : Int)), .some (GivesL ks), .val (.slice (some ad) n c), .val (.int .i64 (k : Int)), .some (GivesL ks), .val (.bool true), .val (.bool false)] (by kernel_rfl) (by kernel_rfl) (by kernel_rfl) ?_ ?_
      · simp only [Hold.fill, Hold.Leave.value]
        refine ⟨?_, ?_, ?_, ?_, ?_, ?_, ?_, ?_, ?_, ?_, ?_, ?_, ?_, ?_, ?_, ?_, ?_, ?_, ?_, ?_, ?_, ?_, ?_, ?_, ?_, ?_, ?_, ?_, ?_, ?_, ?_, ?_, ?_, ?_, ?_, ?_, ?_, ?_, ?_, ?_, ?_, ?_, trivial⟩
        · intro g w' hw hk
          go_simp
          exact ⟨rfl, rfl⟩
        · intro g w' hw hk
          go_simp
          exact ⟨rfl, rfl⟩
        · intro g w' hw hk
          go_simp
          exact Hold.stays_call (GB.out _ hw)
        · intro g w' hw hk
          have hh := AT.out.below AT.out.lt hw
          have c0 := hh.1
          have c1 := hh.2.1
          have c2 := hh.2.2.1
          have c3 := hh.2.2.2.1
          have c4 := hh.2.2.2.2.1
          have c5 := hh.2.2.2.2.2.1
          have c6 := hh.2.2.2.2.2.2.1
          have c7 := hh.2.2.2.2.2.2.2.1
          have c8 := hh.2.2.2.2.2.2.2.2.1
          have c9 := hh.2.2.2.2.2.2.2.2.2.1
          have c10 := hh.2.2.2.2.2.2.2.2.2.2.1
          have c11 := hh.2.2.2.2.2.2.2.2.2.2.2.1
          have c12 := hh.2.2.2.2.2.2.2.2.2.2.2.2.1
          have c13 := hh.2.2.2.2.2.2.2.2.2.2.2.2.2
          clear hh
          go_simp
          exact ⟨rfl, rfl⟩
        · intro g w' hw hk
          go_simp
          exact Hold.stays_call (of_any y _)
        · intro g w' hw hk
          have E := fun a b c d x y z u => eqArr 9997 a b c d x y z u w'
          go_simp
          exact ⟨rfl, rfl⟩
        · intro g w' hw hk
          go_simp
          exact ⟨rfl, rfl⟩
        · intro g w' hw hk
          go_simp
          exact ⟨rfl, rfl⟩
        · intro g w' hw hk
          go_simp
          exact ⟨rfl, rfl⟩
        · intro g w' hw hk
          go_simp
          exact Hold.stays_call (GP.out _ hw)
        · intro g w' hw hk
          go_simp
          exact ⟨rfl, rfl⟩
        · intro g w' hw hk
          go_simp
          exact ⟨rfl, rfl⟩
        · intro g w' hw hk
          go_simp
          exact Hold.stays_call (RP.out _ hw)
        · intro g w' hw hk
          go_simp
          exact ⟨rfl, rfl⟩
        · intro g w' hw hk
          go_simp
          exact ⟨rfl, rfl⟩
        · intro g w' hw hk
          go_simp
          exact ⟨rfl, rfl⟩
        · intro g w' hw hk
          go_simp
          exact ⟨rfl, rfl⟩
        · intro g w' hw hk
          go_simp
          exact ⟨rfl, rfl⟩
        · intro g w' hw hk
          go_simp
          exact Hold.stays_call (GE.out _ hw)
        · intro g w' hw hk
          go_simp
          exact ⟨rfl, rfl⟩
        · intro g w' hw hk
          go_simp
          exact ⟨rfl, rfl⟩
        · intro g w' hw hk
          go_simp
          exact Hold.stays_call (RE.out _ hw)
        · intro g w' hw hk
          go_simp
          exact ⟨rfl, rfl⟩
        · intro g w' hw hk
          go_simp
          exact ⟨rfl, rfl⟩
        · intro g w' hw hk
          go_simp
          exact ⟨rfl, rfl⟩
        · intro g w' hw hk
          go_simp
          exact ⟨rfl, rfl⟩
        · intro g w' hw hk
          go_simp
          exact ⟨rfl, rfl⟩
        · intro g w' hw hk
          go_simp
          exact Hold.stays_call (GC.out _ hw)
        · intro g w' hw hk
          go_simp
          exact ⟨rfl, rfl⟩
        · intro g w' hw hk
          go_simp
          exact ⟨rfl, rfl⟩
        · intro g w' hw hk
          go_simp
          exact Hold.stays_call (RC.out _ hw)
        · intro g w' hw hk
          go_simp
          exact ⟨rfl, rfl⟩
        · intro g w' hw hk
          go_simp
          exact ⟨rfl, rfl⟩
        · intro g w' hw hk
          go_simp
          exact ⟨rfl, rfl⟩
        · intro g w' hw hk
          go_simp
          exact ⟨rfl, rfl⟩
        · intro g w' hw hk
          go_simp
          exact ⟨rfl, rfl⟩
        · refine ⟨keeps_givesL _, fun g w' hw hk => ?_⟩
          go_simp
          exact Hold.gives_call (GK.out _ hw)
        · intro g w' hw hk
          go_simp
          exact ⟨rfl, rfl⟩
        · intro g w' hw hk
          go_simp
          exact ⟨rfl, rfl⟩
        · refine ⟨keeps_givesL _, fun g w' hw hk => ?_⟩
          go_simp
          exact Hold.gives_call (RK.out _ hw)
        · intro g w' hw hk
          have h1 := hk ⟨36, .data⟩ (by simp) rfl _ rfl
          have h2 := hk ⟨39, .data⟩ (by simp) rfl _ rfl
          go_simp
          exact Hold.stays_call (same_held h1 h2 HKN.out)
        · intro g w' hw hk
          go_simp
          exact ⟨rfl, rfl⟩
      · intro g w4 k4 hg
        clear hg GB GP GE GC GK RP RE RC RK HKN
        simp only [Hold.fill, Hold.Leave.value, List.length_cons, List.length_nil, List.drop_succ_cons, List.drop_zero]
        generalize g 36 = u36
        generalize g 39 = u39
        have at4 := AT.out.below AT.out.lt k4
        have K4 := Lib.hid (thru KW.out k4)
        have HM4 := Lib.hid (HM.out.below k4)
        have HT4 := Lib.hid (hT.keep _ _ _ _ H.out.2.2.1 (show Below wr.heap.size wr w4 from (show Below wr.heap.size wr W from KR.out).trans (k4.mono KR.out.size)))
        clear k4 AT KW HM
        obtain ⟨v, hv⟩ : ∃ v, openB y.k = v := ⟨_, rfl⟩
        have HO : Hid (oOf bs k = v) := Lib.hid (by unfold oOf; rw [HY.out]; exact hv)
        have RO : Hid (∀ w, Calls Try.prog 26 #[y.v] w fun e w' => e = .returned (.bool v) ∧ Below w.heap.size w w') := Lib.hid fun w => hv ▸ refopen_any y w
        have HNX := Lib.hid (opensTo_next bs k)
        rw [HO.out] at HNX
        clear hv HO
        obtain ⟨c0, c1, c2, c3, c4, c5, c6, c7, c8, c9, c10, c11, c12, c13⟩ := at4
        cases v
        · go_wp2_with (first | (go_at_call 26; refine (RO.out _).mono ?_; rintro r w5 ⟨rfl, k5⟩; have K5 := Lib.hid (thru K4.out k5); have HM5 := Lib.hid (HM4.out.below k5); have HT5 := Lib.hid (hT.keep _ _ _ _ HT4.out k5); clear k5 c0 c1 c2 c3 c4 c5 c6 c7 c8 c9 c10 c11 c12 c13))
          go_roundw
          case rel => exact ⟨k + 1, A', l, c', by omega, by go_num, rfl, by omega, Lib.hid ⟨by rw [HNX.out]; exact H.out.1, by rw [HNX.out]; exact HM5.out, HT5.out, K5.out⟩⟩
          case measure => simp [intOf]; omega
        · go_wp2_with (first
            | (go_at_call 26; refine (RO.out _).mono ?_; rintro r w5 ⟨rfl, k5⟩; have K5 := Lib.hid (thru K4.out k5); have HM5 := Lib.hid (HM4.out.below k5); have HT5 := Lib.hid (hT.keep _ _ _ _ HT4.out k5); clear k5 c0 c1 c2 c3 c4 c5 c6 c7 c8 c9 c10 c11 c12 c13)
            | (at_builtin; refine wpList_append_mine _ rfl (.tmp 83) (.tmp 84) rfl w5.heap.size (some ⟨w5.heap.size, 0, none⟩) 1 1 [(k : Int)] rfl (one_mine w5 _ (Nat.le_refl _) (k : Int)) A' l c' (opensTo bs k) rfl (HM5.out.alloc _).src (by omega) (by simp) ?_; intro A1 c1' W1 h1; have hb1 := h1.below (one_mine w5 _ (Nat.le_refl _) (k : Int)) (ba1 w5 _) (Nat.le_refl _) (by simp); have HM6 := Lib.hid (mine_lower h1.1 K5.out.size); have K6 := Lib.hid (thru K5.out hb1); have HT6 := Lib.hid (hT.keep _ _ _ _ HT5.out hb1); clear h1 hb1))
          go_roundw
          case rel => exact ⟨k + 1, A1, 1 + l, c1', by omega, by go_num, rfl, by omega, Lib.hid ⟨by rw [HNX.out]; simp [H.out.1]; omega, by rw [HNX.out]; exact HM6.out, HT6.out, K6.out⟩⟩
          case measure => simp [intOf]; omega
    · obtain rfl : k = n := by omega
      have HO : Hid (Calls Try.prog 27 #[.pointer (some p)] wr fun r w' => (∃ A1 c1, r = .returned (.slice A1 l c1) ∧ Nums w' w'.heap.size A1 (opensTo bs k)) ∧ Below wr.heap.size wr w') := Lib.hid (by
        refine (hT.opensL wr p bs H.out.2.2.1).mono ?_
        rintro r w' ⟨u, rfl, ⟨A1, c1, rfl, h1⟩, kk⟩
        have e : opensT bs = opensTo bs k := by unfold opensT opensTo; rw [HN.out]
        rw [e] at h1 ⊢
        refine ⟨⟨A1, c1, by rw [← H.out.1], h1⟩, kk⟩)
      go_upto_region 20 with (first
        | (go_at_call 27; refine HO.out.mono ?_; rintro r w5 ⟨⟨A1, c1, rfl, h1⟩, kk⟩; have H1 := Lib.hid h1; have K5 := Lib.hid (thru H.out.2.2.2 kk); have HM5 := Lib.hid (H.out.2.1.below kk); have HT5 := Lib.hid (hT.keep _ _ _ _ H.out.2.2.1 kk); clear kk h1)
        | (go_at_call 23; refine (same_yes A1 l c1 A' c' (opensTo bs k) w5 H.out.1 (by omega) H1.out HM5.out.nums).mono ?_; rintro r w6 ⟨rfl, kk⟩; have K6 := Lib.hid (thru K5.out kk); have HT6 := Lib.hid (hT.keep _ _ _ _ HT5.out kk); clear kk))
      by_cases hin : 0 ≤ z ∧ z < (k : Int)
      · obtain ⟨hz0, hz1⟩ := hin
        go_wp2_with fail
        go_ret
        exact ⟨rfl, K6.out⟩
      · have hz : ¬ hasT bs z := fun h => hin ⟨h.1, by have := h.2; rw [← HN.out] at this; exact this⟩
        have GB : Hid (∀ w', T w' p bs → Calls Try.prog 15 #[.pointer (some p), .int .i64 z] w' fun r w'' => r = .returned noB.v ∧ Below w'.heap.size w' w'') := Lib.hid fun w' h => (show boxT bs z = noB by unfold boxT; rw [if_neg hz]) ▸ hT.box w' p bs z h
        have GP : Hid (∀ w', T w' p bs → Calls Try.prog 17 #[.pointer (some p), .int .i64 z] w' fun r w'' => r = .returned (.int .i64 (-1)) ∧ Below w'.heap.size w' w'') := Lib.hid fun w' h => (show parT bs z = -1 by unfold parT; rw [if_neg hz]) ▸ hT.parent w' p bs z h
        have GE : Hid (∀ w', T w' p bs → Calls Try.prog 19 #[.pointer (some p), .int .i64 z] w' fun r w'' => r = .returned (.int .i64 (-1)) ∧ Below w'.heap.size w' w'') := Lib.hid fun w' h => (show enT bs z = -1 by unfold enT; rw [if_neg hz]) ▸ hT.en w' p bs z h
        have GC : Hid (∀ w', T w' p bs → Calls Try.prog 21 #[.pointer (some p), .int .i64 z] w' fun r w'' => r = .returned (.int .i64 (-1)) ∧ Below w'.heap.size w' w'') := Lib.hid fun w' h => (show ctxT bs z = -1 by unfold ctxT; rw [if_neg hz]) ▸ hT.ctx w' p bs z h
        have GK : Hid (∀ w', T w' p bs → Calls Try.prog 24 #[.pointer (some p), .int .i64 z] w' fun r w'' => (∃ A1 c1, r = .returned (.slice A1 0 c1)) ∧ Below w'.heap.size w' w'') := Lib.hid fun w' h => by
          have e : kidsT bs z = [] := by unfold kidsT; rw [if_neg hz]
          refine (hT.kidsL w' p bs z h).mono ?_
          rintro r w'' ⟨u, rfl, ⟨A1, c1, rfl, -⟩, kk⟩
          rw [e]
          exact ⟨⟨A1, c1, rfl⟩, kk⟩
        have E2 := fun w => eqBox noB w
        unfold noB at E2 GB
        clear hz
        rcases (show z < 0 ∨ (0 ≤ z ∧ (k : Int) ≤ z) by omega) with hz0 | ⟨hz0, hz1⟩
        all_goals
          go_wp2_with (first
            | (go_at_call 15; refine (GB.out _ HT6.out).mono ?_; rintro r w7 ⟨rfl, kk⟩; have K7 := Lib.hid (thru K6.out kk); have HT7 := Lib.hid (hT.keep _ _ _ _ HT6.out kk); clear kk)
            | (go_at_call 17; refine (GP.out _ HT7.out).mono ?_; rintro r w8 ⟨rfl, kk⟩; have K8 := Lib.hid (thru K7.out kk); have HT8 := Lib.hid (hT.keep _ _ _ _ HT7.out kk); clear kk)
            | (go_at_call 19; refine (GE.out _ HT8.out).mono ?_; rintro r w9 ⟨rfl, kk⟩; have K9 := Lib.hid (thru K8.out kk); have HT9 := Lib.hid (hT.keep _ _ _ _ HT8.out kk); clear kk)
            | (go_at_call 24; refine (GK.out _ HT9.out).mono ?_; rintro r wa ⟨⟨A2, c2, rfl⟩, kk⟩; have Ka := Lib.hid (thru K9.out kk); have HTa := Lib.hid (hT.keep _ _ _ _ HT9.out kk); clear kk)
            | (go_at_call 21; refine (GC.out _ HTa.out).mono ?_; rintro r wb ⟨rfl, kk⟩; have Kb := Lib.hid (thru Ka.out kk); clear kk))
          go_ret
          exact ⟨rfl, Kb.out⟩

set_option maxRecDepth 100000 in
set_option maxHeartbeats 1000000 in
theorem stands_no (hT : TreeOk T) (A : Option Addr) (n c : Nat) (bs : List Bx) (z : Int) (w : World) (a e : Int) (hn : n = bs.length) (hlen : n ≤ 100) (hx : Boxes w w.heap.size A bs) (hc : chk bs = (a, e)) (he : e ≠ 0) :
    Calls Try.prog 4 #[.slice A n c, .int .i64 z] w fun r w' => r = .returned (.bool true) ∧ Below w.heap.size w w' := by
  have HX := Lib.hid hx
  have HN := Lib.hid hn
  have HC := Lib.hid hc
  clear hx hn hc
  have he' : (e == 0) = false := by simp [he]
  go_enter Try.func4, Try.ntmps4
  go_wp2_with fail
  refine (speaks_any hT _).mono ?_; rintro r w1 ⟨rfl, k1⟩
  have K1 := Lib.hid k1
  clear k1
  go_wp2_with fail
  refine (refchk_any A n c bs a e w1 HN.out (by omega) (HX.out.thru K1.out) HC.out).mono ?_; rintro r w2 ⟨rfl, k2⟩
  have K2 := Lib.hid (thru K1.out k2)
  clear k2 K1
  go_wp2_with fail
  go_ret
  exact ⟨rfl, K2.out⟩

set_option maxRecDepth 100000 in
set_option maxHeartbeats 1000000 in
theorem stands_long (hT : TreeOk T) (A : Option Addr) (n c : Nat) (z : Int) (w : World) (h : ¬ n ≤ 100) :
    Calls Try.prog 4 #[.slice A n c, .int .i64 z] w fun r w' => r = .returned (.bool true) ∧ Below w.heap.size w w' := by
  have h1 : (100 : Int) < (n : Int) := by omega
  clear h
  go_enter Try.func4, Try.ntmps4
  go_wp2_with fail
  refine (speaks_any hT _).mono ?_; rintro r w1 ⟨rfl, k1⟩
  go_wp2_with fail
  refine (speaks_any hT _).mono ?_; rintro r w2 ⟨rfl, k2⟩
  go_wp2_with fail
  go_ret
  exact ⟨rfl, thru k1 k2⟩

theorem stands_any (hT : TreeOk T) (A : Option Addr) (n c : Nat) (bs : List Bx) (z : Int) (w : World) (hn : n = bs.length) (hx : Boxes w w.heap.size A bs) (hb : ∀ b ∈ bs, OkB b) :
    Calls Try.prog 4 #[.slice A n c, .int .i64 z] w fun r w' => r = .returned (.bool true) ∧ Below w.heap.size w w' := by
  by_cases h : n ≤ 100
  · obtain ⟨a, e, hc⟩ : ∃ a e, chk bs = (a, e) := ⟨_, _, rfl⟩
    by_cases he : e = 0
    · subst he
      obtain ⟨-, h0, hf⟩ := chk_ok hn hc
      exact stands_yes hT A n c bs z w hn h h0 hx hb hf
    · exact stands_no hT A n c bs z w a e hn h hx hc he
  · exact stands_long hT A n c z w h

end
end Go.Proofs.Ytmmmlegjhblfaaa.Tree
