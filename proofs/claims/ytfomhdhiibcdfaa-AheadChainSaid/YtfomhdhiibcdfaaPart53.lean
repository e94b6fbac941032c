/- The law of chains, of lists that are neither too long nor empty. -/
import Derived.Test.YtfomhdhiibcdfaaPart52
namespace Go.Proofs.Ytfomhdhiibcdfaa.Ahead
open Go.RowKit Go.Sort Go.Proofs.Ytfomhdhiibcdfaa.More Go.Proofs.Ytfomhdhiibcdfaa.Record Go.Proofs.Ytfomhdhiibcdfaa.Script Go.Proofs.Ytfomhdhiibcdfaa.Tree Go.Proofs.Ytfomhdhiibcdfaa.Shelf Go.Proofs.Ytfomhdhiibcdfaa.Space Go.Proofs.Ytfomhdhiibcdfaa.Spot
set_option linter.unusedVariables false
set_option linter.unusedSimpArgs false

/-- All that the end of the law wants of the chain's list. -/
structure ChainFacts (ml : List (Int × Int)) (high : Bool) : Prop where
  len : (chainBs high ml).length = ml.length + 1
  fine : Fine (chainBs high ml) (chainBs high ml).length
  ok : ∀ b ∈ chainBs high ml, OkB b
  chk : chk (chainBs high ml) = (-1, 0)
  wood : Wood (chainBs high ml)
  into : ∀ y : Int, intoT (chainBs high ml) [] 1 ⟨⟨y, [], false, false⟩, false, false, false⟩ = ⟨⟨y, chainI high ml, false, false⟩, false, false, high⟩

theorem chain_facts (ml : List (Int × Int)) (high : Bool) (h0 : 0 < ml.length) (h40 : ml.length ≤ 40) (hm : SmallP ml) : ChainFacts ml high := by
  have hl := chainBs_len high ml
  have hf := chainBs_fine high ml h40 hm
  refine ⟨hl, hf, chain_okB high ml h40 hm, chk_fine rfl (by omega) hf, wood_of hf (by omega), fun y => ?_⟩
  have hc := chainBs_chain high ml
  have h1 : 1 < (chainBs high ml).length := by omega
  have hk := (hc.kind 1 (Nat.le_refl _) h1).1
  have ha : (!(⟨⟨y, [], false, false⟩, false, false, false⟩ : Rl).e && asks (chainBs high ml) 1) = true := by
    unfold asks
    have e : boxT (chainBs high ml) 1 = (chainBs high ml).getD 1 noB := boxT_nat (i := 1) h1
    have hh : hasT (chainBs high ml) 1 := ⟨by omega, by omega⟩
    rw [e, hk, decide_eq_true hh]
    rfl
  unfold intoT
  rw [if_pos ha]
  obtain _ | ⟨⟨a, b⟩, rest⟩ := ml
  · simp at h0
  · exact chain_into rest a b 1 hc _ rfl

set_option maxRecDepth 100000 in
set_option maxHeartbeats 2000000 in
theorem chain_yes {T : World → Addr → List Bx → Prop} {S : World → (Nat → Prop) → Addr → List Fl → Prop} (hT : TreeOk T) (hS : SpaceOk S) (hA : AheadOk T S) (ad0 : Addr) (n c : Nat) (ml : List (Int × Int)) (y : Int) (high : Bool) (w : World)
    (hn : n = ml.length) (h0 : 0 < n) (h40 : n ≤ 40) (hy : -2147483648 ≤ y ∧ y ≤ 2147483647) (hb : SmallP ml) (hx : Pairs w w.heap.size (some ad0) ml) :
    Calls Try.prog 5 #[.slice (some ad0) n c, .int .i32 y, .bool high] w fun e w' => e = .returned (.bool true) ∧ Below w.heap.size w w' := by
  have hn40 : ¬ (40 : Int) < (n : Int) := by omega
  have hn0 : ((n : Int) == 0) = false := by simp; omega
  have hw32 : IntKind.i64.wrap y = y := IntWalk.i64_in _ (by omega)
  have HX := Lib.hid hx
  have HN := Lib.hid hn
  have HBd := Lib.hid hb
  have HCF := Lib.hid (chain_facts ml high (by omega) (by omega) hb)
  have HT0 := Lib.hid (chainT_zero ml)
  have HTn := Lib.hid (fun j a b h => chainT_next ml j a b h)
  have HWn := Lib.hid (fun j a b h => want_next high ml j a b h)
  have HY := Lib.hid (⟨hy, h0, h40⟩ : (-2147483648 ≤ y ∧ y ≤ 2147483647) ∧ 0 < n ∧ n ≤ 40)
  clear hx hn hb hy h40
  go_enter Try.func5, Try.ntmps5
  go_upto_region 3 with (first
    | (go_at_call 6; refine (hspeaks hT hS hA w).mono ?_; rintro e w1 ⟨rfl, k1⟩; have K1 := Lib.hid k1; clear k1))
  go_upto_region 4 with fail
  generalize hW : World.alloc w1 _ = W
  obtain ⟨b7, hb7⟩ : ∃ b, w1.heap.size = b := ⟨_, rfl⟩
  have hsz : w.heap.size ≤ w1.heap.size := K1.out.size
  have K2 := Lib.hid (show MineB 41 W w.heap.size (some ⟨b7, 0, none⟩) (0 + 1) 1 (chainT ml 0) ∧ Mine W w.heap.size none 0 0 (wantL high (ml.take 0)) ∧ Below w.heap.size w W ∧ ∀ k, blk (some ⟨b7, 0, none⟩) = some k → blk none ≠ some k from by
    rw [HT0.out, ← hW, ← hb7]
    refine ⟨?_, mine_none _ _, K1.out.alloc K1.out.size _, fun k _ e => by cases e⟩
    have := World.ownsRow_lit (e := 41) (size := 14) (base := w.heap.size) w1 (cellsOfB ⟨0, 3, 0, 0, 9, -1, 0, 0, 0, 0, 0, 0, 0, 0⟩).toArray 1 hsz (by unfold maxLen; omega) rfl
    unfold MineB
    simp only [List.flatMap_cons, List.flatMap_nil, List.append_nil]
    exact this)
  rw [hb7]
  clear hW hb7 hsz K1 HT0
  go_wp2_with fail
  go_loopw [7, 8, 31] (fun l wn i wr => ∃ (j : Nat) (A1 : Option Addr) (c1 : Nat) (A2 : Option Addr) (n2 c2 : Nat), j ≤ n ∧ i = .int .i64 (j : Int) ∧ l = .slice A1 (j + 1) c1 ∧ wn = .slice A2 n2 c2 ∧ Hid (MineB 41 wr w.heap.size A1 (j + 1) c1 (chainT ml j) ∧ Mine wr w.heap.size A2 n2 c2 (wantL high (ml.take j)) ∧ Below w.heap.size w wr ∧ ∀ k, blk A1 = some k → blk A2 ≠ some k)) (fun _ _ i _ => n - (intOf i).toNat)
  case atStart => exact ⟨0, _, _, _, _, _, Nat.zero_le _, rfl, rfl, rfl, K2⟩
  case round =>
    clear K2
    obtain ⟨j, A1, c1, A2, n2, c2, hj, rfl, rfl, rfl, H⟩ := hrel
    by_cases hlt : j < n
    · obtain ⟨⟨a, b⟩, hab⟩ : ∃ x, ml[j]? = some x := ⟨_, List.getElem?_eq_getElem (by rw [← HN.out]; exact hlt)⟩
      have hsm := HBd.out (a, b) (List.mem_of_getElem? hab)
      dsimp only at hsm
      have hwa : IntKind.i64.wrap a = a := IntWalk.i64_in _ (by omega)
      have hwb : IntKind.i64.wrap b = b := IntWalk.i64_in _ (by omega)
      have hji : (j : Int) < (n : Int) := by omega
      have hwj : IntKind.i64.wrap ((j : Int) + 1) = (j : Int) + 1 := IntWalk.i64_in _ (by have := HY.out; omega)
      obtain ⟨ad, hA0, _, hcx⟩ := (HX.out.below H.out.2.2.1) j (a, b) hab
      obtain rfl : ad0 = ad := by injection hA0
      obtain ⟨x0, x1⟩ := hcx
      have HTj := Lib.hid (HTn.out j a b hab)
      have HWj := Lib.hid (HWn.out j a b hab)
      have hn2 : n2 ≤ 200 := by
        have h1 := H.out.2.1.len
        have h2 := want_len high (ml.take j)
        rw [List.length_take] at h2
        have := HY.out
        omega
      clear hsm hab hA0
      go_upto_region 8 with fail
      generalize hV : World.alloc wr _ = V
      obtain ⟨pB, hpB⟩ : ∃ b, wr.heap.size = b := ⟨_, rfl⟩
      have kV : Below wr.heap.size wr V := by rw [← hV]; exact ba1 _ _
      have zP : Lies V pB [.int .i16 a, .int .i16 b] := by rw [← hV, ← hpB]; exact Lies.new wr _ _
      have hne1 : ∀ k, blk A1 = some k → k ≠ pB := fun k hk => by have := (H.out.1.lt k hk).2; omega
      have hne2 : ∀ k, blk A2 = some k → k ≠ pB := fun k hk => by have := (H.out.2.1.lt k hk).2; omega
      try rw [hpB]
      have KV := Lib.hid (⟨H.out.1.below kV, H.out.2.1.below kV, thru H.out.2.2.1 kV, H.out.2.2.2, zP, hne1, hne2⟩ : MineB 41 V w.heap.size A1 (j + 1) c1 (chainT ml j) ∧ Mine V w.heap.size A2 n2 c2 (wantL high (ml.take j)) ∧ Below w.heap.size w V ∧ (∀ k, blk A1 = some k → blk A2 ≠ some k) ∧ Lies V pB [.int .i16 a, .int .i16 b] ∧ (∀ k, blk A1 = some k → k ≠ pB) ∧ ∀ k, blk A2 = some k → k ≠ pB)
      clear hV hpB kV zP hne1 hne2 x0 x1 H
      have p0 := KV.out.2.2.2.2.1.at' 0
      have p1 := KV.out.2.2.2.2.1.at' 1
      change V.cell? ⟨pB, 0, none⟩ = some (.int .i16 a) at p0
      change V.cell? ⟨pB, 1, none⟩ = some (.int .i16 b) at p1
      have hszV := KV.out.2.2.1.size
      go_upto_region 9 with (first
        | (at_builtin; refine wpList_append_boxes infoRef _ rfl (.tmp 36) (.tmp 47) rfl w.heap.size A1 (j + 1) c1 (chainT ml j) rfl (KV.out.1.alloc _) (some ⟨V.heap.size, 0, none⟩) 1 1 [⟨(j : Int) + 1, 1, 0, 0, -1, -1, a, 0, b, 0, 0, 0, 0, 0⟩] rfl (oneB_src V ⟨(j : Int) + 1, 1, 0, 0, -1, -1, a, 0, b, 0, 0, 0, 0, 0⟩ 41) (by have := HY.out; omega) (by simp; omega) ?_; intro A3 c3 W3 g3))
      have K3 := Lib.hid (show MineB 41 W3 w.heap.size A3 (j + 1 + 1) c3 (chainT ml (j + 1)) ∧ Mine W3 w.heap.size A2 n2 c2 (wantL high (ml.take j)) ∧ Below w.heap.size w W3 ∧ (∀ k, blk A3 = some k → blk A2 ≠ some k) ∧ (W3.cell? ⟨pB, 0, none⟩ = some (.int .i16 a) ∧ W3.cell? ⟨pB, 1, none⟩ = some (.int .i16 b)) ∧ (∀ k, blk A2 = some k → k ≠ pB) ∧ pB < W3.heap.size from by
        have hpl : pB < V.heap.size := KV.out.2.2.2.2.1.lt (by simp)
        have hal : ∀ o : Obj, (V.alloc o).heap.size = V.heap.size + 1 := fun o => by simp
        refine ⟨by rw [HTj.out]; exact g3.1, (KV.out.2.1.alloc _).kept g3.2.1 (fun k hk e => KV.out.2.2.2.1 k e hk), g3.below (KV.out.1.alloc _) (KV.out.2.2.1.alloc hszV _) (Nat.le_refl _) (by simp; omega), fun k hk e => ?_, ⟨?_, ?_⟩, KV.out.2.2.2.2.2.2, by have := g3.2.1.size; rw [hal] at this; omega⟩
        · rcases g3.2.2 with q | q
          · exact KV.out.2.2.2.1 k (q ▸ hk) e
          · have := (KV.out.2.1.lt k e).2
            rw [q] at hk
            injection hk with hk
            rw [hal] at hk
            omega
        · rw [cell_grown g3.2.1 (by rw [hal]; omega) (fun e => KV.out.2.2.2.2.2.1 pB e.symm rfl)]
          exact (Lies.below KV.out.2.2.2.2.1 (by simp) (ba1 _ _)).at' 0
        · rw [cell_grown g3.2.1 (by rw [hal]; omega) (fun e => KV.out.2.2.2.2.2.1 pB e.symm rfl)]
          exact (Lies.below KV.out.2.2.2.2.1 (by simp) (ba1 _ _)).at' 1)
      clear g3 KV p0 p1 hszV
      have hsz3 := K3.out.2.2.1.size
      have p0 := K3.out.2.2.2.2.1.1
      have p1 := K3.out.2.2.2.2.1.2
      go_upto_region 10 with (first
        | (at_builtin; refine wpList_append_mine _ rfl (.tmp 49) (.tmp 53) rfl w.heap.size A2 n2 c2 (wantL high (ml.take j)) rfl (K3.out.2.1.alloc _) (some ⟨W3.heap.size, 0, none⟩) 1 1 [a] rfl (one_src W3 a) (by omega) (by simp; omega) ?_; intro A4 c4 W4 g4))
      have K4 := Lib.hid (show MineB 41 W4 w.heap.size A3 (j + 1 + 1) c3 (chainT ml (j + 1)) ∧ Mine W4 w.heap.size A4 (n2 + 1) c4 (wantL high (ml.take j) ++ [a]) ∧ Below w.heap.size w W4 ∧ (∀ k, blk A3 = some k → blk A4 ≠ some k) ∧ W4.cell? ⟨pB, 1, none⟩ = some (.int .i16 b) from by
        have hal : ∀ o : Obj, (W3.alloc o).heap.size = W3.heap.size + 1 := fun o => by simp
        refine ⟨(K3.out.1.alloc _).kept g4.2.1 (fun k hk e => K3.out.2.2.2.1 k hk e), g4.1, g4.below (K3.out.2.1.alloc _) (K3.out.2.2.1.alloc hsz3 _) (Nat.le_refl _) (by simp; omega), fun k hk e => ?_, ?_⟩
        · rcases g4.2.2 with q | q
          · exact K3.out.2.2.2.1 k hk (q ▸ e)
          · have := (K3.out.1.lt k hk).2
            rw [q] at e
            injection e with e
            rw [hal] at e
            omega
        · rw [cell_grown g4.2.1 (by rw [hal]; have := K3.out.2.2.2.2.2.2; omega) (fun e => K3.out.2.2.2.2.2.1 pB e.symm rfl)]
          exact ((ba1 W3 _).cell (p := ⟨pB, 1, none⟩) K3.out.2.2.2.2.2.2).trans p1)
      clear g4 p0 p1 K3 hsz3
      have p1 := K4.out.2.2.2.2
      have hsz4 := K4.out.2.2.1.size
      by_cases hj0 : j = 0
      · have hlj : ¬ (0 : Int) < (j : Int) := by omega
        have hwl := HWj.out
        rw [if_neg (by simp [hj0])] at hwl
        have HWl := Lib.hid hwl
        clear hwl
        go_wp2_with fail
        go_roundw
        case rel => exact ⟨j + 1, A3, c3, A4, n2 + 1, c4, by omega, by go_num, rfl, rfl, Lib.hid ⟨K4.out.1, by rw [HWl.out]; exact K4.out.2.1, K4.out.2.2.1, K4.out.2.2.2.1⟩⟩
        case measure => simp [intOf]; omega
      · have hlj : (0 : Int) < (j : Int) := by omega
        cases high with
        | true =>
          have hwl := HWj.out
          rw [if_neg (by simp)] at hwl
          have HWl := Lib.hid hwl
          clear hwl
          go_wp2_with fail
          go_roundw
          case rel => exact ⟨j + 1, A3, c3, A4, n2 + 1, c4, by omega, by go_num, rfl, rfl, Lib.hid ⟨K4.out.1, by rw [HWl.out]; exact K4.out.2.1, K4.out.2.2.1, K4.out.2.2.2.1⟩⟩
          case measure => simp [intOf]; omega
        | false =>
          have hwl := HWj.out
          rw [if_pos (by simp; omega), show ([a, b] : List Int) = [a] ++ [b] from rfl, ← List.append_assoc] at hwl
          have HWl := Lib.hid hwl
          clear hwl
          go_upto_region 12 with (first
            | (at_builtin; refine wpList_append_mine _ rfl (.tmp 61) (.tmp 65) rfl w.heap.size A4 (n2 + 1) c4 (wantL false (ml.take j) ++ [a]) rfl (K4.out.2.1.alloc _) (some ⟨W4.heap.size, 0, none⟩) 1 1 [b] rfl (one_src W4 b) (by omega) (by simp; omega) ?_; intro A5 c5 W5 g5))
          have K5 := Lib.hid (show MineB 41 W5 w.heap.size A3 (j + 1 + 1) c3 (chainT ml (j + 1)) ∧ Mine W5 w.heap.size A5 (n2 + 1 + 1) c5 (wantL false (ml.take (j + 1))) ∧ Below w.heap.size w W5 ∧ (∀ k, blk A3 = some k → blk A5 ≠ some k) from by
            refine ⟨(K4.out.1.alloc _).kept g5.2.1 (fun k hk e => K4.out.2.2.2.1 k hk e), by rw [HWl.out]; exact g5.1, g5.below (K4.out.2.1.alloc _) (K4.out.2.2.1.alloc hsz4 _) (Nat.le_refl _) (by simp; omega), fun k hk e => ?_⟩
            rcases g5.2.2 with q | q
            · exact K4.out.2.2.2.1 k hk (q ▸ e)
            · have := (K4.out.1.lt k hk).2
              rw [q] at e
              injection e with e
              simp at e
              omega)
          clear g5 p1 K4 hsz4
          go_wp2_with fail
          go_roundw
          case rel => exact ⟨j + 1, A3, c3, A5, n2 + 1 + 1, c5, by omega, by go_num, rfl, rfl, K5⟩
          case measure => simp [intOf]; omega
    · obtain rfl : j = n := by omega
      clear hlt HTn HWn
      have hm := H.out.1
      rw [chainT_all ml j HN.out] at hm
      have hwm := H.out.2.1
      rw [List.take_of_length_le (by rw [← HN.out]; exact Nat.le_refl _)] at hwm
      have KX := Lib.hid (⟨hm, hwm, H.out.2.2.1, H.out.2.2.2⟩ : MineB 41 wr w.heap.size A1 (j + 1) c1 (chainBs false ml) ∧ Mine wr w.heap.size A2 n2 c2 (wantL high ml) ∧ Below w.heap.size w wr ∧ ∀ k, blk A1 = some k → blk A2 ≠ some k)
      clear hm hwm H
      have hji : ¬ (j : Int) < (j : Int) := by omega
      obtain ⟨g, hg⟩ : ∃ g, A1 = some ⟨g, 0, none⟩ := by
        obtain ⟨g, e, -, -⟩ := KX.out.1.cells 0 _ (flat_at (chainBs false ml) 0 (by rw [chainBs_len]; omega) 0 _ rfl)
        exact ⟨g, e⟩
      subst hg
      cases high with
      | true =>
        have hcell := World.ownsRow.cellAt KX.out.1 (j * 14 + 5) (by omega)
        have hcv : wr.cell? ⟨g, j * 14 + 5, none⟩ = some (.int .i64 (-1)) := by
          rw [hcell]
          have e := flat_at (chainBs false ml) j (by rw [chainBs_len, HN.out]; omega) 5 _ rfl
          rw [e]
          congr 2
          have := (chainBs_chain false ml).hei j (by have := HY.out; omega) (by rw [chainBs_len, HN.out]; omega)
          rw [if_neg (by simp)] at this
          exact this
        clear hcell
        have hcf : wr.frozen? ⟨g, j * 14 + 5, none⟩ = false := World.ownsRow.frozenAt KX.out.1 _
        have hsub : IntKind.i64.wrap (((j + 1 : Nat) : Int) - 1) = (j : Int) := by rw [IntWalk.i64_in _ (by have := HY.out; omega)]; omega
        have hsub2 : IntKind.i64.wrap ((j : Int) + 1 - 1) = (j : Int) := by rw [IntWalk.i64_in _ (by have := HY.out; omega)]; omega
        have hj1 : (j : Int) < ((j + 1 : Nat) : Int) := by omega
        have hj2 : (j : Int) < (j : Int) + 1 := by omega
        have hj3 : ¬ (j : Int) < 0 := by omega
        have hj4 : ¬ j * 14 = 0 := by omega
        have hadd : ((⟨g, 0, none⟩ : Addr).add (j * 14)) = ⟨g, j * 14, none⟩ := by unfold Addr.add; rw [if_neg hj4]; simp
        go_upto_region 15 with fail
        generalize hU : World.setCell wr _ _ = U
        have KU := Lib.hid (show Boxes U U.heap.size (some ⟨g, 0, none⟩) (chainBs true ml) ∧ Mine U w.heap.size A2 n2 c2 (wantL true ml) ∧ Below w.heap.size w U from by
          have hb := boxes_high KX.out.1 j (by omega) 5
          rw [HN.out, ← chainBs_high ml (by rw [← HN.out]; exact HY.out.2.1), ← HN.out] at hb
          rw [← hU]
          have sv := Save.set (w := wr) g (j * 14 + 5) (.int .i64 5)
          exact ⟨hb, mine_save KX.out.2.1 sv (fun k hk e => KX.out.2.2.2 g rfl (e ▸ hk)), KX.out.2.2.1.trans (sv.blw (KX.out.1.lt g rfl).1 KX.out.2.2.1.size)⟩)
        clear hU KX hcv hcf hsub hsub2 hj1 hj2 hj3 hj4 hadd
        have hbe := hbeg_yes hT hS (some ⟨g, 0, none⟩) (j + 1) c1 (chainBs true ml) none 0 0 [] 0 none 0 0 [] false false false (-1) 0 U rfl (by omega) (fun k f hk => by simp at hk) rfl (nums0 _ _ _)
          (fun w' jj => refchk_any _ (j + 1) c1 (chainBs true ml) (-1) 0 w' (by rw [HCF.out.len, HN.out]) (by have := HY.out; omega) (KU.out.1.thru jj) HCF.out.chk) rfl (by have := HY.out; omega) (by omega) rfl (by omega) (by omega) (by omega) rfl rfl (by rw [HCF.out.len, HN.out]) KU.out.1 (by omega) HCF.out.ok (by have := HCF.out.fine; rwa [HCF.out.len, ← HN.out] at this)
        have HBe := Lib.hid hbe
        clear hbe
        obtain ⟨P, hP⟩ : ∃ P, Strut.mostOf (wantL true ml) = P := ⟨_, rfl⟩
        obtain ⟨Q, hQ⟩ : ∃ Q, Strut.leastOf (wantL true ml) = Q := ⟨_, rfl⟩
        have hne : ml ≠ [] := fun e => by have := HN.out; rw [e] at this; have := HY.out; simp at *; omega
        have HSp := Lib.hid (show (⟨y, chainI true ml, false, false⟩ : Rp).sp = ⟨y, P, Q, false, false⟩ ∧ (⟨y, wantL true ml, false, false⟩ : Rp).sp = ⟨y, P, Q, false, false⟩ from by
          have h2 : (⟨y, wantL true ml, false, false⟩ : Rp).sp = ⟨y, P, Q, false, false⟩ := by unfold Rp.sp; rw [hP, hQ]
          exact ⟨(chain_sp true y false false ml hne).trans h2, h2⟩)
        have HIn := Lib.hid (fun w' tp p F (ht : T w' tp (chainBs true ml)) (hs : S w' F p []) => by
          have q := hA.into w' tp F p (chainBs true ml) [] 1 ⟨⟨y, [], false, false⟩, false, false, false⟩ 0 ht hs HCF.out.wood rfl ⟨by show _ ≤ y ∧ y ≤ _; have := HY.out; omega, rfl, Nat.le_refl _⟩ (by rw [HCF.out.len]; have := HN.out; have := HY.out; omega)
          rw [HCF.out.into, show Rl.pv ⟨⟨y, [], false, false⟩, false, false, false⟩ = lpv ⟨y, 0, 0, false, false⟩ 0 false from rfl, show Rl.pv ⟨⟨y, chainI true ml, false, false⟩, false, false, true⟩ = lpv ⟨y, P, Q, false, false⟩ 0 true by unfold Rl.pv; rw [HSp.out.1]; rfl] at q
          exact q)
        have HOf := Lib.hid (fun w' (jj : Below U.heap.size U w') => by
          have hw := wantL_all true inB ml fun x hx => by
            have := HBd.out x hx
            exact ⟨by unfold inB; simp; omega, by unfold inB; simp; omega⟩
          have q := gof_any ⟨y, wantL true ml, false, false⟩ A2 n2 c2 w' ((Mine.held KU.out.2.1).below jj) ⟨by show _ ≤ y ∧ y ≤ _; have := HY.out; omega, hw.1, by have h2 := hw.2; have := HN.out; have := HY.out; show (wantL true ml).length ≤ 1000; omega⟩
          rw [HSp.out.2] at q
          exact q)
        clear hP hQ hne
        go_upto_region 16 with (first
          | (go_at_call 9; refine HBe.out.mono ?_; rintro e w5 ⟨⟨tp, p, F, rfl, ht, hs, -⟩, k5⟩; have K5 := Lib.hid (⟨ht, hs, k5⟩ : T w5 tp (chainBs true ml) ∧ S w5 F p [] ∧ Below U.heap.size U w5); clear ht hs k5))
        go_upto_region 19 with (first
          | (go_at_call 12; refine (HIn.out w5 tp p F K5.out.1 K5.out.2.1).mono ?_; rintro e w6 ⟨rfl, k6⟩; have K6 := Lib.hid (thru K5.out.2.2 k6); clear k6))
        generalize hW7 : World.alloc w6 _ = W7
        obtain ⟨b13, hb13⟩ : ∃ b, w6.heap.size = b := ⟨_, rfl⟩
        have z13 : Lies W7 b13 (lprow ⟨y, P, Q, false, false⟩ 0 true) := by rw [← hW7, ← hb13]; exact Lies.new w6 _ _
        have k7 : Below w6.heap.size w6 W7 := by rw [← hW7]; exact ba1 _ _
        try rw [hb13]
        have K7 := Lib.hid (thru K6.out k7)
        have HZ := Lib.hid (fun w' (jj : Below W7.heap.size W7 w') => z13.below (by simp) jj)
        clear hW7 hb13 z13 k7 K6
        refine HoldAll.wp_region_hold_all [.val (.pointer (some ⟨b13, 6, none⟩)), .val (.bool true), .val (.bool true), .val (.bool true), .val (.bool true), .val (.pointer (some ⟨b13, 5, none⟩)), .val (.int .i64 0), .val (.bool true), .val (.bool true), .val (.bool true), .val (.pointer (some ⟨b13, 0, none⟩)), .val (.agg #[.int .i64 y, .int .i64 P, .int .i64 Q, .bool false, .bool false]), .val (.int .i32 y), .val (.int .i64 y), .val (.slice A2 n2 c2), .val (.agg #[.int .i64 y, .slice A2 n2 c2, .bool false, .bool false]), .val (.agg #[.int .i64 y, .int .i64 P, .int .i64 Q, .bool false, .bool false]), .val (.bool true), .val (.bool true), .val (.bool true)] (by kernel_rfl) (by kernel_rfl) (by kernel_rfl) ?_ ?_
        · simp only [Hold.fill, Hold.Leave.value]
          refine ⟨?_, ?_, ?_, ?_, ?_, ?_, ?_, ?_, ?_, ?_, ?_, ?_, ?_, ?_, ?_, ?_, ?_, ?_, ?_, ?_, trivial⟩
          · intro gg w' hw hk
            go_simp
            exact ⟨rfl, rfl⟩
          · intro gg w' hw hk
            have q6 : w'.cell? ⟨b13, 6, none⟩ = some (.bool true) := (HZ.out w' hw).at' 6
            go_simp
            exact ⟨rfl, rfl⟩
          · intro gg w' hw hk
            go_simp
            exact ⟨rfl, rfl⟩
          · intro gg w' hw hk
            go_simp
            exact ⟨rfl, rfl⟩
          · intro gg w' hw hk
            go_simp
            exact ⟨rfl, rfl⟩
          · intro gg w' hw hk
            go_simp
            exact ⟨rfl, rfl⟩
          · intro gg w' hw hk
            have q5 : w'.cell? ⟨b13, 5, none⟩ = some (.int .i64 0) := (HZ.out w' hw).at' 5
            go_simp
            exact ⟨rfl, rfl⟩
          · intro gg w' hw hk
            go_simp
            exact ⟨rfl, rfl⟩
          · intro gg w' hw hk
            go_simp
            exact ⟨rfl, rfl⟩
          · intro gg w' hw hk
            go_simp
            exact ⟨rfl, rfl⟩
          · intro gg w' hw hk
            go_simp
            exact ⟨rfl, rfl⟩
          · intro gg w' hw hk
            have q0 : w'.cell? ⟨b13, 0, none⟩ = some (.int .i64 y) := (HZ.out w' hw).at' 0
            have q1 : w'.cell? ⟨b13, 1, none⟩ = some (.int .i64 P) := (HZ.out w' hw).at' 1
            have q2 : w'.cell? ⟨b13, 2, none⟩ = some (.int .i64 Q) := (HZ.out w' hw).at' 2
            have q3 : w'.cell? ⟨b13, 3, none⟩ = some (.bool false) := (HZ.out w' hw).at' 3
            have q4 : w'.cell? ⟨b13, 4, none⟩ = some (.bool false) := (HZ.out w' hw).at' 4
            go_simp
            exact ⟨rfl, rfl⟩
          · intro gg w' hw hk
            go_simp
            exact ⟨rfl, rfl⟩
          · intro gg w' hw hk
            go_simp
            exact ⟨rfl, rfl⟩
          · intro gg w' hw hk
            go_simp
            exact ⟨rfl, rfl⟩
          · intro gg w' hw hk
            go_simp
            exact ⟨rfl, rfl⟩
          · intro gg w' hw hk
            go_simp
            exact Hold.stays_call (HOf.out w' (thru K7.out hw))
          · intro gg w' hw hk
            go_simp
            exact ⟨rfl, rfl⟩
          · intro gg w' hw hk
            go_simp
            exact ⟨rfl, rfl⟩
          · intro gg w' hw hk
            go_simp
            exact ⟨rfl, rfl⟩
        intro gg w8 k8 hgg
        clear hgg
        simp only [Hold.fill, Hold.Leave.value]
        go_simp
        go_wp2_with fail
        go_ret
        exact ⟨rfl, thru (thru KU.out.2.2 K7.out) k8⟩
      | false =>
        have KU := Lib.hid (⟨KX.out.1.boxes, KX.out.2.1, KX.out.2.2.1⟩ : Boxes wr wr.heap.size (some ⟨g, 0, none⟩) (chainBs false ml) ∧ Mine wr w.heap.size A2 n2 c2 (wantL false ml) ∧ Below w.heap.size w wr)
        clear KX
        go_upto_region 15 with fail
        have hbe := hbeg_yes hT hS (some ⟨g, 0, none⟩) (j + 1) c1 (chainBs false ml) none 0 0 [] 0 none 0 0 [] false false false (-1) 0 wr rfl (by omega) (fun k f hk => by simp at hk) rfl (nums0 _ _ _)
          (fun w' jj => refchk_any _ (j + 1) c1 (chainBs false ml) (-1) 0 w' (by rw [HCF.out.len, HN.out]) (by have := HY.out; omega) (KU.out.1.thru jj) HCF.out.chk) rfl (by have := HY.out; omega) (by omega) rfl (by omega) (by omega) (by omega) rfl rfl (by rw [HCF.out.len, HN.out]) KU.out.1 (by omega) HCF.out.ok (by have := HCF.out.fine; rwa [HCF.out.len, ← HN.out] at this)
        have HBe := Lib.hid hbe
        clear hbe
        obtain ⟨P, hP⟩ : ∃ P, Strut.mostOf (wantL false ml) = P := ⟨_, rfl⟩
        obtain ⟨Q, hQ⟩ : ∃ Q, Strut.leastOf (wantL false ml) = Q := ⟨_, rfl⟩
        have hne : ml ≠ [] := fun e => by have := HN.out; rw [e] at this; have := HY.out; simp at *; omega
        have HSp := Lib.hid (show (⟨y, chainI false ml, false, false⟩ : Rp).sp = ⟨y, P, Q, false, false⟩ ∧ (⟨y, wantL false ml, false, false⟩ : Rp).sp = ⟨y, P, Q, false, false⟩ from by
          have h2 : (⟨y, wantL false ml, false, false⟩ : Rp).sp = ⟨y, P, Q, false, false⟩ := by unfold Rp.sp; rw [hP, hQ]
          exact ⟨(chain_sp false y false false ml hne).trans h2, h2⟩)
        have HIn := Lib.hid (fun w' tp p F (ht : T w' tp (chainBs false ml)) (hs : S w' F p []) => by
          have q := hA.into w' tp F p (chainBs false ml) [] 1 ⟨⟨y, [], false, false⟩, false, false, false⟩ 0 ht hs HCF.out.wood rfl ⟨by show _ ≤ y ∧ y ≤ _; have := HY.out; omega, rfl, Nat.le_refl _⟩ (by rw [HCF.out.len]; have := HN.out; have := HY.out; omega)
          rw [HCF.out.into, show Rl.pv ⟨⟨y, [], false, false⟩, false, false, false⟩ = lpv ⟨y, 0, 0, false, false⟩ 0 false from rfl, show Rl.pv ⟨⟨y, chainI false ml, false, false⟩, false, false, false⟩ = lpv ⟨y, P, Q, false, false⟩ 0 false by unfold Rl.pv; rw [HSp.out.1]; rfl] at q
          exact q)
        have HOf := Lib.hid (fun w' (jj : Below wr.heap.size wr w') => by
          have hw := wantL_all false inB ml fun x hx => by
            have := HBd.out x hx
            exact ⟨by unfold inB; simp; omega, by unfold inB; simp; omega⟩
          have q := gof_any ⟨y, wantL false ml, false, false⟩ A2 n2 c2 w' ((Mine.held KU.out.2.1).below jj) ⟨by show _ ≤ y ∧ y ≤ _; have := HY.out; omega, hw.1, by have h2 := hw.2; have := HN.out; have := HY.out; show (wantL false ml).length ≤ 1000; omega⟩
          rw [HSp.out.2] at q
          exact q)
        clear hP hQ hne
        go_upto_region 16 with (first
          | (go_at_call 9; refine HBe.out.mono ?_; rintro e w5 ⟨⟨tp, p, F, rfl, ht, hs, -⟩, k5⟩; have K5 := Lib.hid (⟨ht, hs, k5⟩ : T w5 tp (chainBs false ml) ∧ S w5 F p [] ∧ Below wr.heap.size wr w5); clear ht hs k5))
        go_upto_region 19 with (first
          | (go_at_call 12; refine (HIn.out w5 tp p F K5.out.1 K5.out.2.1).mono ?_; rintro e w6 ⟨rfl, k6⟩; have K6 := Lib.hid (thru K5.out.2.2 k6); clear k6))
        generalize hW7 : World.alloc w6 _ = W7
        obtain ⟨b13, hb13⟩ : ∃ b, w6.heap.size = b := ⟨_, rfl⟩
        have z13 : Lies W7 b13 (lprow ⟨y, P, Q, false, false⟩ 0 false) := by rw [← hW7, ← hb13]; exact Lies.new w6 _ _
        have k7 : Below w6.heap.size w6 W7 := by rw [← hW7]; exact ba1 _ _
        try rw [hb13]
        have K7 := Lib.hid (thru K6.out k7)
        have HZ := Lib.hid (fun w' (jj : Below W7.heap.size W7 w') => z13.below (by simp) jj)
        clear hW7 hb13 z13 k7 K6
        refine HoldAll.wp_region_hold_all [.val (.pointer (some ⟨b13, 6, none⟩)), .val (.bool false), .val (.bool false), .val (.bool true), .val (.bool true), .val (.pointer (some ⟨b13, 5, none⟩)), .val (.int .i64 0), .val (.bool true), .val (.bool true), .val (.bool true), .val (.pointer (some ⟨b13, 0, none⟩)), .val (.agg #[.int .i64 y, .int .i64 P, .int .i64 Q, .bool false, .bool false]), .val (.int .i32 y), .val (.int .i64 y), .val (.slice A2 n2 c2), .val (.agg #[.int .i64 y, .slice A2 n2 c2, .bool false, .bool false]), .val (.agg #[.int .i64 y, .int .i64 P, .int .i64 Q, .bool false, .bool false]), .val (.bool true), .val (.bool true), .val (.bool true)] (by kernel_rfl) (by kernel_rfl) (by kernel_rfl) ?_ ?_
        · simp only [Hold.fill, Hold.Leave.value]
          refine ⟨?_, ?_, ?_, ?_, ?_, ?_, ?_, ?_, ?_, ?_, ?_, ?_, ?_, ?_, ?_, ?_, ?_, ?_, ?_, ?_, trivial⟩
          · intro gg w' hw hk
            go_simp
            exact ⟨rfl, rfl⟩
          · intro gg w' hw hk
            have q6 : w'.cell? ⟨b13, 6, none⟩ = some (.bool false) := (HZ.out w' hw).at' 6
            go_simp
            exact ⟨rfl, rfl⟩
          · intro gg w' hw hk
            go_simp
            exact ⟨rfl, rfl⟩
          · intro gg w' hw hk
            go_simp
            exact ⟨rfl, rfl⟩
          · intro gg w' hw hk
            go_simp
            exact ⟨rfl, rfl⟩
          · intro gg w' hw hk
            go_simp
            exact ⟨rfl, rfl⟩
          · intro gg w' hw hk
            have q5 : w'.cell? ⟨b13, 5, none⟩ = some (.int .i64 0) := (HZ.out w' hw).at' 5
            go_simp
            exact ⟨rfl, rfl⟩
          · intro gg w' hw hk
            go_simp
            exact ⟨rfl, rfl⟩
          · intro gg w' hw hk
            go_simp
            exact ⟨rfl, rfl⟩
          · intro gg w' hw hk
            go_simp
            exact ⟨rfl, rfl⟩
          · intro gg w' hw hk
            go_simp
            exact ⟨rfl, rfl⟩
          · intro gg w' hw hk
            have q0 : w'.cell? ⟨b13, 0, none⟩ = some (.int .i64 y) := (HZ.out w' hw).at' 0
            have q1 : w'.cell? ⟨b13, 1, none⟩ = some (.int .i64 P) := (HZ.out w' hw).at' 1
            have q2 : w'.cell? ⟨b13, 2, none⟩ = some (.int .i64 Q) := (HZ.out w' hw).at' 2
            have q3 : w'.cell? ⟨b13, 3, none⟩ = some (.bool false) := (HZ.out w' hw).at' 3
            have q4 : w'.cell? ⟨b13, 4, none⟩ = some (.bool false) := (HZ.out w' hw).at' 4
            go_simp
            exact ⟨rfl, rfl⟩
          · intro gg w' hw hk
            go_simp
            exact ⟨rfl, rfl⟩
          · intro gg w' hw hk
            go_simp
            exact ⟨rfl, rfl⟩
          · intro gg w' hw hk
            go_simp
            exact ⟨rfl, rfl⟩
          · intro gg w' hw hk
            go_simp
            exact ⟨rfl, rfl⟩
          · intro gg w' hw hk
            go_simp
            exact Hold.stays_call (HOf.out w' (thru K7.out hw))
          · intro gg w' hw hk
            go_simp
            exact ⟨rfl, rfl⟩
          · intro gg w' hw hk
            go_simp
            exact ⟨rfl, rfl⟩
          · intro gg w' hw hk
            go_simp
            exact ⟨rfl, rfl⟩
        intro gg w8 k8 hgg
        clear hgg
        simp only [Hold.fill, Hold.Leave.value]
        go_simp
        go_wp2_with fail
        go_ret
        exact ⟨rfl, thru (thru KU.out.2.2 K7.out) k8⟩

end Go.Proofs.Ytfomhdhiibcdfaa.Ahead
