/- The contract of Build; all contracts of the program's trees, together. -/
import Derived.Test.YtfomhdhiibcdfaaGreatPart37
import Derived.Test.YtfomhdhiibcdfaaGreatPart39
import Derived.Laws.MakeOwn
namespace Go.Proofs.YtfomhdhiibcdfaaGreat.Tree
open Go.RowKit Go.Sort Go.Proofs.YtfomhdhiibcdfaaGreat.Record Go.Proofs.YtfomhdhiibcdfaaGreat.Script Go.Proofs.YtfomhdhiibcdfaaGreat.More

theorem ctx_step (d : Nat → Int) (o : Nat → Bool) (k p : Nat) (hp : par d k = p) : ctx d o k = if o p then p else ctx d o p := by
  unfold ctx
  rw [hp, Int.toNat_natCast]
  cases h : o p
  · rw [ctxN_next d o p h]; rfl
  · rw [ctxN_open d o p h]; rfl

theorem add_step (w : World) (B g : Nat) (A : Option Addr) (c : Nat) (bs : List Bx) (k : Nat) (hk : k < bs.length) (hlen : bs.length ≤ 1000) (hf : Fine bs k) (hB : B ≤ g) (hBw : B ≤ w.heap.size) (y : Bx) (hy : bs.getD k noB = y) (v : Int) (hv : badAt bs k = v) (hT : InT w B g A c (nodesE bs (fun _ => 0) k)) :
    Calls Tryz.prog 37 #[.pointer (some ⟨g, 0, none⟩), y.v] w fun e w' => e = .returned (.int .i64 v) ∧ (v = 0 → ∃ A' c', InT w' B g A' c' (nodesE bs (fun _ => 0) (k + 1))) ∧ Below B w w' := by
  have hl : (nodesE bs (fun _ => 0) k).length ≤ 1000 := by rw [nodesE_len]; omega
  have hd : dOf bs k = y.d := by unfold dOf; rw [hy]
  obtain ⟨u, hu⟩ : ∃ u, pickN (brokenOf y) = u := ⟨_, rfl⟩
  by_cases hu0 : u = 0
  · subst hu0
    rcases Nat.eq_zero_or_pos k with h0 | h0
    · subst h0
      obtain ⟨r, hr⟩ : ∃ r, rootB y = r := ⟨_, rfl⟩
      have hb := badAt_root hy hu hr
      cases r
      · have e : v = 12 := by rw [← hv, hb]; rfl
        subst e
        refine (add_nest w B g A c _ hT hl y hu (-1) (fun w' h => parentof_first w' B g A c h y false hr)).mono ?_
        rintro e w' ⟨rfl, k1⟩
        exact ⟨rfl, fun h => by omega, k1.mono hBw⟩
      · have e : v = 0 := by rw [← hv, hb]; rfl
        subst e
        refine (add_yes w B g A c _ hT hl hB hBw y hu (-1) 0 (fun w' h => parentof_first w' B g A c h y true hr) (fun w' _ => within_none w' g)).mono ?_
        rintro e w' ⟨rfl, ⟨A', c', h1⟩, k1⟩
        refine ⟨rfl, fun _ => ⟨A', c', ?_⟩, k1⟩
        rw [nodesE_next, par_zero, ctx_zero, hy]
        exact h1
    · by_cases hdeep : y.d = 0 ∨ dOf bs (k - 1) + 1 < y.d
      · have e : v = 12 := by rw [← hv, badAt_deep hy hu h0 hdeep]
        subst e
        refine (add_nest w B g A c _ hT hl y hu (-1) (fun w' h => parentof_deep w' B g A c bs _ k h0 (by omega) hf y hdeep h)).mono ?_
        rintro e w' ⟨rfl, k1⟩
        exact ⟨rfl, fun h => by omega, k1.mono hBw⟩
      · have hg := ((good_iff _).1 hu).d
        obtain ⟨p, hp, hpk, -, -⟩ := (hf.shape_next h0 (by omega) (by omega)).parent k h0 (by omega)
        obtain ⟨r, hr⟩ : ∃ r, fitsB (kOf bs p) y.k = r := ⟨_, rfl⟩
        have hb := badAt_fits hy hu h0 hdeep (v := r) (by rw [hp, Int.toNat_natCast]; exact hr)
        have hP : ∀ w', InT w' B g A c (nodesE bs (fun _ => 0) k) → Calls Tryz.prog 57 #[.pointer (some ⟨g, 0, none⟩), y.v] w' fun e w'' => e = .returned (.tuple #[.int .i64 (p : Int), .bool r]) ∧ Below w'.heap.size w' w'' :=
          fun w' h => parentof_fits w' B g A c bs _ k h0 (by omega) hf y hd (by omega) (by omega) (by omega) p hp r hr h
        cases r
        · have e : v = 12 := by rw [← hv, hb]; rfl
          subst e
          refine (add_nest w B g A c _ hT hl y hu p hP).mono ?_
          rintro e w' ⟨rfl, k1⟩
          exact ⟨rfl, fun h => by omega, k1.mono hBw⟩
        · have e : v = 0 := by rw [← hv, hb]; rfl
          subst e
          have hn : (nodesE bs (fun _ => 0) k).getD p noN = ⟨bs.getD p noB, par (dOf bs) p, 0, (ctx (dOf bs) (oOf bs) p : Int)⟩ := nodesE_at bs _ hpk
          refine (add_yes w B g A c _ hT hl hB hBw y hu p (ctx (dOf bs) (oOf bs) k : Int) hP (fun w' h => ?_)).mono ?_
          · have := within_any w' B g A c _ p (by rw [nodesE_len]; exact hpk) h (oOf bs p) (by rw [hn]; rfl)
            rw [hn] at this
            rw [ctx_step _ _ k p hp]
            cases ho : oOf bs p
            · rw [ho] at this; exact this
            · rw [ho] at this; exact this
          · rintro e w' ⟨rfl, ⟨A', c', h1⟩, k1⟩
            refine ⟨rfl, fun _ => ⟨A', c', ?_⟩, k1⟩
            rw [nodesE_next, hp, hy]
            exact h1
  · have e : v = u := by rw [← hv, badAt_check hy hu hu0]
    subst e
    refine (add_check w B g A c _ hT hl y v hu hu0).mono ?_
    rintro e w' ⟨rfl, k1⟩
    exact ⟨rfl, fun h => absurd h hu0, k1.mono hBw⟩

set_option maxHeartbeats 1000000 in
theorem build_none (A : Option Addr) (c : Nat) (w : World) :
    Calls Tryz.prog 18 #[.slice A 0 c] w fun r w' => r = .returned (.tuple #[.pointer none, .int .i64 (-1), .int .i64 15]) ∧ Below w.heap.size w w' := by
  go_enter Tryz.func18, Tryz.ntmps18
  go_wp2_with fail
  exact bodyPost_ret (v := .tuple #[.pointer none, .int .i64 (-1), .int .i64 15]) (by simp [results, Tryz.results18, go_sem]) rfl ⟨rfl, Below.refl _ _⟩

set_option maxRecDepth 100000 in
set_option maxHeartbeats 2000000 in
theorem build_some (A : Option Addr) (n c : Nat) (bs : List Bx) (w : World) (a e : Int) (hn : n = bs.length) (hlen : n ≤ 1000) (h0 : 0 < n) (hx : Boxes w w.heap.size A bs) (hc : chkF bs n 0 = (a, e)) :
    Calls Tryz.prog 18 #[.slice A n c] w fun r w' => ((e = 0 ∧ ∃ p, r = .returned (.tuple #[.pointer (some p), .int .i64 (-1), .int .i64 0]) ∧ InTree w' p bs) ∨ (e ≠ 0 ∧ r = .returned (.tuple #[.pointer none, .int .i64 a, .int .i64 e]))) ∧ Below w.heap.size w w' := by
  have HX := Lib.hid hx
  have HN := Lib.hid hn
  have HC := Lib.hid hc
  clear hx hn hc
  obtain ⟨-, z, -, hinfo⟩ := infoN
  obtain ⟨i0, hi0, hz0, hz1, hz2⟩ := info_parts hinfo
  obtain ⟨w0, hmk, hown, hg0⟩ := run_make_own (P := Tryz.prog) w w.heap.size 97 114 i0 z 17 Tryz.underlying97 hi0 hz0 hz1 .i64 .i64 n (by rw [hz2]; omega) (by unfold maxLen; omega) (Nat.le_refl _)
  have hB0 : Below w.heap.size w w0 := (Below.refl _ _).grown hg0 (Nat.le_refl _) (fun j e => by cases e)
  have hsz0 := hg0.size
  have hn0 : ((n : Int) == 0) = false := by rw [beq_eq_false_iff_ne]; omega
  have hmin : ¬ (65536 : Int) < (n : Int) := by omega
  have hmin2 : (n : Int) < 65536 := by omega
  have hmin3 : min (n : Int) 65536 = (n : Int) := by omega
  clear hi0 hz0 hz1 hz2 hinfo hg0
  go_enter Tryz.func18, Tryz.ntmps18
  go_upto_region 4 with fail
  obtain ⟨g, hg⟩ : ∃ g, w0.heap.size = g := ⟨_, rfl⟩
  have hT0 : InT (w0.alloc (.cells #[.slice (some ⟨w.heap.size, 0, none⟩) 0 n] 99)) w.heap.size w0.heap.size (some ⟨w.heap.size, 0, none⟩) n (nodesE bs (fun _ => 0) 0) :=
    ⟨Boxed.new _ _ _, World.ownsRow.alloc hown _⟩
  have hk0 : Below w.heap.size w (w0.alloc (.cells #[.slice (some ⟨w.heap.size, 0, none⟩) 0 n] 99)) := hB0.alloc hsz0 _
  generalize w0.alloc (.cells #[.slice (some ⟨w.heap.size, 0, none⟩) 0 n] 99) = W4 at *
  rw [hg] at hT0 hsz0 ⊢
  have HT0 := Lib.hid hT0
  have HK0 := Lib.hid hk0
  clear hmk hown hT0 hk0 hB0 hg
  go_wp2_with fail
  go_loopw [20] (fun s wr => ∃ k : Nat, ∃ A' : Option Addr, ∃ c' : Nat, k ≤ n ∧ s = .int .i64 (k : Int) ∧ Hid (Fine bs k ∧ chkF bs (n - k) k = (a, e) ∧ InT wr w.heap.size g A' c' (nodesE bs (fun _ => 0) k) ∧ Below w.heap.size w wr)) (fun s _ => n - (intOf s).toNat)
  case atStart => exact ⟨0, _, _, Nat.zero_le _, rfl, Lib.hid ⟨fun j hj => by omega, HC.out, HT0.out, HK0.out⟩⟩
  case round =>
    clear HT0 HK0 HC
    obtain ⟨k, A', c', hk, rfl, H⟩ := hrel
    by_cases hlt : k < n
    · obtain ⟨ad, hA, hab, hcx⟩ := (HX.out.below H.out.2.2.2) k (by rw [← HN.out]; exact hlt)
      subst hA
      obtain ⟨y, hy⟩ : ∃ y, bs.getD k noB = y := ⟨_, rfl⟩
      rw [hy] at hcx
      have HY := Lib.hid hy
      have HW : Hid (chkF bs (n - (k + 1) + 1) k = (a, e)) := Lib.hid (by rw [show n - (k + 1) + 1 = n - k by omega]; exact H.out.2.1)
      clear hy hab
      obtain ⟨c0, c1, c2, c3, c4, c5, c6, c7, c8, c9, c10, c11, c12, c13⟩ := hcx
      have hkn : (k : Int) < (n : Int) := by omega
      have hwk : IntKind.i64.wrap ((k : Int) + 1) = ((k + 1 : Nat) : Int) := by rw [IntWalk.i64_in _ (by omega)]; omega
      go_upto_region 7 with (first
        | (refine wpList_store_row rfl 64 (.tmp 7) (.tmp 24) rfl wr.heap.size (cellsOfB y).toArray rfl rfl 64 zeroB (heap_alloc_new wr _) sizeB rfl (all_oneCell_toArray (cellsOfB_one y)) ?_))
      clear c0 c1 c2 c3 c4 c5 c6 c7 c8 c9 c10 c11 c12 c13
      have hk2 := below_setRow (ba1 wr (.cells zeroB 64)) (Nat.le_refl _) (cellsOfB y).toArray
      have hz2 := setRow_heap _ _ _ (cellsOfB y).toArray _ _ (heap_alloc_new wr (.cells zeroB 64))
      generalize hW2 : World.setRow (wr.alloc _) _ _ = W2
      have hk3 : Below wr.heap.size wr W2 := by rw [← hW2]; exact hk2
      have hz3 : W2.heap[wr.heap.size]? = some (.cells (cellsOfB y).toArray 64) := by rw [← hW2]; exact hz2
      have HT2 := Lib.hid (H.out.2.2.1.below hk3)
      have HK2 := Lib.hid (thru H.out.2.2.2 hk3)
      clear hk2 hz2 hW2 hk3
      obtain ⟨v, hv⟩ : ∃ v, badAt bs k = v := ⟨_, rfl⟩
      have HV := Lib.hid hv
      have HS := Lib.hid (add_step W2 w.heap.size g A' c' bs k (by rw [← HN.out]; exact hlt) (by rw [← HN.out]; exact hlen) H.out.1 hsz0 HK2.out.size y HY.out v hv HT2.out)
      clear hv
      by_cases hv0 : v = 0
      · subst hv0
        go_wp2_with (first
          | (refine wpList_load_row rfl 64 (.tmp 7) rfl wr.heap.size rfl 64 (cellsOfB y).toArray _ _ hz3 Tryz.underlying64 rfl sizeB ?_)
          | (go_at_call 37; refine HS.out.mono ?_; rintro e w3 ⟨rfl, h3, k3⟩; have H3 := Lib.hid (h3 rfl); have K3 := Lib.hid (HK2.out.trans k3); clear h3 k3))
        go_roundw
        case rel =>
          obtain ⟨A3, c3, h3⟩ := H3.out
          refine ⟨k + 1, A3, c3, by omega, by go_num, Lib.hid ⟨H.out.1.next HV.out, nextF HW.out HV.out, h3, K3.out⟩⟩
        case measure => simp [intOf]; omega
      · have hv1 : (v == 0) = false := by rw [beq_eq_false_iff_ne]; exact hv0
        obtain ⟨h1, h2⟩ := leaf HW.out HV.out hv0
        have HA := Lib.hid h1
        have HE := Lib.hid h2
        have HV0 := Lib.hid hv0
        clear h1 h2 hv0
        go_upto_region 8 with (first
          | (refine wpList_load_row rfl 64 (.tmp 7) rfl wr.heap.size rfl 64 (cellsOfB y).toArray _ _ hz3 Tryz.underlying64 rfl sizeB ?_)
          | (go_at_call 37; refine HS.out.mono ?_; rintro e w3 ⟨rfl, h3, k3⟩; have K3 := Lib.hid (HK2.out.trans k3); clear h3 k3))
        clear hwk hmin hmin2 hmin3 hn0 hz3 hkn
        go_wp2_with fail
        exact bodyPost_ret (v := .tuple #[.pointer none, .int .i64 (k : Int), .int .i64 v]) (by simp [results, Tryz.results18, go_sem]) rfl ⟨.inr ⟨by rw [HE.out]; exact HV0.out, by rw [HA.out, HE.out]⟩, K3.out⟩
    · obtain rfl : k = n := by omega
      have hc := H.out.2.1
      rw [Nat.sub_self, chkF] at hc
      injection hc with hc1 hc2
      have HE := Lib.hid hc2
      clear hc1 hc2
      have hN := HN.out
      have hT := H.out.2.2.1
      have HSE := Lib.hid (callsIn_wide.1 (setends_yes wr w.heap.size g A' c' bs (by rw [← hN]; exact hlen) (by rw [← hN]; exact h0) (by rw [← hN]; exact H.out.1) H.out.2.2.2.size (by rw [← hN]; exact hT)))
      go_wp2_with (first
        | (go_at_call 38; refine HSE.out.mono ?_; rintro e w3 ⟨⟨v, rfl⟩, h3, k3⟩))
      refine bodyPost_ret (v := .tuple #[.pointer (some ⟨g, 0, none⟩), .int .i64 (-1), .int .i64 0]) (by simp [results, Tryz.results18, go_sem]) rfl ⟨.inl ⟨HE.out.symm, _, rfl, g, A', c', rfl, by rw [← hN]; exact h0, by rw [← hN]; exact hlen, by rw [← hN]; exact H.out.1, h3.box, h3.mine.mono (Nat.zero_le _)⟩, H.out.2.2.2.trans k3⟩

theorem in_box (w : World) (p : Addr) (bs : List Bx) (i : Int) (h : InTree w p bs) : Calls Tryz.prog 43 #[.pointer (some p), .int .i64 i] w fun r w' => r = .returned (boxT bs i).v ∧ Below w.heap.size w w' := by
  obtain ⟨g, A, c, rfl, h0, h1, h2, h3⟩ := h
  have := tbox_any w 0 g A c _ i h3
  rwa [nodeAt_is] at this

theorem in_en (w : World) (p : Addr) (bs : List Bx) (i : Int) (h : InTree w p bs) : Calls Tryz.prog 62 #[.pointer (some p), .int .i64 i] w fun r w' => r = .returned (.int .i64 (enT bs i)) ∧ Below w.heap.size w w' := by
  obtain ⟨g, A, c, rfl, h0, h1, h2, h3⟩ := h
  have := tend_any w 0 g A c _ i h3
  rwa [nodeAt_is] at this

/-- The program's trees are what the laws ask. -/
theorem treeOk : TreeOk InTree where
  keep w w' p bs h k := h.below k
  yes A n c bs w hn hlen h0 hx hb hf := by
    have hc := chk_fine hn h0 hf
    unfold chk at hc
    rw [if_neg (by omega), ← hn] at hc
    refine (build_some A n c bs w (-1) 0 hn hlen h0 hx hc).mono ?_
    rintro r w' ⟨⟨-, p, rfl, h⟩ | ⟨h, -⟩, k⟩
    · exact ⟨⟨p, rfl, h⟩, k⟩
    · exact absurd rfl h
  no A n c bs w a e hn hlen hx hb hc he := by
    rcases Nat.eq_zero_or_pos n with h0 | h0
    · subst h0
      unfold chk at hc
      rw [if_pos hn.symm] at hc
      injection hc with h1 h2
      subst h1 h2
      exact build_none A c w
    · unfold chk at hc
      rw [if_neg (by omega), ← hn] at hc
      refine (build_some A n c bs w a e hn hlen h0 hx hc).mono ?_
      rintro r w' ⟨⟨h, -⟩ | ⟨-, h⟩, k⟩
      · exact absurd h he
      · exact ⟨h, k⟩
  box := in_box
  en := in_en

end Go.Proofs.YtfomhdhiibcdfaaGreat.Tree
