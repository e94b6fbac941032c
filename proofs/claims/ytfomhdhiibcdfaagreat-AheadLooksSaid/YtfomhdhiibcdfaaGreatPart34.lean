/- The contracts of contextWithin, mayBeFirst and parentOf. -/
import Derived.Test.YtfomhdhiibcdfaaGreatPart33
namespace Go.Proofs.YtfomhdhiibcdfaaGreat.Tree
open Go.RowKit Go.Sort Go.Proofs.YtfomhdhiibcdfaaGreat.Record Go.Proofs.YtfomhdhiibcdfaaGreat.Script Go.Proofs.YtfomhdhiibcdfaaGreat.More

/-- The nodes of the first k boxes; where they end is told by e. -/
def nodesE (bs : List Bx) (e : Nat → Int) (k : Nat) : List Nd := (List.range k).map fun i => ⟨bs.getD i noB, par (dOf bs) i, e i, (ctx (dOf bs) (oOf bs) i : Int)⟩

theorem nodesE_len (bs : List Bx) (e : Nat → Int) (k : Nat) : (nodesE bs e k).length = k := by simp [nodesE]

theorem nodesE_at (bs : List Bx) (e : Nat → Int) {k j : Nat} (h : j < k) : (nodesE bs e k).getD j noN = ⟨bs.getD j noB, par (dOf bs) j, e j, (ctx (dOf bs) (oOf bs) j : Int)⟩ := by
  simp [nodesE, List.getD, h]

theorem nodesE_next (bs : List Bx) (e : Nat → Int) (k : Nat) : nodesE bs e (k + 1) = nodesE bs e k ++ [⟨bs.getD k noB, par (dOf bs) k, e k, (ctx (dOf bs) (oOf bs) k : Int)⟩] := by
  simp [nodesE, List.range_succ]

set_option maxRecDepth 100000 in
set_option maxHeartbeats 1000000 in
theorem mayfirst_is (b : Bx) (v : Bool) (hv : rootB b = v) (w : World) :
    Calls Tryz.prog 70 #[b.v] w fun e w' => e = .returned (.bool v) ∧ Below w.heap.size w w' := by
  have HV := Lib.hid hv
  clear hv
  go_enter Tryz.func70, Tryz.ntmps70
  go_upto_region 1 with fail
  generalize hW : World.alloc _ _ = W
  obtain ⟨at1, k1⟩ := Record.box_in b hW
  clear hW
  obtain ⟨c0, c1, c2, c3, c4, c5, c6, c7, c8, c9, c10, c11, c12, c13⟩ := at1
  have E := eq22
  obtain ⟨mv, hmv⟩ : ∃ mv, (b.m0 == 0 && b.m1 == 0 && b.m2 == 0 && b.m3 == 0) = mv := ⟨_, rfl⟩
  have hr := HV.out
  unfold rootB at hr
  rw [hmv] at hr
  by_cases b0 : b.k = 3
  · have b0' : (b.k == 3) = true := by simp [b0]
    rw [b0'] at hr
    by_cases b1 : b.d = 0
    · have b1' : (b.d == 0) = true := by simp [b1]
      rw [b1'] at hr
      by_cases b2 : b.w < 0
      · rw [decide_eq_true b2] at hr
        obtain rfl : false = v := by simpa using hr
        go_wp2_with fail
        go_ret
        exact ⟨rfl, k1⟩
      · rw [decide_eq_false b2] at hr
        cases mv
        · obtain rfl : false = v := by simpa using hr
          go_wp2_with fail
          go_ret
          exact ⟨rfl, k1⟩
        · by_cases b3 : b.c = 0
          · have b3' : (b.c == 0) = true := by simp [b3]
            rw [b3'] at hr
            obtain rfl : true = v := by simpa using hr
            go_wp2_with fail
            go_ret
            exact ⟨rfl, k1⟩
          · have b3' : (b.c == 0) = false := by simp [b3]
            rw [b3'] at hr
            obtain rfl : false = v := by simpa using hr
            go_wp2_with fail
            go_ret
            exact ⟨rfl, k1⟩
    · have b1' : (b.d == 0) = false := by simp [b1]
      rw [b1'] at hr
      obtain rfl : false = v := by simpa using hr
      go_wp2_with fail
      go_ret
      exact ⟨rfl, k1⟩
  · have b0' : (b.k == 3) = false := by simp [b0]
    rw [b0'] at hr
    obtain rfl : false = v := by simpa using hr
    go_wp2_with fail
    go_ret
    exact ⟨rfl, k1⟩

set_option maxRecDepth 100000 in
set_option maxHeartbeats 1000000 in
theorem within_any (w : World) (B g : Nat) (A : Option Addr) (c : Nat) (ns : List Nd) (j : Nat) (hj : j < ns.length) (hT : InT w B g A c ns) (v : Bool) (hv : openB (ns.getD j noN).b.k = v) :
    Calls Tryz.prog 58 #[.pointer (some ⟨g, 0, none⟩), .int .i64 (j : Int)] w fun e w' => e = .returned (.int .i64 (if v then (j : Int) else (ns.getD j noN).c)) ∧ Below w.heap.size w w' := by
  have hc := hT.box.cell
  obtain ⟨a, rfl, ha, hcap, hx⟩ := hT.at j hj
  generalize ns.getD j noN = x at *
  obtain ⟨⟨-, c1, -⟩, -, -, c16⟩ := hx
  generalize ns.length = n at *
  have HV := Lib.hid hv
  have hg1 : ¬ (j : Int) < 0 := by omega
  have hg2 : ¬ (n : Int) ≤ (j : Int) := by omega
  have hj1 : ((j : Int) == -1) = false := by rw [beq_eq_false_iff_ne]; omega
  clear hT hv
  go_enter Tryz.func58, Tryz.ntmps58
  cases v
  · go_wp2_with (first | (go_at_call 72; refine (open_is _ _ HV.out _).mono ?_; rintro e w1 ⟨rfl, rfl⟩))
    go_ret
    exact ⟨rfl, Below.refl _ _⟩
  · go_wp2_with (first | (go_at_call 72; refine (open_is _ _ HV.out _).mono ?_; rintro e w1 ⟨rfl, rfl⟩))
    go_ret
    exact ⟨rfl, Below.refl _ _⟩

set_option maxHeartbeats 1000000 in
theorem within_none (w : World) (g : Nat) :
    Calls Tryz.prog 58 #[.pointer (some ⟨g, 0, none⟩), .int .i64 (-1)] w fun e w' => e = .returned (.int .i64 0) ∧ Below w.heap.size w w' := by
  go_enter Tryz.func58, Tryz.ntmps58
  go_wp2_with fail
  go_ret
  exact ⟨rfl, Below.refl _ _⟩

theorem fits_r {p c : Int} {v : Bool} {W : World} (hv : fitsB p c = v) {d : Nat} {os : Array Obj} :
    Calls Tryz.prog 71 #[.int .i64 p, .int .i64 c] (grow (redrawn W d) os) fun e w' => e = .returned (.bool v) ∧ Below (grow (redrawn W d) os).heap.size (grow (redrawn W d) os) w' :=
  (fits_is p c v hv _).mono fun _ _ ⟨he, hw⟩ => ⟨he, by subst hw; exact Below.refl _ _⟩

theorem parD_skip (d : Nat → Int) (x : Int) (q : Nat) : ∀ k, q + 1 ≤ k → (∀ m, q < m → m < k → d m ≠ x - 1) → parD d x k = parD d x (q + 1)
  | 0, h, _ => by omega
  | k + 1, h, hm => by
    by_cases e : k = q
    · rw [e]
    · rw [parD, if_neg (hm k (by omega) (by omega))]
      exact parD_skip d x q k (by omega) (fun m a b => hm m a (by omega))

theorem par_step {d : Nat → Int} {n : Nat} (h : Shape d n) (x : Int) (hx : 1 ≤ x) (j : Nat) (hj : j < n) (hy : x ≤ d j) : ∃ q : Nat, par d j = q ∧ q < j ∧ x - 1 ≤ d q ∧ parD d x (j + 1) = parD d x (q + 1) := by
  have h0 : 0 < j := by
    rcases Nat.eq_zero_or_pos j with e | e
    · subst e; rw [h.zero] at hy; omega
    · exact e
  obtain ⟨q, h1, h2, h3, h4⟩ := h.parent j h0 hj
  refine ⟨q, h1, h2, by omega, parD_skip d x q (j + 1) (by omega) fun m a b => ?_⟩
  by_cases e : m = j
  · subst e; omega
  · have := h4 m a (by omega); omega

theorem par_found {d : Nat → Int} {x : Int} {j : Nat} (h1 : d j < x) (h2 : x - 1 ≤ d j) : parD d x (j + 1) = j := by
  rw [parD, if_pos (by omega)]

set_option maxRecDepth 100000 in
set_option maxHeartbeats 1000000 in
theorem parentof_first (w : World) (B g : Nat) (A : Option Addr) (c : Nat) (hT : InT w B g A c []) (b : Bx) (v : Bool) (hv : rootB b = v) :
    Calls Tryz.prog 57 #[.pointer (some ⟨g, 0, none⟩), b.v] w fun e w' => e = .returned (.tuple #[.int .i64 (-1), .bool v]) ∧ Below w.heap.size w w' := by
  have HV := Lib.hid hv
  clear hv
  go_enter Tryz.func57, Tryz.ntmps57
  go_upto_region 1 with fail
  generalize hW : World.alloc _ _ = W
  obtain ⟨at1, k1⟩ := Record.box_in b hW
  have hc := (hT.below k1).box.cell
  clear hW hT
  obtain ⟨c0, c1, c2, c3, c4, c5, c6, c7, c8, c9, c10, c11, c12, c13⟩ := at1
  go_wp2_with (first | (go_at_call 70; refine (mayfirst_is b v HV.out _).mono ?_; rintro e w2 ⟨rfl, k2⟩))
  go_ret2
  exact ⟨rfl, thru k1 k2⟩

set_option maxRecDepth 100000 in
set_option maxHeartbeats 1000000 in
theorem parentof_deep (w : World) (B g : Nat) (A : Option Addr) (c : Nat) (bs : List Bx) (e : Nat → Int) (k : Nat) (hk : 0 < k) (hlen : k ≤ 100000) (hf : Fine bs k) (b : Bx) (hb : b.d = 0 ∨ dOf bs (k - 1) + 1 < b.d) (hT : InT w B g A c (nodesE bs e k)) :
    Calls Tryz.prog 57 #[.pointer (some ⟨g, 0, none⟩), b.v] w fun e w' => e = .returned (.tuple #[.int .i64 (-1), .bool false]) ∧ Below w.heap.size w w' := by
  obtain ⟨m, rfl⟩ : ∃ m, k = m + 1 := ⟨k - 1, by omega⟩
  have hzb := hf.depth (j := m) (by omega)
  rw [Nat.add_sub_cancel] at hb
  go_enter Tryz.func57, Tryz.ntmps57
  go_upto_region 1 with fail
  generalize hW : World.alloc _ _ = W
  obtain ⟨at1, k1⟩ := Record.box_in b hW
  have hT1 := hT.below k1
  clear hW hT
  obtain ⟨c0, -⟩ := at1
  have hc := hT1.box.cell
  obtain ⟨a, rfl, ha, hcap, hx⟩ := hT1.at m (by rw [nodesE_len]; omega)
  rw [nodesE_at bs e (by omega)] at hx
  rw [nodesE_len] at hc hcap
  obtain ⟨⟨n0, -⟩, -⟩ := hx
  change _ = some (Value.int .i64 (dOf bs m)) at n0
  generalize dOf bs m = z at *
  have hwj : IntKind.i64.wrap (((m + 1 : Nat) : Int) - 1) = (m : Int) := by rw [IntWalk.i64_in _ (by omega)]; omega
  have hwz : IntKind.i64.wrap (z + 1) = z + 1 := IntWalk.i64_in _ (by omega)
  have hk0' : (((m + 1 : Nat) : Int) == 0) = false := by rw [beq_eq_false_iff_ne]; omega
  have hg1 : ¬ (m : Int) < 0 := by omega
  have hg2 : m < m + 1 := by omega
  clear hT1 hf
  go_upto_region 4 with fail
  by_cases b0 : b.d = 0
  · have b0' : (b.d == 0) = true := by simp [b0]
    go_quiet (fail)
    have q : Below W.heap.size W (W.drewN nq) := ⟨rfl, rfl, rfl, Nat.le_refl _, fun _ _ => rfl⟩
    generalize W.drewN nq = w4 at q ⊢
    go_wp2_with fail
    go_ret2
    exact ⟨rfl, thru k1 q⟩
  · have b0' : (b.d == 0) = false := by simp [b0]
    have b1 : z + 1 < b.d := by omega
    go_quiet (fail)
    have q : Below W.heap.size W (W.drewN nq) := ⟨rfl, rfl, rfl, Nat.le_refl _, fun _ _ => rfl⟩
    generalize W.drewN nq = w4 at q ⊢
    go_wp2_with fail
    go_ret2
    exact ⟨rfl, thru k1 q⟩

set_option maxRecDepth 100000 in
set_option maxHeartbeats 2000000 in
theorem parentof_fits (w : World) (B g : Nat) (A : Option Addr) (c : Nat) (bs : List Bx) (e : Nat → Int) (k : Nat) (hk : 0 < k) (hlen : k ≤ 100000) (hf : Fine bs k) (b : Bx) (hb : dOf bs k = b.d) (hd1 : 1 ≤ b.d) (hd2 : b.d ≤ dOf bs (k - 1) + 1) (hd3 : b.d ≤ 256)
    (p : Nat) (hp : par (dOf bs) k = p) (v : Bool) (hv : fitsB (kOf bs p) b.k = v) (hT : InT w B g A c (nodesE bs e k)) :
    Calls Tryz.prog 57 #[.pointer (some ⟨g, 0, none⟩), b.v] w fun e w' => e = .returned (.tuple #[.int .i64 (p : Int), .bool v]) ∧ Below w.heap.size w w' := by
  obtain ⟨m, rfl⟩ : ∃ m, k = m + 1 := ⟨k - 1, by omega⟩
  have hzb := hf.depth (j := m) (by omega)
  have HF := Lib.hid (hf.shape hk)
  have HD := Lib.hid (fun j (hj : j < m + 1) => hf.depth hj)
  have HV := Lib.hid hv
  have hp' : parD (dOf bs) b.d (m + 1) = p := by rw [← hp]; unfold par; rw [hb]
  have HP := Lib.hid hp'
  rw [Nat.add_sub_cancel] at hd2
  clear hf hv hp hp' hb
  go_enter Tryz.func57, Tryz.ntmps57
  go_upto_region 1 with fail
  generalize hW : World.alloc _ _ = W
  obtain ⟨at1, k1⟩ := Record.box_in b hW
  have hT1 := hT.below k1
  have HT1 := Lib.hid hT1
  have HAT := Lib.hid at1
  clear hW hT
  have c0 := at1.1
  have hc := hT1.box.cell
  obtain ⟨a, rfl, ha, hcap, hx⟩ := hT1.at m (by rw [nodesE_len]; omega)
  rw [nodesE_at bs e (by omega)] at hx
  rw [nodesE_len] at hc hcap
  obtain ⟨⟨n0, -⟩, -⟩ := hx
  change _ = some (Value.int .i64 (dOf bs m)) at n0
  have hzm : Hid (b.d - 1 ≤ dOf bs m) := Lib.hid (by omega)
  have hz2 : ¬ dOf bs m + 1 < b.d := by omega
  have hwj : IntKind.i64.wrap (((m + 1 : Nat) : Int) - 1) = (m : Int) := by rw [IntWalk.i64_in _ (by omega)]; omega
  have hwz : IntKind.i64.wrap (dOf bs m + 1) = dOf bs m + 1 := IntWalk.i64_in _ (by omega)
  have hk0' : (((m + 1 : Nat) : Int) == 0) = false := by rw [beq_eq_false_iff_ne]; omega
  have hg1 : ¬ (m : Int) < 0 := by omega
  have hg2 : m < m + 1 := by omega
  have b0' : (b.d == 0) = false := by rw [beq_eq_false_iff_ne]; omega
  clear hT1 at1
  go_upto_region 4 with fail
  go_quiet (fail)
  have q : Below W.heap.size W (W.drewN nq) := ⟨rfl, rfl, rfl, Nat.le_refl _, fun _ _ => rfl⟩
  clear n0 hc c0 hz2 hzb hd2
  generalize W.drewN nq = w4 at q ⊢
  have HK4 := Lib.hid q
  clear q ha
  go_wp2_with fail
  go_loopw [6] (fun s wr => ∃ j : Nat, j < m + 1 ∧ s = .int .i64 (j : Int) ∧ Hid (parD (dOf bs) b.d (j + 1) = p ∧ b.d - 1 ≤ dOf bs j ∧ Below W.heap.size W wr)) (fun s _ => (intOf s).toNat)
  case atStart => exact ⟨m, by omega, rfl, Lib.hid ⟨HP.out, hzm.out, HK4.out⟩⟩
  case round =>
    clear HK4 HP hzm
    obtain ⟨j, hj, rfl, H⟩ := hrel
    have hT2 := HT1.out.below H.out.2.2
    have at2 := HAT.out.below HAT.out.lt H.out.2.2
    have hc := hT2.box.cell
    obtain ⟨_, h1, ha, -, hx⟩ := hT2.at j (by rw [nodesE_len]; omega)
    injection h1 with h1
    injection h1 with h1
    subst h1
    rw [nodesE_at bs e (by omega)] at hx
    rw [nodesE_len] at hc
    obtain ⟨⟨n0, n1, -⟩, n14, -⟩ := hx
    change _ = some (Value.int .i64 (dOf bs j)) at n0
    change _ = some (Value.int .i64 (kOf bs j)) at n1
    change _ = some (Value.int .i64 (par (dOf bs) j)) at n14
    obtain ⟨c0, c1, -⟩ := at2
    have hyb := HD.out j hj
    have hg1 : ¬ (j : Int) < 0 := by omega
    by_cases hlt : b.d ≤ dOf bs j
    · obtain ⟨q, h1, h2, h3, h4⟩ := par_step HF.out b.d hd1 j hj hlt
      rw [h1] at n14
      have HR := Lib.hid (show parD (dOf bs) b.d (q + 1) = p by rw [← h4]; exact H.out.1)
      have HQ := Lib.hid h3
      clear h1 h3 h4 hT2
      go_upto_region 6 with fail
      go_quiet (fail)
      have qq : Below wr.heap.size wr (wr.drewN nq) := ⟨rfl, rfl, rfl, Nat.le_refl _, fun _ _ => rfl⟩
      have hc' := (qq.cell (p := ⟨g, 0, none⟩) (block_lt_of_cell hc)).trans hc
      have n14' := (qq.cell (p := ⟨a, j * 17 + 14, none⟩) ha).trans n14
      clear hc n0 n1 c0 c1 n14
      generalize wr.drewN nq = w5 at qq hc' n14' ⊢
      have HK5 := Lib.hid (thru H.out.2.2 qq)
      clear qq
      go_wp2_with fail
      go_roundw
      case rel => exact ⟨q, by omega, rfl, Lib.hid ⟨HR.out, HQ.out, HK5.out⟩⟩
      case measure => simp [intOf]; omega
    · have hjp : j = p := by
        have h5 := H.out.1
        rw [par_found (by omega) H.out.2.1] at h5
        omega
      subst hjp
      obtain ⟨y, hy⟩ : ∃ y, kOf bs j = y := ⟨_, rfl⟩
      rw [hy] at n1 HV
      clear hy hT2 n14
      go_upto_region 6 with fail
      go_quiet (fail)
      have qq : Below wr.heap.size wr (wr.drewN nq) := ⟨rfl, rfl, rfl, Nat.le_refl _, fun _ _ => rfl⟩
      have hc' := (qq.cell (p := ⟨g, 0, none⟩) (block_lt_of_cell hc)).trans hc
      have n1' := (qq.cell (p := ⟨a, j * 17 + 1, none⟩) ha).trans n1
      have c1' := (qq.cell (p := ⟨w.heap.size, 1, none⟩) (block_lt_of_cell c1)).trans c1
      clear hc n0 n1 c0 c1
      generalize wr.drewN nq = w5 at qq hc' n1' c1' ⊢
      have HK5 := Lib.hid (thru H.out.2.2 qq)
      clear qq
      go_upto_region 8 with fail
      have d0 := fun d os => cell_regrown hc' (d := d) (os := os)
      have d1 := fun d os => cell_regrown n1' (d := d) (os := os)
      have d2 := fun d os => cell_regrown c1' (d := d) (os := os)
      clear hc' n1' c1'
      have hjm : (j : Int) < (m : Int) + 1 := by omega
      refine wp_region_quiet_below (by kernel_rfl) (by kernel_rfl) ?_
      repeat (quiet_step (first
        | (go_at_call 71; with_reducible exact Calls.regrown_of (fits_r HV.out))))
      refine wpQuiet_nil ?_
      intro _ hw'
      obtain ⟨⟨dq, os⟩, hw''⟩ := hw'
      subst hw''
      clear d0 d1 d2
      have q6 := below_regrown w5 dq os
      generalize grow (redrawn w5 dq) os = w6 at q6 ⊢
      go_wp2_with fail
      go_ret2
      exact ⟨rfl, thru k1 (thru HK5.out q6)⟩

end Go.Proofs.YtfomhdhiibcdfaaGreat.Tree
