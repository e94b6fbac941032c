/- The program's All and Context: values that are gone through. -/
import Derived.Test.YtflncnfagoekcaaPart17
import Derived.Stop.RegionWithIn
namespace Go.Proofs.Ytflncnfagoekcaa.Walk
open Go.RowKit Go.Shelf Go.Sort Go.Proofs.Ytflncnfagoekcaa.Record Go.Proofs.Ytflncnfagoekcaa.Script Go.Proofs.Ytflncnfagoekcaa.Tree Go.Proofs.Ytflncnfagoekcaa.More

attribute [local go_sem] Oper.semAt_some

section
variable {T : World → Addr → List Bx → Prop}

theorem within_all (hT : TreeOk T) (w1 : World) (p : Addr) (bs : List Bx) (ht : T w1 p bs) : Within bs true w1 30 (.pointer (some p)) :=
  ⟨enters_of Try.func30 (by kernel_rfl) rfl, fun W j hb hj => by
    refine (hT.kids W p bs (j : Int) (hT.keep _ _ _ _ ht hb)).mono ?_
    rintro r W' ⟨u, rfl, ⟨A, c, rfl, h1, h2⟩, hk⟩
    rw [kidsT_nat hj] at h1 h2 ⊢
    exact ⟨⟨A, c, by simp, h1, h2⟩, hk⟩⟩

theorem field_kind (y : Bx) (w : World) : (Instr.field 48 y.v 1).run Try.prog w = .ok (.int .i64 y.k) w := by
  unfold Bx.v; kernel_rfl

set_option maxRecDepth 100000 in
set_option maxHeartbeats 2000000 in
theorem within_call (hT : TreeOk T) (w1 : World) (p : Addr) (bs : List Bx) (ht : T w1 p bs) (W : World) (j : Nat) (hb : Below w1.heap.size w1 W) (hj : j < bs.length) :
    Calls Try.prog 36 #[.agg #[.pointer (some p)], .int .i64 (j : Int)] W fun r W' =>
    Answers (if false || !oOf bs j then kids (dOf bs) bs.length j else []) W.heap.size r W' ∧ Below W.heap.size W W' := by
  have ht0 := hT.keep _ _ _ _ ht hb
  obtain ⟨y, hy⟩ : ∃ y, boxT bs (j : Int) = y := ⟨_, rfl⟩
  have ho : openB y.k = oOf bs j := by rw [← hy, boxT_nat hj]; rfl
  obtain ⟨o, hov⟩ : ∃ o, oOf bs j = o := ⟨_, rfl⟩
  rw [hov] at ho ⊢
  obtain ⟨ks, hks⟩ : ∃ ks, (if false || !o then kids (dOf bs) bs.length j else []) = ks := ⟨_, rfl⟩
  rw [hks]
  have HKS := Lib.hid hks
  have HT := Lib.hid ht0
  have HO := Lib.hid ho
  have HBox := Lib.hid (fun W1 (k : Below W.heap.size W W1) => by have := hT.box W1 p bs (j : Int) (hT.keep _ _ _ _ ht0 k); rw [hy] at this; exact this)
  have HKids := Lib.hid (fun W1 (k : Below W.heap.size W W1) => by have := hT.kids W1 p bs (j : Int) (hT.keep _ _ _ _ ht0 k); rw [kidsT_nat hj] at this; exact this)
  have hf := field_kind y
  obtain ⟨yv, hyv⟩ : ∃ yv, y.v = yv := ⟨_, rfl⟩
  rw [hyv] at hf HBox
  clear ht hb ht0 hy hov hks
  go_enter Try.func36, Try.ntmps36
  go_upto_region 1 with fail
  generalize hWa : World.alloc W _ = Wa
  have hka : Below W.heap.size W Wa := by rw [← hWa]; exact ba1 _ _
  have hc0 : Wa.cell? ⟨W.heap.size, 0, none⟩ = some (.pointer (some p)) := by rw [cell_of_row Wa W.heap.size 0 _ _ _ (by rw [← hWa]; exact heap_alloc_new W _)]; rfl
  have hs0 : W.heap.size < Wa.heap.size := by rw [← hWa]; simp
  have KA := Lib.hid hka
  clear hWa hka
  cases o
  · go_wp2_with (first
      | (go_at_call 24; refine (HBox.out _ KA.out).mono ?_; rintro e w2 ⟨rfl, k2⟩; have hc2 := (k2.cell (p := ⟨W.heap.size, 0, none⟩) hs0).trans hc0; have K2 := Lib.hid (thru KA.out k2); clear k2)
      | (go_at_call 35; refine (open_is _ _ HO.out _).mono ?_; rintro e w3 ⟨rfl, rfl⟩)
      | (go_at_call 30; refine (HKids.out _ K2.out).mono ?_; rintro e w4 ⟨u, rfl, ⟨A, c, rfl, h1, h2⟩, k4⟩; have H1 := Lib.hid h1; have H2 := Lib.hid h2; have K4 := Lib.hid (thru K2.out k4); clear h1 h2 k4))
    go_ret
    have e : kids (dOf bs) bs.length j = ks := HKS.out
    rw [e] at H1 H2
    exact ⟨⟨A, c, by rw [← e]; rfl, H1.out, fun hne ad e => Nat.le_trans K2.out.size (H2.out hne ad e)⟩, K4.out⟩
  · go_wp2_with (first
      | (go_at_call 24; refine (HBox.out _ KA.out).mono ?_; rintro e w2 ⟨rfl, k2⟩; have K2 := Lib.hid (thru KA.out k2); clear k2)
      | (go_at_call 35; refine (open_is _ _ HO.out _).mono ?_; rintro e w3 ⟨rfl, rfl⟩))
    go_ret
    have e : [] = ks := HKS.out
    subst e
    exact ⟨⟨none, 0, rfl, fun k hk => by simp at hk, fun h => (h rfl).elim⟩, K2.out⟩

theorem within_ctx (hT : TreeOk T) (w1 : World) (p : Addr) (bs : List Bx) (ht : T w1 p bs) : Within bs false w1 36 (.agg #[.pointer (some p)]) :=
  ⟨enters_of Try.func36 (by kernel_rfl) rfl, within_call hT w1 p bs ht⟩

/-- What the walk's premises are of a world in which an iterator starts. -/
theorem good_start {B : Option Nat} {w1 w w' W : World} (hb : Below w1.heap.size w1 w) (hk : Below w.heap.size w w') (hW : Below w'.heap.size w' W) (hB : ∀ x, B = some x → x < w'.heap.size) (hwf : ∀ k, owns B w' k → k < w'.heap.size) :
    Good B w1.heap.size w'.heap.size w1 W :=
  ⟨(thru hb hk).trans (hW.mono (thru hb hk).size), Nat.le_trans (thru hb hk).size hW.size, hW.size, fun k h => Nat.lt_of_lt_of_le (hwf k ((owns_same (fun x e => hW.block x (hB x e)) k).1 h)) hW.size⟩

set_option maxRecDepth 100000 in
set_option maxHeartbeats 2000000 in
theorem all_gives (hT : TreeOk T) (w1 : World) (p : Addr) (bs : List Bx) (w : World) (ht : T w1 p bs) (hs : Shape (dOf bs) bs.length) (hlen : bs.length ≤ 1000) (hb : Below w1.heap.size w1 w) :
    Calls Try.prog 12 #[.pointer (some p)] w fun r w' => Gives (evAll bs) w1.heap.size w.heap.size r w' ∧ Below w.heap.size w w' := by
  have HT := Lib.hid ht
  have HS := Lib.hid hs
  have HB := Lib.hid hb
  clear ht hs hb
  go_enter Try.func12, Try.ntmps12
  go_wp2_with fail
  go_ret
  have hk := ba1 w (.cells #[.pointer (some p)] 23)
  have hc := cell_of_row (w.alloc (.cells #[.pointer (some p)] 23)) w.heap.size 0 _ _ _ (heap_alloc_new w _)
  have hsz : w.heap.size < (w.alloc (.cells #[.pointer (some p)] 23)).heap.size := by simp
  generalize w.alloc (.cells #[.pointer (some p)] 23) = w' at hk hc hsz ⊢
  refine ⟨⟨_, _, rfl, enters_of Try.func29 (by kernel_rfl) rfl, ?_⟩, hk⟩
  intro B w0 hk0 hBB hwf n hn l J Jx W hW hJ hJx hY h0
  have hw0 := hk0.size
  have HG := Lib.hid (good_start HB.out (thru hk hk0) hW hBB hwf)
  have HC := Lib.hid fun (k : Nat) A c W2 (hP : Places B w0.heap.size W2 A [0]) (hg : Good B w1.heap.size w0.heap.size w1 W2) (hj : J [] W2) =>
    thru_m bs HS.out true w1 30 (.pointer (some p)) (within_all hT w1 p bs HT.out) hlen B w1.heap.size w.heap.size w'.heap.size w0.heap.size hw0 rfl hBB l (evAll bs).length J Jx
      (fun pre X Y h k => hJ pre X Y none h (grown_of_below k) (fun r e => by cases e)) (fun m pre x X h h2 => YieldAt.atDepth m (hY pre x X h h2)) (bs.length + 1) k 0 bs.length A c [0] [] W2 (by omega) (nested_all _ _ _) (tops_all HS.out).symm (by simp) hP hg hj (by unfold evAll; simp)
  have HJ := Lib.hid (fun X Y (h : J [] X) (k : Below X.heap.size X Y) => hJ [] X Y none h (grown_of_below k) (fun r e => by cases e))
  have hc0 : W.cell? ⟨w.heap.size, 0, none⟩ = some (.pointer (some p)) := (hW.cell (p := ⟨w.heap.size, 0, none⟩) (by simp; omega)).trans ((hk0.cell (p := ⟨w.heap.size, 0, none⟩) hsz).trans hc)
  have H0 := Lib.hid h0
  have HBB := Lib.hid hBB
  clear hc hW hJ hJx hY h0 hk hk0 hwf hBB
  refine callsIn_of_wp Try.func29 rfl trivial ?_ rfl
  simp only [Try.ntmps29, List.size_toArray, List.length_cons, List.length_nil, Nat.reduceAdd, Nat.reduceSub, Array.replicate_succ, Array.replicate_zero, List.push_toArray, List.append_toArray, List.nil_append, List.cons_append]
  have hk2 := ba1 W (.cells #[.int .i64 0] 3)
  have hHP : Places B w0.heap.size (W.alloc (.cells #[.int .i64 0] 3)) (some ⟨W.heap.size, 0, none⟩) [0] := by
    refine Places.fresh HG.out hk2 HBB.out (ps := [0]) (fun k hk => ?_) (fun _ ad e => by cases e; exact Nat.le_refl _)
    obtain rfl : k = 0 := by simpa using hk
    exact ⟨_, rfl, by simp, by rw [show ((⟨W.heap.size, 0, none⟩ : Addr).add 0) = ⟨W.heap.size, 0, none⟩ from rfl, cell_of_row _ W.heap.size 0 _ _ _ (heap_alloc_new W _)]; rfl⟩
  have HR := Lib.hid (HC.out (n - 1) (some ⟨W.heap.size, 0, none⟩) 1 _ hHP (HG.out.stay (a := w.heap.size) (b0 := w'.heap.size) (StayB.of_below hk2 HG.out.hs HG.out.hb hw0 HBB.out)) (HJ.out _ _ H0.out hk2))
  clear hHP hk2
  gi_wp2_with (first
    | (refine ⟨trivial, ?_⟩; refine HR.out.mono ?_; rintro e W1 (⟨rfl, j1, -⟩ | ⟨rfl, q, hq, jx1⟩)))
  · have J1 := Lib.hid j1
    clear j1
    go_end0
    exact ⟨⟨_, rfl⟩, .inl ⟨_, rfl, J1.out⟩⟩
  · have J1 := Lib.hid jx1
    have HQ := Lib.hid hq
    clear jx1 hq
    go_end0
    exact ⟨⟨_, rfl⟩, .inr ⟨q, HQ.out, J1.out⟩⟩

set_option maxRecDepth 100000 in
set_option maxHeartbeats 4000000 in
theorem ctx_gives (hT : TreeOk T) (w1 : World) (p : Addr) (bs : List Bx) (w : World) (i : Int) (ht : T w1 p bs) (hs : Shape (dOf bs) bs.length) (hlen : bs.length ≤ 1000) (hb : Below w1.heap.size w1 w) :
    Calls Try.prog 14 #[.pointer (some p), .int .i64 i] w fun r w' => Gives (evCtx bs i) w1.heap.size w.heap.size r w' ∧ Below w.heap.size w w' := by
  have HT := Lib.hid ht
  have HS := Lib.hid hs
  have HB := Lib.hid hb
  clear ht hs hb
  go_enter Try.func14, Try.ntmps14
  go_wp2_with fail
  go_ret
  have hk := ba2 w (.cells #[.pointer (some p)] 23) (.cells #[.int .i64 i] 3)
  have hsz : ((w.alloc (.cells #[.pointer (some p)] 23)).alloc (.cells #[.int .i64 i] 3)).heap.size = w.heap.size + 2 := by simp
  have hc0 : ((w.alloc (.cells #[.pointer (some p)] 23)).alloc (.cells #[.int .i64 i] 3)).cell? ⟨w.heap.size, 0, none⟩ = some (.pointer (some p)) := by
    rw [cell_of_row _ w.heap.size 0 _ _ _ ((Below.heap_alloc _ _ _ (by simp)).trans (heap_alloc_new w _))]; rfl
  have hc1 : ((w.alloc (.cells #[.pointer (some p)] 23)).alloc (.cells #[.int .i64 i] 3)).cell? ⟨w.heap.size + 1, 0, none⟩ = some (.int .i64 i) := by
    have := heap_alloc_new (w.alloc (.cells #[.pointer (some p)] 23)) (.cells #[.int .i64 i] 3)
    rw [World.size_alloc] at this
    rw [cell_of_row _ (w.heap.size + 1) 0 _ _ _ this]; rfl
  generalize (w.alloc (.cells #[.pointer (some p)] 23)).alloc (.cells #[.int .i64 i] 3) = w' at hk hc0 hc1 hsz ⊢
  refine ⟨⟨_, _, rfl, enters_of Try.func34 (by kernel_rfl) rfl, ?_⟩, hk⟩
  intro B w0 hk0 hBB hwf n hn l J Jx W hW hJ hJx hY h0
  have hw0 := hk0.size
  have hG := good_start HB.out (thru hk hk0) hW hBB hwf
  have HG := Lib.hid hG
  obtain ⟨y, hy⟩ : ∃ y, boxT bs i = y := ⟨_, rfl⟩
  obtain ⟨o, ho⟩ : ∃ o, openB y.k = o := ⟨_, rfl⟩
  have HO := Lib.hid ho
  have hf := field_kind y
  obtain ⟨yv, hyv⟩ : ∃ yv, y.v = yv := ⟨_, rfl⟩
  rw [hyv] at hf
  have hTW := hT.keep _ _ _ _ HT.out hG.low
  have HBox := Lib.hid (show Calls Try.prog 24 #[.pointer (some p), .int .i64 i] W fun r w' => r = .returned yv ∧ Below W.heap.size W w' by have := hT.box W p bs i hTW; rw [hy, hyv] at this; exact this)
  have c0 : W.cell? ⟨w.heap.size, 0, none⟩ = some (.pointer (some p)) := (hW.cell (p := ⟨w.heap.size, 0, none⟩) (by simp; omega)).trans ((hk0.cell (p := ⟨w.heap.size, 0, none⟩) (by simp; omega)).trans hc0)
  have c1 : W.cell? ⟨w.heap.size + 1, 0, none⟩ = some (.int .i64 i) := (hW.cell (p := ⟨w.heap.size + 1, 0, none⟩) (by simp; omega)).trans ((hk0.cell (p := ⟨w.heap.size + 1, 0, none⟩) (by simp; omega)).trans hc1)
  have hw1 := hW.size
  have HJ := Lib.hid (fun X Y (h : J [] X) (k : Below X.heap.size X Y) => hJ [] X Y none h (grown_of_below k) (fun r e => by cases e))
  have H0 := Lib.hid h0
  have HBB := Lib.hid hBB
  cases o
  · have hev : evCtx bs i = [] := by
      refine evCtx_no fun h => ?_
      have h1 : hasT bs i := h.1
      have := h.2
      unfold boxT at hy
      rw [if_pos h1] at hy
      unfold oOf at this
      rw [hy, ho] at this
      cases this
    rw [hev]
    clear hc0 hc1 hW hJ hJx hY h0 hk hk0 hwf hBB hG hTW hy ho
    refine callsIn_of_wp Try.func34 rfl trivial ?_ rfl
    simp only [Try.ntmps34, List.size_toArray, List.length_cons, List.length_nil, Nat.reduceAdd, Nat.reduceSub, Array.replicate_succ, Array.replicate_zero, List.push_toArray, List.append_toArray, List.nil_append, List.cons_append]
    gi_wp2_with (first
      | (refine ⟨trivial, ?_⟩; gi_at_call 24; refine (callsIn_wide.2 HBox.out).mono ?_; rintro e w2 ⟨rfl, k2⟩; have K2 := Lib.hid k2; clear k2)
      | (refine ⟨trivial, ?_⟩; gi_at_call 35; refine (callsIn_wide.2 (open_is _ _ HO.out _)).mono ?_; rintro e w3 ⟨rfl, rfl⟩))
    go_end0
    exact ⟨⟨_, rfl⟩, .inl ⟨_, rfl, HJ.out _ _ H0.out K2.out⟩⟩
  · have hin : hasT bs i := by
      refine Classical.byContradiction fun h => ?_
      unfold boxT at hy
      rw [if_neg h] at hy
      subst hy
      cases ho
    obtain ⟨q, rfl⟩ : ∃ q : Nat, i = q := ⟨i.toNat, by have := hin.1; omega⟩
    have hq : q < bs.length := by have := hin.2; omega
    have hoq : oOf bs q = true := by rw [← ho, ← hy, boxT_nat hq]; rfl
    rw [evCtx_yes hq hoq] at hY ⊢
    obtain ⟨evs, hevs⟩ : ∃ evs, wlk (dOf bs) (oOf bs) bs.length false (q + 1) (en (dOf bs) bs.length q) = evs := ⟨_, rfl⟩
    rw [hevs] at hY ⊢
    obtain ⟨ks, hks⟩ : ∃ ks, kids (dOf bs) bs.length q = ks := ⟨_, rfl⟩
    have HKids := Lib.hid (fun W1 (k : Below W.heap.size W W1) => by have := hT.kids W1 p bs (q : Int) (hT.keep _ _ _ _ hTW k); rw [kidsT_nat hq, hks] at this; exact this)
    have HC := Lib.hid fun (W1 : World) (k : Below W.heap.size W W1) A c W2 (hk2 : Below W1.heap.size W1 W2) (hn2 : Nums W2 W2.heap.size A (ks.map Int.ofNat)) (hnew : ks.map Int.ofNat ≠ [] → ∀ ad, A = some ad → W1.heap.size ≤ ad.block) =>
      (thru_m bs HS.out false w1 36 (.agg #[.pointer (some p)]) (within_ctx hT w1 p bs HT.out) hlen B w1.heap.size w.heap.size w'.heap.size w0.heap.size hw0 rfl hBB l evs.length J Jx
        (fun pre X Y h k => hJ pre X Y none h (grown_of_below k) (fun r e => by cases e)) (fun m pre x X h h2 => YieldAt.atDepth m (hY pre x X h h2)) (bs.length + 1) (n - 1) (q + 1) (en (dOf bs) bs.length q) A c ks [] W2 (by omega) (nested_in _ _ _ hq) (by rw [← hks]; exact kids_tops HS.out hq) (by rw [← hks, kids_tops HS.out hq]; exact Nat.le_trans (tops_len _ _ _ _) hlen)
        (Places.fresh (HG.out.stay (a := w.heap.size) (b0 := w'.heap.size) (StayB.of_below k HG.out.hs HG.out.hb hw0 hBB)) hk2 hBB hn2 hnew)
        ((HG.out.stay (a := w.heap.size) (b0 := w'.heap.size) (StayB.of_below k HG.out.hs HG.out.hb hw0 hBB)).stay (a := w.heap.size) (b0 := w'.heap.size) (StayB.of_below hk2 (Nat.le_trans HG.out.hs k.size) (Nat.le_trans HG.out.hb k.size) hw0 hBB))
        (HJ.out _ _ (HJ.out _ _ H0.out k) hk2) (by rw [hevs]; simp)).mono (R' := fun e W' => ∃ v, e = .returned v ∧ Hid (J evs W' ∨ ∃ q, q <+: evs ∧ Jx q W')) (by
          rintro e W' (⟨rfl, j1, -⟩ | ⟨rfl, r, hr, jx⟩)
          · exact ⟨_, rfl, .inl (by rw [hevs] at j1; exact j1)⟩
          · exact ⟨_, rfl, .inr ⟨r, by rw [hevs] at hr; exact hr, jx⟩⟩)
    clear hc0 hc1 hW hJ hJx hY h0 hk hk0 hwf hBB hG hTW hy ho hks hin hoq hevs
    refine callsIn_of_wp Try.func34 rfl trivial ?_ rfl
    simp only [Try.ntmps34, List.size_toArray, List.length_cons, List.length_nil, Nat.reduceAdd, Nat.reduceSub, Array.replicate_succ, Array.replicate_zero, List.push_toArray, List.append_toArray, List.nil_append, List.cons_append]
    gi_upto_region 1 with (first
      | (refine ⟨trivial, ?_⟩; gi_at_call 24; refine (callsIn_wide.2 HBox.out).mono ?_; rintro e w2 ⟨rfl, k2⟩; have c02 := (k2.cell (p := ⟨w.heap.size, 0, none⟩) (by simp; omega)).trans c0; have c12 := (k2.cell (p := ⟨w.heap.size + 1, 0, none⟩) (by simp; omega)).trans c1; have K2 := Lib.hid k2; clear k2)
      | (refine ⟨trivial, ?_⟩; gi_at_call 35; refine (callsIn_wide.2 (open_is _ _ HO.out _)).mono ?_; rintro e w3 ⟨rfl, rfl⟩))
    have hs2 := K2.out.size
    have K3 : Hid (Below W.heap.size W w2.drew) := Lib.hid K2.out.drew
    clear c0 c1
    gi_region_with (first
      | (refine ⟨trivial, ?_⟩; gi_at_call 30; refine (callsIn_wide.2 (HKids.out w2.drew K3.out)).mono ?_; rintro e w4 ⟨u4, rfl, ⟨A4, c4, rfl, h4, f4⟩, k4⟩; have c04 := (k4.cell (p := ⟨w.heap.size, 0, none⟩) (by simp; omega)).trans c02; have H4 := Lib.hid h4; have F4 := Lib.hid f4; have K4 := Lib.hid k4; clear h4 f4 k4)
      | (refine ⟨trivial, ?_⟩; gi_at_call 31; refine (HC.out w2.drew K3.out A4 c4 w4 K4.out H4.out F4.out).mono ?_; rintro e w5 ⟨v5, rfl, h5⟩))
    all_goals (go_end0; refine ⟨⟨_, rfl⟩, ?_⟩; rcases h5.out with h | ⟨r, hr, h⟩)
    all_goals first
      | exact .inl ⟨_, rfl, h⟩
      | exact .inr ⟨r, hr, h⟩

end

end Go.Proofs.Ytflncnfagoekcaa.Walk
