/- The program's Members. -/
import Derived.Test.YtflncnfagoekcaaPart18
import Derived.Test.YtflncnfagoekcaaPart19
import Derived.Test.YtflncnfagoekcaaPart12
import Derived.Test.YtflncnfagoekcaaPart22
namespace Go.Proofs.Ytflncnfagoekcaa.Walk
open Go.RowKit Go.Shelf Go.Sort Go.Proofs.Ytflncnfagoekcaa.Record Go.Proofs.Ytflncnfagoekcaa.Script Go.Proofs.Ytflncnfagoekcaa.Tree Go.Proofs.Ytflncnfagoekcaa.More

attribute [local go_sem] Oper.semAt_some

/-- The boxes that are entered. -/
def entered (evs : List Ev) : List Int := (evs.filter fun x => !x.l).map Ev.a

theorem entered_append (xs ys : List Ev) : entered (xs ++ ys) = entered xs ++ entered ys := by simp [entered]
theorem entered_le (xs : List Ev) : (entered xs).length ≤ xs.length := by
  unfold entered; rw [List.length_map]; exact List.length_filter_le _ _

theorem memTo_none (bs : List Bx) (c a b : Nat) (hab : a ≤ b) (h : ∀ j, a ≤ j → j < b → ctx (dOf bs) (oOf bs) j ≠ c) : memTo bs c b = memTo bs c a := by
  obtain ⟨f, rfl⟩ : ∃ f, b = a + f := ⟨b - a, by omega⟩
  exact memTo_same bs c a f h

theorem wlk_entered (bs : List Bx) {n : Nat} (hs : Shape (dOf bs) n) (c : Nat) : ∀ m i tz (s : Int), n - i < m → i ≤ tz → Nested (dOf bs) n i tz → c < i → (∀ j, i ≤ j → j < tz → s ≤ dOf bs j) → (i < tz → dOf bs i = s) → (∀ j, i ≤ j → j < tz → dOf bs j = s → ctx (dOf bs) (oOf bs) j = c) → (memTo bs c tz).map Int.ofNat = (memTo bs c i).map Int.ofNat ++ entered (wlk (dOf bs) (oOf bs) n false i tz)
  | 0, _, _, _, h, _, _, _, _, _, _ => by omega
  | m + 1, i, tz, s, hm, hle, hp, hc, hl, h0, hq => by
    by_cases h : i < tz
    · have hn : i < n := by have := hp.1; omega
      obtain ⟨e1, e2, -, -⟩ := en_spec (dOf bs) n i hn
      have h1 := hp.2 i (Nat.le_refl _) h
      have hd := h0 h
      have hci := hq i (Nat.le_refl _) h hd
      have hout := wlk_entered bs hs c m (en (dOf bs) n i) tz s (by omega) (by omega) (hp.later (by omega)) (by omega) (fun j a b => hl j (by omega) b) (next_low hp h hl hd) (fun j a b => hq j (by omega) b)
      have h2 : memTo bs c (i + 1) = memTo bs c i ++ [i] := by
        rw [memTo_next, if_pos ⟨hc, hci⟩]
      have hin : (memTo bs c (en (dOf bs) n i)).map Int.ofNat = (memTo bs c (i + 1)).map Int.ofNat ++ entered (if oOf bs i then [] else wlk (dOf bs) (oOf bs) n false (i + 1) (en (dOf bs) n i)) := by
        split
        · rename_i ho
          rw [memTo_none bs c (i + 1) (en (dOf bs) n i) (by omega) (fun j a b x => by
            have := ctx_within hs (oOf bs) i hn ho (j + 1) j (by omega) (by omega) (by omega)
            omega)]
          simp [entered]
        · rename_i ho
          obtain ⟨k1, k2⟩ := kids_low hs i hn s hd
          refine wlk_entered bs hs c m (i + 1) (en (dOf bs) n i) (s + 1) (by omega) (by omega) (nested_in (dOf bs) n i hn) (by omega) k1 k2 (fun j a b e => ?_)
          rw [ctx_kid hs (oOf bs) i j hn (by omega) b (by omega), if_neg ho, hci]
      have e3 : entered (wlk (dOf bs) (oOf bs) n false i tz) = [(i : Int)] ++ (entered (if oOf bs i then [] else wlk (dOf bs) (oOf bs) n false (i + 1) (en (dOf bs) n i)) ++ entered (wlk (dOf bs) (oOf bs) n false (en (dOf bs) n i) tz)) := by
        rw [wlk_next (dOf bs) (oOf bs) n false h hn]
        cases hoi : oOf bs i <;> simp [entered]
      rw [hout, hin, h2, e3]
      simp
    · obtain rfl : i = tz := by omega
      rw [wlk_end (dOf bs) (oOf bs) n false (Nat.le_refl _)]
      simp [entered]

theorem evCtx_entered (bs : List Bx) (hs : Shape (dOf bs) bs.length) (i : Int) : entered (evCtx bs i) = memT bs i := by
  by_cases h : hasT bs i ∧ oOf bs i.toNat = true
  · obtain ⟨c, rfl⟩ : ∃ c : Nat, i = c := ⟨i.toNat, by have := h.1.1; omega⟩
    have hc : c < bs.length := by have := h.1.2; omega
    have ho : oOf bs c = true := by simpa using h.2
    rw [evCtx_yes hc ho, memT_yes hc ho]
    obtain ⟨e1, e2, -, -⟩ := en_spec (dOf bs) bs.length c hc
    obtain ⟨k1, k2⟩ := kids_low hs c hc (dOf bs c) rfl
    have := wlk_entered bs hs c (bs.length + 1) (c + 1) (en (dOf bs) bs.length c) (dOf bs c + 1) (by omega) (by omega) (nested_in _ _ c hc) (by omega) k1 k2 (fun j a b x => by rw [ctx_kid hs (oOf bs) c j hc (by omega) b (by omega), if_pos ho])
    rw [memTo_start] at this
    exact this.symm
  · rw [evCtx_no h, memT_no h]; rfl

theorem evCtx_len (bs : List Bx) (i : Int) : (evCtx bs i).length ≤ 2 * bs.length := by
  by_cases h : hasT bs i ∧ oOf bs i.toNat = true
  · obtain ⟨c, rfl⟩ : ∃ c : Nat, i = c := ⟨i.toNat, by have := h.1.1; omega⟩
    have hc : c < bs.length := by have := h.1.2; omega
    rw [evCtx_yes hc (by simpa using h.2)]
    have := wlk_len (dOf bs) (oOf bs) bs.length false (bs.length + 1) (c + 1) (en (dOf bs) bs.length c) (by omega) (nested_in _ _ c hc)
    have := (en_spec (dOf bs) bs.length c hc).2.1
    omega
  · rw [evCtx_no h]; simp

section
variable {T : World → Addr → List Bx → Prop}

set_option maxRecDepth 100000 in
set_option maxHeartbeats 4000000 in
theorem members_in (hT : TreeOk T) (w : World) (p : Addr) (bs : List Bx) (i : Int) (ht : T w p bs) (hs : Shape (dOf bs) bs.length) (hlen : bs.length ≤ 1000) :
    CallsIn Fence.wide 6 Try.prog 16 #[.pointer (some p), .int .i64 i] w fun r w' => ∃ u, r = .returned u ∧ GivesN w.heap.size (memT bs i) w' u ∧ Below w.heap.size w w' := by
  have hro : Fence.wide.round = none := rfl
  have HC := Lib.hid (fun W (k : Below w.heap.size w W) => ctx_gives hT w p bs W i ht hs hlen k)
  have HE := Lib.hid (evCtx_entered bs hs i)
  have hle := evCtx_len bs i
  obtain ⟨evs, hevs⟩ : ∃ evs, evCtx bs i = evs := ⟨_, rfl⟩
  rw [hevs] at HC HE hle
  clear ht hs hevs
  refine callsIn_of_wp_marks Try.func16 rfl trivial ?_ hro
  simp only [Try.ntmps16, List.size_toArray, List.length_nil, List.length_cons, Nat.reduceAdd, Nat.reduceSub, Array.replicate_succ, Array.replicate_zero, List.push_toArray, List.append_toArray, List.nil_append, List.cons_append]
  gi_upto_region 2 with fail
  generalize hWa : World.alloc w _ = Wa
  have hka : Below w.heap.size w Wa := by rw [← hWa]; exact ba1 _ _
  have hbr : Boxed Wa w.heap.size 38 (.slice none 0 0) := by rw [← hWa]; exact Boxed.new _ _ _
  have hsa : Wa.heap.size = w.heap.size + 1 := by rw [← hWa]; simp
  clear hWa
  have KA := Lib.hid hka
  have BR := Lib.hid hbr
  clear hka hbr
  gi_wp2_with (first
    | (refine ⟨trivial, ?_⟩; gi_at_call 14; refine (callsIn_wide.2 (HC.out _ KA.out)).mono ?_; rintro e w5 ⟨⟨f, lb, rfl, heg, hseq⟩, k5⟩))
  have b5r : Boxed w5 w.heap.size 38 (.slice none 0 0) := BR.out.kept (grown_of_below k5) (by simp)
  have K5 : Below w.heap.size w w5 := thru KA.out k5
  have hs5 := k5.size
  have hq := hseq (some w.heap.size) w5 (Below.refl _ _) (fun x e => by injection e with e; omega) (fun k h => by rw [owns_is b5r.cell] at h; cases h) 5 (by omega)
  clear hseq
  refine wpIn_rangeFunc_ownH hro (by omega) (gf := f) (lb := lb) rfl trivial heg hq
    (fun h k => h.trans k) (fun W l o o' h1 h2 h3 h4 => StayB.put (N := w5.heap.size) (by omega) (Nat.le_refl _) (fun x e => by injection e with e; omega) W l o o' h1 h2 h3 h4) (Below.refl _ _) (fun _ => rfl)
    (fun pre W => (∃ v, Boxed W w.heap.size 38 v ∧ W.ownsRow w5.heap.size 3 1 v (entered pre).length ((entered pre).map (Value.int .i64)) ∧ True) ∧ Below w.heap.size w5 W)
    (fun _ _ _ => False)
    (OwnFrom.and (Own.from (holdsRow_own w5.heap.size w.heap.size 38 3 1 (fun pre => (entered pre).length) (fun pre => (entered pre).map (Value.int .i64)) (fun _ _ => True)) _) (ownFrom_below (by omega) (by omega)))
    (fun _ _ _ _ _ hs _ _ => hs)
    ⟨⟨_, b5r, World.ownsRow_nil _ _ _ _, trivial⟩, Below.refl _ _⟩
    (fun x => VarW (fun b5 => { tmps := #[Value.pointer (some p), Value.int IntKind.i64 i, undef, undef, Value.slice none 0 0, Value.pointer (some ⟨w.heap.size, 0, none⟩), .pointer (some ⟨b5, 0, none⟩), Value.pointer (some p), Value.int IntKind.i64 i, Value.func (Fn.func f) #[] lb, x.v, undef, undef, undef, undef, undef, undef, undef, undef, undef], defers := [] }) x) (fun x a' => varW_own _ x a' _) ?assign ?body ?done ?stop
  case assign =>
    intro l pre x W K hI hK
    obtain ⟨⟨v, i1, i2, -⟩, i4⟩ := hI
    have HK := Lib.hid hK
    clear hK
    simp only [encW]
    gi_wp2_with fail
    have hk := ba1 W (.cells #[.int .i64 x.a, .bool x.l] 32)
    have hg := grown_of_below hk
    have hwl := i4.size
    exact HK.out _ _ (below_keeps hk) (StayB.of_below hk (by omega) (by omega) (Nat.le_refl _) (fun x e => by injection e with e; omega)) ⟨⟨v, i1.kept hg (by simp), World.ownsRow.alloc i2 _, trivial⟩, i4.trans (hk.mono (by omega))⟩ ⟨W.heap.size, rfl, heap_alloc_new W _⟩
  case body =>
    rintro l pre x a' W hl - ⟨⟨v, i1, i2, -⟩, i4⟩ ⟨b5, rfl, h5⟩ hlt
    obtain ⟨A, c, rfl⟩ := mine_shape i2
    have hm : Mine W w5.heap.size A (entered pre).length c (entered pre) := i2
    have hwl := i4.size
    have hx0 : W.cell? ⟨b5, 0, none⟩ = some (.int .i64 x.a) := by rw [cell_of_row W b5 0 _ _ _ h5]; rfl
    have hx1 : W.cell? ⟨b5, 1, none⟩ = some (.bool x.l) := by rw [cell_of_row W b5 1 _ _ _ h5]; rfl
    obtain ⟨xs, hxs⟩ : ∃ xs, entered pre = xs := ⟨_, rfl⟩
    have hxl := entered_le pre
    rw [hxs] at hm hxl
    obtain ⟨n, hn⟩ : ∃ n, xs.length = n := ⟨_, rfl⟩
    rw [hn] at hm hxl
    rw [hxs, hn] at i1
    have hn6 : n + 1 ≤ 1000000 := by omega
    have hc := i1.cell
    have HB := Lib.hid i1
    have HM := Lib.hid hm
    have HXS := Lib.hid hxs
    have HN := Lib.hid hn
    have H4 := Lib.hid i4
    obtain ⟨xa, xl⟩ := x
    clear i1 i2 i4 hm hxs hn h5 hlt hxl
    dsimp only at hx0 hx1 ⊢
    cases xl
    · gi_wp2_with (first
        | (gi_at_builtin; refine wpListIn_append_mine _ rfl (.tmp 14) (.tmp 17) rfl w5.heap.size A n c xs rfl (HM.out.alloc _) (some ⟨W.heap.size, 0, none⟩) 1 1 [xa] rfl (one_src W xa) (by omega) (by simp; omega) ?_; intro A1 c1 W1 h1; obtain ⟨y1, y2, y3, y4⟩ := StayB.more (s1 := w.heap.size) (a := Wa.heap.size) (b := w5.heap.size) (d := w5.heap.size) HB.out HM.out (by omega) (Nat.le_refl _) (.inl (by omega)) (by omega) (by omega) (Nat.le_refl _) h1; obtain ⟨z1, z2⟩ := more_keeps (s1 := w.heap.size) (by decide) HB.out HM.out (Nat.le_refl _) (by omega) h1; have Y1 := Lib.hid y1; have Y3 := Lib.hid y3; have Y4 := Lib.hid y4; have Z1 := Lib.hid z1; have Z2 := Lib.hid z2; have hc1 := y2.cell; have hf1 := y2.frozen; clear h1 y1 y2 y3 y4 z1 z2))
      refine ⟨Z1.out.from _, Y1.out, ⟨_, Y3.out, ?_, trivial⟩, H4.out.trans Z2.out⟩
      have e : entered (pre ++ [⟨xa, false⟩]) = xs ++ [xa] := by rw [entered_append, HXS.out]; rfl
      rw [e, List.length_append, HN.out]
      exact Y4.out
    · gi_wp2
      refine ⟨(KeepsOthers.refl _).from _, StayB.refl _ _ _ _ _ _, ⟨_, HB.out, ?_, trivial⟩, H4.out⟩
      have e : entered (pre ++ [⟨xa, true⟩]) = xs := by rw [entered_append, HXS.out]; simp [entered]
      rw [e, HN.out]
      exact HM.out
  case done =>
    rintro D ys W hD rfl ⟨⟨v, i1, i2, -⟩, i4⟩ hK
    obtain ⟨A, c, rfl⟩ := mine_shape i2
    have hc := i1.cell
    rw [HE.out] at i2
    have H2 := Lib.hid i2
    have H4 := Lib.hid i4
    clear i2 i4
    gi_wp2
    refine ⟨by simp, .inl ⟨_, _, rfl, run_takeDeferred hK, ?_⟩⟩
    have hr : Mine (W.putObj D (.deferred none)) w5.heap.size A (memT bs i).length c (memT bs i) := ownsRow_putObj H2.out _ hK rfl
    refine ⟨_, results_tmp rfl _ _ _, ⟨.slice A (entered ys).length c, rfl, ⟨A, c, by rw [HE.out], hr.nums, fun _ ad e => ?_⟩, K5.trans (H4.out.trans (belowK_b (w := w5) (by omega) _ D _ _ hD hK rfl rfl))⟩⟩
    have := (hr.lt ad.block (by rw [e]; rfl)).1
    omega
  case stop =>
    rintro D c pre W _ _ h _
    exact h.elim
theorem members_any (hT : TreeOk T) (w : World) (p : Addr) (bs : List Bx) (i : Int) (ht : T w p bs) (hs : Shape (dOf bs) bs.length) (hlen : bs.length ≤ 1000) :
    Calls Try.prog 16 #[.pointer (some p), .int .i64 i] w fun r w' => ∃ u, r = .returned u ∧ GivesN w.heap.size (memT bs i) w' u ∧ Below w.heap.size w w' :=
  callsIn_wide.1 (members_in hT w p bs i ht hs hlen)
end

/-- The contracts of the program's walks. -/
theorem walkOk : WalkOk InTree where
  all w1 p bs w h hb := by
    obtain ⟨g, A, c, -, h0, h1, h2, -⟩ := id h
    exact all_gives treeOk w1 p bs w h (h2.shape h0) h1 hb
  ctx w1 p bs w i h hb := by
    obtain ⟨g, A, c, -, h0, h1, h2, -⟩ := id h
    exact ctx_gives treeOk w1 p bs w i h (h2.shape h0) h1 hb
  members w p bs i h := by
    obtain ⟨g, A, c, -, h0, h1, h2, -⟩ := id h
    exact members_any treeOk w p bs i h (h2.shape h0) h1
  path w p bs i h := by
    obtain ⟨g, A, c, -, h0, h1, h2, -⟩ := id h
    exact path_any treeOk w p bs i h h1

end Go.Proofs.Ytflncnfagoekcaa.Walk
