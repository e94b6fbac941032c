/- Texts of this proof that follow each other, in one file. -/
import Derived.Test.YtflncnfagoekcaaPart15
import Derived.Test.YtflncnfagoekcaaPart9
/-! A whole tree in memory; the contract of Children. -/
namespace Go.Proofs.Ytflncnfagoekcaa.Tree
open Go.RowKit Go.Sort Go.Proofs.Ytflncnfagoekcaa.Record Go.Proofs.Ytflncnfagoekcaa.Script Go.Proofs.Ytflncnfagoekcaa.More

def endsOf (bs : List Bx) (j : Nat) : Int := (en (dOf bs) bs.length j : Int)

/-- The nodes of a tree. -/
def nodesOf (bs : List Bx) : List Nd := nodesE bs (endsOf bs) bs.length

/-- A tree of boxes that lies somewhere. -/
def InTree (w : World) (p : Addr) (bs : List Bx) : Prop :=
  ∃ g A c, p = ⟨g, 0, none⟩ ∧ 0 < bs.length ∧ bs.length ≤ 1000 ∧ Fine bs bs.length ∧ InT w 0 g A c (nodesOf bs)

theorem InTree.below {w w' : World} {p : Addr} {bs : List Bx} (h : InTree w p bs) (k : Below w.heap.size w w') : InTree w' p bs := by
  obtain ⟨g, A, c, e, h0, h1, h2, h3⟩ := h
  exact ⟨g, A, c, e, h0, h1, h2, h3.below k⟩

theorem nodesOf_len (bs : List Bx) : (nodesOf bs).length = bs.length := nodesE_len _ _ _

theorem nodeAt_in {bs : List Bx} {k : Nat} (h : k < bs.length) : nodeAt (nodesOf bs) (k : Int) = ⟨bs.getD k noB, par (dOf bs) k, endsOf bs k, (ctx (dOf bs) (oOf bs) k : Int)⟩ := by
  unfold nodeAt
  rw [if_pos ⟨by omega, by rw [nodesOf_len]; omega⟩, Int.toNat_natCast]
  exact nodesE_at bs _ h

theorem nodeAt_out {bs : List Bx} {i : Int} (h : ¬ hasT bs i) : nodeAt (nodesOf bs) i = noN := by
  unfold nodeAt
  rw [if_neg]
  rw [nodesOf_len]
  exact h

theorem nodeAt_is (bs : List Bx) (i : Int) : nodeAt (nodesOf bs) i = ⟨boxT bs i, parT bs i, enT bs i, ctxT bs i⟩ := by
  by_cases h : hasT bs i
  · obtain ⟨k, rfl⟩ : ∃ k : Nat, i = k := ⟨i.toNat, by have := h.1; omega⟩
    have hk : k < bs.length := by have := h.2; omega
    rw [nodeAt_in hk, boxT_nat hk, parT_nat hk, enT_nat hk, ctxT_nat hk]
    rfl
  · rw [nodeAt_out h]
    unfold boxT parT enT ctxT
    rw [if_neg h, if_neg h, if_neg h, if_neg h]
    rfl

theorem kidsTo_skip (d : Nat → Int) (i a : Nat) : ∀ b, a ≤ b → (∀ j, a ≤ j → j < b → d j ≠ d i + 1) → kidsTo d i b = kidsTo d i a
  | 0, h, _ => by obtain rfl : a = 0 := by omega
                  rfl
  | b + 1, h, hm => by
    by_cases e : a = b + 1
    · rw [e]
    · rw [kidsTo_next, if_neg (fun h => hm b (by omega) (by omega) h.2), List.append_nil]
      exact kidsTo_skip d i a b (by omega) (fun j x y => hm j x (by omega))

/-- From one that stands in i to the next one. -/
theorem kids_step {d : Nat → Int} {n i m : Nat} (hi : i < n) (him : i < m) (hm : m < en d n i) (hd : d m = d i + 1) :
    m < en d n m ∧ en d n m ≤ en d n i ∧ kidsTo d i (en d n m) = kidsTo d i m ++ [m] ∧ (en d n m < en d n i → d (en d n m) = d i + 1) := by
  obtain ⟨e1, e2, e3, e4⟩ := en_spec d n i hi
  obtain ⟨g1, g2, g3, g4⟩ := en_spec d n m (by omega)
  have g5 := en_nest d n i m hi him hm
  refine ⟨g1, g5, ?_, fun h => ?_⟩
  · rw [kidsTo_skip d i (m + 1) (en d n m) (by omega) (fun j x y => by have := g3 j (by omega) y; omega), kidsTo_next, if_pos ⟨him, hd⟩]
  · have h1 := e3 (en d n m) (by omega) h
    rcases g4 with g4 | g4 <;> omega

theorem kids_first {d : Nat → Int} {n i : Nat} (hs : Shape d n) (hi : i < n) (h : i + 1 < en d n i) : d (i + 1) = d i + 1 := by
  obtain ⟨e1, e2, e3, e4⟩ := en_spec d n i hi
  have h1 := e3 (i + 1) (by omega) h
  have h2 := hs.step (i + 1) (by omega) (by omega)
  rw [Nat.add_sub_cancel] at h2
  omega

set_option maxRecDepth 100000 in
set_option maxHeartbeats 1000000 in
theorem kids_none (w : World) (p : Addr) (bs : List Bx) (i : Int) (hT : InTree w p bs) (hi : ¬ hasT bs i) :
    Calls Try.prog 30 #[.pointer (some p), .int .i64 i] w fun r w' => r = .returned (.slice none 0 0) ∧ Below w.heap.size w w' := by
  obtain ⟨g, A, c, rfl, h0, h1, h2, h3⟩ := hT
  have HE := Lib.hid (tend_any w 0 g A c _ i h3)
  rw [nodeAt_out hi] at HE
  clear h3 h2 hi
  go_enter Try.func30, Try.ntmps30
  go_wp2_with (first | (go_at_call 22; refine HE.out.mono ?_; rintro e w1 ⟨rfl, k1⟩))
  all_goals (go_ret; exact ⟨rfl, k1⟩)

set_option maxRecDepth 100000 in
set_option maxHeartbeats 1000000 in
theorem kids_some (w : World) (p : Addr) (bs : List Bx) (i : Nat) (hT : InTree w p bs) (hi : i < bs.length) :
    Calls Try.prog 30 #[.pointer (some p), .int .i64 (i : Int)] w fun r w' => ∃ u, r = .returned u ∧ GivesN w.heap.size ((kids (dOf bs) bs.length i).map Int.ofNat) w' u ∧ Below w.heap.size w w' := by
  obtain ⟨g, A, c, rfl, h0, h1, h2, h3⟩ := hT
  have hen := en_spec (dOf bs) bs.length i hi
  have HE := tend_any w 0 g A c _ (i : Int) h3
  rw [nodeAt_in hi] at HE
  change Calls _ _ _ _ fun e w' => e = .returned (.int .i64 (endsOf bs i)) ∧ _ at HE
  unfold endsOf at HE
  have HS := Lib.hid (h2.shape h0)
  have HK : Hid (kids (dOf bs) bs.length i = kidsTo (dOf bs) i (en (dOf bs) bs.length i)) := Lib.hid rfl
  have HST : Hid (∀ m, i < m → m < en (dOf bs) bs.length i → dOf bs m = dOf bs i + 1 → m < en (dOf bs) bs.length m ∧ en (dOf bs) bs.length m ≤ en (dOf bs) bs.length i ∧ kidsTo (dOf bs) i (en (dOf bs) bs.length m) = kidsTo (dOf bs) i m ++ [m] ∧ (en (dOf bs) bs.length m < en (dOf bs) bs.length i → dOf bs (en (dOf bs) bs.length m) = dOf bs i + 1)) :=
    Lib.hid fun m a b c => kids_step hi a b c
  have HF : Hid (i + 1 < en (dOf bs) bs.length i → dOf bs (i + 1) = dOf bs i + 1) := Lib.hid fun h => kids_first HS.out hi h
  have hT0 := h3
  obtain ⟨n, hn⟩ : ∃ n, bs.length = n := ⟨_, rfl⟩
  rw [hn] at hen HE HK HST HF hi h1
  obtain ⟨p, hp⟩ : ∃ p, en (dOf bs) n i = p := ⟨_, rfl⟩
  rw [hp] at hen HE HK HST HF
  rw [hn, HK.out]
  obtain ⟨he1, he2, -, -⟩ := hen
  have HE2 := Lib.hid HE
  have HT := Lib.hid hT0
  have HN := Lib.hid hn
  have hp1 : ((p : Int) == -1) = false := by rw [beq_eq_false_iff_ne]; omega
  have hwi : IntKind.i64.wrap ((i : Int) + 1) = ((i + 1 : Nat) : Int) := by rw [IntWalk.i64_in _ (by omega)]; omega
  clear h0 h2 h3 HE hT0 hp HK hn HS
  go_enter Try.func30, Try.ntmps30
  go_wp2_with (first | (go_at_call 22; refine HE2.out.mono ?_; rintro e w1 ⟨rfl, k1⟩))
  have HT1 := Lib.hid (HT.out.below k1)
  have K1 := Lib.hid k1
  clear HT HE2 k1
  go_loopw [6, 7] (fun s t wr => ∃ m : Nat, ∃ A' : Option Addr, ∃ l c' : Nat, i + 1 ≤ m ∧ m ≤ p ∧ t = .int .i64 (m : Int) ∧ s = .slice A' l c' ∧ l ≤ m ∧ Hid ((m < p → dOf bs m = dOf bs i + 1) ∧ l = (kidsTo (dOf bs) i m).length ∧ Mine wr w1.heap.size A' l c' ((kidsTo (dOf bs) i m).map Int.ofNat) ∧ Below w1.heap.size w1 wr)) (fun _ t _ => p - (intOf t).toNat)
  case atStart => exact ⟨i + 1, none, 0, 0, by omega, by omega, rfl, rfl, by omega, Lib.hid ⟨HF.out, by rw [kidsTo_start]; rfl, by rw [kidsTo_start]; exact World.ownsRow_nil _ _ _ _, Below.refl _ _⟩⟩
  case round =>
    clear HF
    obtain ⟨m, A', l, c', hm1, hm2, rfl, rfl, hlm, H⟩ := hrel
    by_cases hlt : m < p
    · obtain ⟨s1, s2, s3, s4⟩ := HST.out m (by omega) hlt (H.out.1 hlt)
      have hmn : m < n := by omega
      obtain ⟨q, hq⟩ : ∃ q, en (dOf bs) n m = q := ⟨_, rfl⟩
      rw [hq] at s1 s2 s3 s4
      have S3 := Lib.hid s3
      have S4 := Lib.hid s4
      have HQ : Hid (endsOf bs m = (q : Int)) := Lib.hid (by unfold endsOf; rw [HN.out, hq])
      have hsz := H.out.2.2.2.size
      clear s3 s4 hq
      go_upto_region 7 with (first
        | (at_builtin; refine wpList_append_mine _ rfl (.tmp 26) (.tmp 28) rfl w1.heap.size A' l c' ((kidsTo (dOf bs) i m).map Int.ofNat) rfl (H.out.2.2.1.alloc _) (some ⟨wr.heap.size, 0, none⟩) 1 1 [(m : Int)] rfl (one_src wr (m : Int)) (by omega) (by simp; omega) ?_; intro A1 c1' W1 h1; have hb1 := h1.below (H.out.2.2.1.alloc _) (H.out.2.2.2.alloc H.out.2.2.2.size _) (Nat.le_refl _) (by simp; omega); have HM5 := Lib.hid h1.1; have K5 := Lib.hid hb1; clear h1 hb1))
      have hT5 := HT1.out.below K5.out
      have hc := hT5.box.cell
      obtain ⟨a, e, -, hcap, hx⟩ := hT5.at m (by rw [nodesOf_len, HN.out]; exact hmn)
      rw [show (nodesOf bs).getD m noN = _ from nodesE_at bs _ (by rw [HN.out]; exact hmn)] at hx
      have n15 := hx.2.2.1
      change _ = some (Value.int .i64 (endsOf bs m)) at n15
      rw [HQ.out] at n15
      rw [nodesOf_len, HN.out] at hc hcap
      subst e
      have hmi : (m : Int) < (n : Int) := by omega
      clear hx hT5
      go_wp2_with fail
      go_roundw
      case rel =>
        refine ⟨q, A1, l + 1, c1', by omega, s2, rfl, rfl, by omega, Lib.hid ⟨S4.out, by rw [S3.out]; simp [H.out.2.1], ?_, K5.out⟩⟩
        rw [S3.out, List.map_append]; exact HM5.out
      case measure => simp [intOf]; omega
    · obtain rfl : m = p := by omega
      go_wp2_with fail
      go_ret
      have hl := H.out.2.1
      refine ⟨_, rfl, ⟨A', c', by rw [List.length_map, ← hl]; rfl, H.out.2.2.1.nums, fun _ ad e => ?_⟩, thru K1.out H.out.2.2.2⟩
      have := H.out.2.2.1.lt ad.block (by rw [e]; rfl)
      have := K1.out.size
      omega

theorem kids_in (w : World) (p : Addr) (bs : List Bx) (i : Int) (hT : InTree w p bs) :
    Calls Try.prog 30 #[.pointer (some p), .int .i64 i] w fun r w' => ∃ u, r = .returned u ∧ GivesN w.heap.size (kidsT bs i) w' u ∧ Below w.heap.size w w' := by
  by_cases h : hasT bs i
  · obtain ⟨k, rfl⟩ : ∃ k : Nat, i = k := ⟨i.toNat, by have := h.1; omega⟩
    have hk : k < bs.length := by have := h.2; omega
    rw [kidsT_nat hk]
    exact kids_some w p bs k hT hk
  · refine (kids_none w p bs i hT h).mono ?_
    rintro r w' ⟨rfl, k⟩
    refine ⟨_, rfl, ⟨none, 0, ?_, ?_, ?_⟩, k⟩
    · unfold kidsT; rw [if_neg h]; rfl
    · unfold kidsT; rw [if_neg h]; exact nums0 _ _ _
    · unfold kidsT; rw [if_neg h]; intro h; exact absurd rfl h

end Go.Proofs.Ytflncnfagoekcaa.Tree

/-! Boxes that stand side by side, from a place up to another one; a box's children are such. No program is in it. -/
namespace Go.Proofs.Ytflncnfagoekcaa.Walk
open Go.Proofs.Ytflncnfagoekcaa.Record Go.Proofs.Ytflncnfagoekcaa.Script Go.Proofs.Ytflncnfagoekcaa.Tree

def tops (d : Nat → Int) (n i tz : Nat) : List Nat :=
  if _h : i < tz ∧ i < n then i :: tops d n (en d n i) tz else []
termination_by n - i
decreasing_by have := en_spec d n i _h.2; omega

theorem tops_end (d : Nat → Int) (n : Nat) {i tz : Nat} (h : tz ≤ i) : tops d n i tz = [] := by
  rw [tops, dif_neg (by omega)]

theorem tops_next (d : Nat → Int) (n : Nat) {i tz : Nat} (h : i < tz) (hn : i < n) : tops d n i tz = i :: tops d n (en d n i) tz := by
  rw [tops, dif_pos ⟨h, hn⟩]

theorem kidsTo_tops {d : Nat → Int} {n i : Nat} (hi : i < n) : ∀ m j, n - j < m → i < j → j ≤ en d n i → (j < en d n i → d j = d i + 1) → kidsTo d i (en d n i) = kidsTo d i j ++ tops d n j (en d n i)
  | 0, _, h, _, _, _ => by omega
  | m + 1, j, hm, hij, hj, hd => by
    have e := (en_spec d n i hi).2.1
    by_cases h : j < en d n i
    · obtain ⟨g1, g2, g3, g4⟩ := kids_step hi hij h (hd h)
      rw [kidsTo_tops hi m (en d n j) (by omega) (by omega) g2 g4, g3, tops_next d n h (by omega), List.append_assoc]
      rfl
    · obtain rfl : j = en d n i := by omega
      rw [tops_end d n (Nat.le_refl _), List.append_nil]

theorem kids_tops {d : Nat → Int} {n i : Nat} (hs : Shape d n) (hi : i < n) : kids d n i = tops d n (i + 1) (en d n i) := by
  have e := (en_spec d n i hi).1
  have h := kidsTo_tops hi (n + 1) (i + 1) (by omega) (by omega) (by omega) (kids_first hs hi)
  rw [kidsTo_start, List.nil_append] at h
  exact h

theorem tops_at {d : Nat → Int} {n k j tz : Nat} {ps : List Nat} (h : ps.drop k = tops d n j tz) (hk : k < ps.length) :
    j < tz ∧ j < n ∧ ps[k]? = some j ∧ ps.drop (k + 1) = tops d n (en d n j) tz := by
  by_cases hj : j < tz ∧ j < n
  · rw [tops_next d n hj.1 hj.2] at h
    refine ⟨hj.1, hj.2, ?_, ?_⟩
    · have := congrArg (fun l => l[0]?) h
      simpa [List.getElem?_drop] using this
    · have := congrArg (fun l => l.drop 1) h
      simpa [List.drop_drop] using this
  · rw [tops, dif_neg hj] at h
    have := congrArg List.length h
    simp at this
    omega

theorem tops_out {d : Nat → Int} {n k j tz : Nat} {ps : List Nat} (h : ps.drop k = tops d n j tz) (hk : ps.length ≤ k) (hz : tz ≤ n) : tz ≤ j := by
  refine Nat.le_of_not_lt fun hj => ?_
  rw [tops_next d n hj (by omega), List.drop_eq_nil_of_le hk] at h
  cases h

theorem tops_len (d : Nat → Int) (n i tz : Nat) : (tops d n i tz).length ≤ n := by
  suffices h : ∀ m i, n - i < m → (tops d n i tz).length ≤ n - i from Nat.le_trans (h (n - i + 1) i (by omega)) (Nat.sub_le _ _)
  intro m
  induction m with
  | zero => intro i h; omega
  | succ m ih =>
    intro i h
    by_cases hi : i < tz ∧ i < n
    · have e := en_spec d n i hi.2
      rw [tops_next d n hi.1 hi.2, List.length_cons]
      have := ih (en d n i) (by omega)
      omega
    · rw [tops, dif_neg hi]; simp

theorem tops_all {d : Nat → Int} {n : Nat} (hs : Shape d n) : tops d n 0 n = [0] := by
  have h0 := hs.pos
  obtain ⟨e1, e2, -, e4⟩ := en_spec d n 0 h0
  have e : en d n 0 = n := by
    rcases e4 with e4 | e4
    · exact e4
    · by_cases h : en d n 0 < n
      · have := (hs.step _ e1 h).1
        have := hs.zero
        omega
      · omega
  rw [tops_next d n h0 h0, e, tops_end d n (Nat.le_refl _)]

/-- What a walk goes through in a box: its children, or nothing. -/
theorem inner_tops {d : Nat → Int} {n : Nat} (hs : Shape d n) (o : Nat → Bool) (wh : Bool) {j : Nat} (hj : j < n) : ∃ i, j < i ∧ Nested d n i (en d n j) ∧
    (if wh || !o j then kids d n j else []) = tops d n i (en d n j) ∧ (if wh || !o j then wlk d o n wh (j + 1) (en d n j) else []) = wlk d o n wh i (en d n j) := by
  have e := (en_spec d n j hj).1
  cases hb : wh || !o j
  · exact ⟨en d n j, e, (nested_in d n j hj).later (by omega), by rw [tops_end d n (Nat.le_refl _)]; rfl, by rw [wlk_end d o n wh (Nat.le_refl _)]; rfl⟩
  · exact ⟨j + 1, by omega, nested_in d n j hj, by rw [← kids_tops hs hj]; rfl, rfl⟩

end Go.Proofs.Ytflncnfagoekcaa.Walk
