/- Texts of this proof that follow each other, in one file. -/
import Derived.Test.YtfomhdhiibcdfaaGreatPart5
import Derived.Test.YtfomhdhiibcdfaaGreatPart35
import Derived.Test.YtfomhdhiibcdfaaGreatPart27
import Derived.OrdersIn
import Derived.OwnWalkIn
import Derived.RangeFuncCalls
import Derived.Test.YtfomhdhiibcdfaaGreatPart38
import Derived.Sort.CutIn
import Derived.Test.YtfomhdhiibcdfaaGreatPart1
import Derived.Laws.Tables
import Derived.RangeFuncBox
/-! How many boxes stand in the boxes of a tree, which is the first and which the last of them; no program is in it. -/
namespace Go.Proofs.YtfomhdhiibcdfaaGreat.Tree
open Go.Proofs.YtfomhdhiibcdfaaGreat.Record Go.Proofs.YtfomhdhiibcdfaaGreat.Script

theorem filter_range_cut (q : Nat → Bool) (e : Nat) : ∀ f, (∀ c, e ≤ c → c < e + f → q c = false) → (List.range (e + f)).filter q = (List.range e).filter q
  | 0, _ => rfl
  | f + 1, h => by
    rw [show e + (f + 1) = (e + f) + 1 by omega, List.range_succ, List.filter_append, filter_range_cut q e f (fun c a b => h c a (by omega))]
    have : q (e + f) = false := h _ (by omega) (by omega)
    simp [this]

theorem Shape.kids_eq {d : Nat → Int} {n : Nat} (h : Shape d n) (i : Nat) (hi : i < n) : kids d n i = (List.range n).filter fun c => decide (par d c = (i : Int)) := by
  obtain ⟨e1, e2, -, -⟩ := en_spec d n i hi
  obtain ⟨f, hf⟩ : ∃ f, n = en d n i + f := ⟨n - en d n i, by omega⟩
  have hcut : (List.range n).filter (fun c => decide (par d c = (i : Int))) = (List.range (en d n i)).filter (fun c => decide (par d c = (i : Int))) := by
    have := filter_range_cut (fun c => decide (par d c = (i : Int))) (en d n i) f (fun c a b => by
      rw [decide_eq_false_iff_not]
      intro hp
      have hk := (h.kid_iff i c hi (by omega)).2 hp
      rw [mem_kids] at hk
      omega)
    rw [← hf] at this
    exact this
  rw [hcut]
  unfold kids kidsTo
  refine List.filter_congr fun c hc => ?_
  have hc' : c < en d n i := List.mem_range.1 hc
  have hk := h.kid_iff i c hi (by omega)
  rw [mem_kids] at hk
  rw [Bool.eq_iff_iff]
  simp only [Bool.and_eq_true, decide_eq_true_eq]
  rw [← hk]
  constructor
  · rintro ⟨a, b⟩; exact ⟨hc', a, b⟩
  · rintro ⟨_, a, b⟩; exact ⟨a, b⟩

theorem countP_two {p q r : Nat → Bool} : ∀ l : List Nat, (∀ c, r c = (p c || q c)) → (∀ c, p c = true → q c = false) → l.countP r = l.countP p + l.countP q
  | [], _, _ => rfl
  | c :: l, h, g => by
    rw [List.countP_cons, List.countP_cons, List.countP_cons, countP_two l h g, h c]
    cases hp : p c <;> cases hq : q c
    · simp
    · simp; omega
    · simp; omega
    · rw [g c hp] at hq; cases hq

/-- How many boxes stand in the first k boxes. -/
def below (d : Nat → Int) (n k : Nat) : Nat := (List.range n).countP fun c => decide (0 ≤ par d c) && decide (par d c < (k : Int))

theorem below_zero (d : Nat → Int) (n : Nat) : below d n 0 = 0 := by
  unfold below
  rw [List.countP_eq_zero]
  intro c _
  simp only [Bool.and_eq_true, decide_eq_true_eq]
  omega

theorem Shape.below_next {d : Nat → Int} {n : Nat} (h : Shape d n) (k : Nat) (hk : k < n) : below d n (k + 1) = below d n k + (kids d n k).length := by
  rw [h.kids_eq k hk, ← List.countP_eq_length_filter]
  unfold below
  refine countP_two _ (fun c => ?_) (fun c hp => ?_)
  · rw [Bool.eq_iff_iff]
    simp only [Bool.and_eq_true, Bool.or_eq_true, decide_eq_true_eq]
    omega
  · simp only [Bool.and_eq_true, decide_eq_true_eq] at hp
    rw [decide_eq_false_iff_not]
    omega

theorem countP_pos : ∀ n, (List.range (n + 1)).countP (fun c => decide (0 < c)) = n
  | 0 => rfl
  | n + 1 => by
    rw [List.range_succ, List.countP_append, countP_pos n]
    simp

theorem Shape.below_all {d : Nat → Int} {n : Nat} (h : Shape d n) : below d n n = n - 1 := by
  have h0 := h.pos
  obtain ⟨m, rfl⟩ : ∃ m, n = m + 1 := ⟨n - 1, by omega⟩
  rw [show m + 1 - 1 = m by omega]
  refine Eq.trans ?_ (countP_pos m)
  unfold below
  refine List.countP_congr fun c hc => ?_
  have hc' := List.mem_range.1 hc
  simp only [Bool.and_eq_true, decide_eq_true_eq]
  have hb := par_bounds d c
  constructor
  · intro hp
    rcases Nat.eq_zero_or_pos c with e | e
    · subst e; rw [par_zero] at hp; omega
    · exact e
  · intro hc0
    obtain ⟨p, hp, -⟩ := h.parent c hc0 hc'
    omega

theorem Shape.below_le {d : Nat → Int} {n : Nat} (_h : Shape d n) (k : Nat) : below d n k ≤ n := by
  unfold below
  refine Nat.le_trans List.countP_le_length ?_
  rw [List.length_range]
  exact Nat.le_refl _

theorem Shape.en_zero {d : Nat → Int} {n : Nat} (h : Shape d n) : en d n 0 = n := by
  refine en_here d n 0 n h.pos (Nat.le_refl _) (fun m a b => ?_) (.inl rfl)
  have := h.step m a b
  rw [h.zero]; omega

theorem Shape.next_kid {d : Nat → Int} {n : Nat} (h : Shape d n) (i : Nat) (hi : i < n) (he : i + 1 < en d n i) : i + 1 ∈ kids d n i := by
  obtain ⟨e1, e2, e3, -⟩ := en_spec d n i hi
  rw [mem_kids]
  have h1 := e3 (i + 1) (by omega) he
  have h2 := h.step (i + 1) (by omega) (by omega)
  simp only [Nat.add_sub_cancel] at h2
  exact ⟨he, by omega, by omega⟩

theorem Shape.kids_nil {d : Nat → Int} {n : Nat} (h : Shape d n) (i : Nat) (hi : i < n) (hk : kids d n i = []) : en d n i = i + 1 := by
  obtain ⟨e1, -, -, -⟩ := en_spec d n i hi
  by_cases he : i + 1 < en d n i
  · have := h.next_kid i hi he
    rw [hk] at this
    cases this
  · omega

theorem Shape.kids_head {d : Nat → Int} {n : Nat} (h : Shape d n) (i : Nat) (hi : i < n) (hk : 0 < (kids d n i).length) : (kids d n i)[0]? = some (i + 1) := by
  have hs : (kids d n i).Pairwise (· < ·) := kids_sorted d i _
  cases hl : kids d n i with
  | nil => rw [hl] at hk; simp at hk
  | cons x l =>
    have hx : x ∈ kids d n i := by rw [hl]; simp
    rw [mem_kids] at hx
    have hn := h.next_kid i hi (by omega)
    rw [hl] at hn hs
    rw [List.mem_cons] at hn
    simp only [List.getElem?_cons_zero, Option.some.injEq]
    rcases hn with e | e
    · exact e.symm
    · have := (List.pairwise_cons.1 hs).1 _ e
      omega

theorem Shape.kids_last {d : Nat → Int} {n : Nat} (_h : Shape d n) (i c : Nat) (hi : i < n) (hk : (kids d n i)[(kids d n i).length - 1]? = some c) : c < n ∧ en d n c = en d n i := by
  have hs : (kids d n i).Pairwise (· < ·) := kids_sorted d i _
  have hx : c ∈ kids d n i := List.mem_of_getElem? hk
  rw [mem_kids] at hx
  obtain ⟨e1, e2, e3, e4⟩ := en_spec d n i hi
  have hcn : c < n := by omega
  obtain ⟨g1, g2, g3, g4⟩ := en_spec d n c hcn
  refine ⟨hcn, ?_⟩
  have hle := en_nest d n i c hi hx.2.1 hx.1
  rcases Nat.lt_or_ge (en d n c) (en d n i) with hlt | hge
  · have h1 := e3 (en d n c) (by omega) hlt
    rcases g4 with g4 | g4
    · omega
    · have hm : en d n c ∈ kids d n i := by rw [mem_kids]; exact ⟨hlt, by omega, by omega⟩
      obtain ⟨j, hj, hje⟩ := List.getElem_of_mem hm
      obtain ⟨hl, hle2⟩ := List.getElem?_eq_some_iff.1 hk
      have hjl : j ≤ (kids d n i).length - 1 := by omega
      rcases Nat.lt_or_ge j ((kids d n i).length - 1) with a | a
      · have := List.pairwise_iff_getElem.1 hs j _ hj hl a
        omega
      · have : j = (kids d n i).length - 1 := by omega
        subst this
        omega
  · omega

end Go.Proofs.YtfomhdhiibcdfaaGreat.Tree

/-! How ends come about, from the last box on. No program is in it. -/
namespace Go.Proofs.YtfomhdhiibcdfaaGreat.Tree
open Go.RowKit Go.Proofs.YtfomhdhiibcdfaaGreat.Record Go.Proofs.YtfomhdhiibcdfaaGreat.Script Go.Proofs.YtfomhdhiibcdfaaGreat.More

/-- One value turned. -/
def putE (e : Nat → Int) (k : Nat) (v : Int) : Nat → Int := fun j => if j = k then v else e j

theorem putE_same (e : Nat → Int) (k : Nat) (v : Int) : putE e k v k = v := by simp [putE]
theorem putE_other (e : Nat → Int) {k j : Nat} (v : Int) (h : j ≠ k) : putE e k v j = e j := by simp [putE, h]

theorem nodesE_put (bs : List Bx) (e : Nat → Int) (n k : Nat) (v : Int) : (nodesE bs e n).set k ⟨bs.getD k noB, par (dOf bs) k, v, (ctx (dOf bs) (oOf bs) k : Int)⟩ = nodesE bs (putE e k v) n := by
  refine List.ext_getElem (by simp [nodesE]) fun i h1 h2 => ?_
  rw [List.getElem_set]
  simp only [nodesE, List.getElem_map, List.getElem_range]
  by_cases h : k = i
  · subst h; rw [if_pos rfl, putE_same]
  · rw [if_neg h, putE_other e v (fun x => h x.symm)]

/-- The boxes from k on have told their ends. -/
def EndsTo (d : Nat → Int) (n k : Nat) (e : Nat → Int) : Prop :=
  (∀ j, k ≤ j → j < n → e j = (en d n j : Int)) ∧
  ∀ j, j < k → (e j = 0 ∨ ∃ c, k ≤ c ∧ c < n ∧ par d c = (j : Int) ∧ e j = (en d n c : Int)) ∧ ∀ c, k ≤ c → c < n → par d c = (j : Int) → (en d n c : Int) ≤ e j

theorem told_start (d : Nat → Int) (n : Nat) : EndsTo d n n (fun _ => 0) :=
  ⟨fun j h1 h2 => by omega, fun j _ => ⟨.inl rfl, fun c h1 h2 _ => by omega⟩⟩

/-- What a box has been told, or the place behind it, is where it ends. -/
theorem told_self {d : Nat → Int} {n k : Nat} {e : Nat → Int} (hs : Shape d n) (hk : k < n) (h : EndsTo d n (k + 1) e) : max (e k) ((k : Int) + 1) = (en d n k : Int) := by
  obtain ⟨h1, h2⟩ := h.2 k (by omega)
  obtain ⟨e1, -, -, -⟩ := en_spec d n k hk
  by_cases hq : kids d n k = []
  · have h3 := hs.kids_nil k hk hq
    rcases h1 with h1 | ⟨c, c1, c2, c3, c4⟩
    · omega
    · have := (hs.kid_iff k c hk c2).2 c3
      rw [hq] at this
      simp at this
  · have hl : 0 < (kids d n k).length := List.length_pos_iff.2 hq
    obtain ⟨c, hc⟩ : ∃ c, (kids d n k)[(kids d n k).length - 1]? = some c := ⟨_, List.getElem?_eq_getElem (by omega)⟩
    obtain ⟨g1, g2⟩ := Shape.kids_last hs k c hk hc
    have hm := List.mem_of_getElem? hc
    have hp := (hs.kid_iff k c hk g1).1 hm
    have hcb := ((mem_kids d n k c).1 hm)
    have h4 := h2 c (by omega) g1 hp
    rw [g2] at h4
    have h5 : e k ≤ (en d n k : Int) := by
      rcases h1 with h1 | ⟨c', c1, c2, c3, c4⟩
      · omega
      · have hm' := (hs.kid_iff k c' hk c2).2 c3
        have hb' := (mem_kids d n k c').1 hm'
        have := en_nest d n k c' hk hb'.2.1 hb'.1
        omega
    omega

/-- The first box. -/
theorem told_first {d : Nat → Int} {n : Nat} {e : Nat → Int} (hs : Shape d n) (h : EndsTo d n 1 e) : EndsTo d n 0 (putE e 0 (max (e 0) 1)) := by
  have h0 := told_self hs hs.pos h
  refine ⟨fun j _ hj => ?_, fun j hj => by omega⟩
  by_cases e0 : j = 0
  · subst e0; rw [putE_same]; simpa using h0
  · rw [putE_other e _ e0]; exact h.1 j (by omega) hj

theorem told_next {d : Nat → Int} {n k : Nat} {e : Nat → Int} (hs : Shape d n) (h0 : 0 < k) (hk : k < n) (p : Nat) (hp : par d k = (p : Int)) (h : EndsTo d n (k + 1) e) :
    EndsTo d n k (putE (putE e k (max (e k) ((k : Int) + 1))) p (max (e p) (max (e k) ((k : Int) + 1)))) := by
  have hv := told_self hs hk h
  have hb := par_bounds d k
  have hpk : p < k := by omega
  rw [hv]
  refine ⟨fun j h1 h2 => ?_, fun j hj => ?_⟩
  · rw [putE_other _ _ (by omega)]
    by_cases e1 : j = k
    · subst e1; rw [putE_same]
    · rw [putE_other _ _ e1]; exact h.1 j (by omega) h2
  · obtain ⟨g1, g2⟩ := h.2 j (by omega)
    by_cases e1 : j = p
    · subst e1
      rw [putE_same]
      refine ⟨?_, fun c c1 c2 c3 => ?_⟩
      · by_cases hm : (en d n k : Int) ≤ e j
        · rw [Int.max_eq_left hm]
          rcases g1 with g1 | ⟨c, c1, c2, c3, c4⟩
          · exact .inl g1
          · exact .inr ⟨c, by omega, c2, c3, c4⟩
        · rw [Int.max_eq_right (by omega)]
          exact .inr ⟨k, Nat.le_refl _, hk, hp, rfl⟩
      · by_cases e2 : c = k
        · subst e2; omega
        · have := g2 c (by omega) c2 c3; omega
    · rw [putE_other _ _ e1, putE_other _ _ (by omega)]
      refine ⟨?_, fun c c1 c2 c3 => ?_⟩
      · rcases g1 with g1 | ⟨c, c1, c2, c3, c4⟩
        · exact .inl g1
        · exact .inr ⟨c, by omega, c2, c3, c4⟩
      · by_cases e2 : c = k
        · subst e2; rw [hp] at c3; omega
        · exact g2 c (by omega) c2 c3

theorem told_all {bs : List Bx} {e : Nat → Int} (h : EndsTo (dOf bs) bs.length 0 e) : nodesE bs e bs.length = nodesOf bs := by
  unfold nodesOf nodesE
  refine List.map_congr_left fun i hi => ?_
  rw [h.1 i (by omega) (List.mem_range.1 hi)]
  rfl

end Go.Proofs.YtfomhdhiibcdfaaGreat.Tree

/-! The law of Told in a round of a range over a function: what each operation of a region's head leaves is listed once, whatever the order. -/
namespace Go.Proofs.YtfomhdhiibcdfaaGreat.More
open Go.RowKit Go.Sort Go.Proofs.YtfomhdhiibcdfaaGreat.Told

def noDefer (l : List Oper) (n : Nat) : Bool :=
  (List.range n).all fun i => match l[i]? with
    | some o => (match o.op with | .defer _ => false | _ => true)
    | none => true

theorem noDefer_spec {l : List Oper} {n i : Nat} {o : Oper} (h : noDefer l n = true) (hi : i < n) (ho : l[i]? = some o) : ∀ c, o.op ≠ .defer c := by
  intro c hc
  have := List.all_eq_true.1 h i (List.mem_range.2 hi)
  rw [ho] at this
  simp only [hc] at this
  cases this

section
variable {P : Program}

theorem tellingIn_step {l : List Oper} {ys : List Leave} {a0 : Act} {W : World} {lo nF : Nat} {g : Nat → Nat} {listed : Array Bool} {a : Act} {w : World} {Q : Exit → Act → World → Prop} (ok : HeadOk l ys.length a0.tmps.size) (h : Telling l ys a0 W g listed a w) (hs : Region.noSelect l.toArray = true)
    (hgd : guardsB l ys ys = true) (hdf : noDefer l ys.length = true) (hall : allLeave P (fun g => fill g 0 l ys a0) ys W l ys) (hsz : listed.size = l.toArray.size) {i : Nat} (hi : i < ys.length) (hr : i ∈ Region.ready .any l.toArray listed) :
    wpOpIn (Fence.wide.inRound lo) nF P l.toArray Q i (fun a' w' => ∃ g, Telling l ys a0 W g (listed.setIfInBounds i true) a' w') a w := by
  obtain ⟨hun, o, ho, hdep⟩ := mem_ready.1 hr
  have ho' : l[i]? = some o := by simpa using ho
  have hy : ys[i]? = some ys[i] := by simp [hi]
  have hsame := h.same ok hs hi ho' hdep
  have hY := allLeave_at hall ho' hy
  have hun' : listed.getD i false = false := getD_both hun
  have hin : i < listed.size := by
    rw [hsz]; simpa using (List.getElem?_eq_some_iff.1 ho').1
  have hkn : known ys o W g w := fun e he hb y b hye hyb => h.boxes e.on y b hye hyb (hdep e he hb)
  have hw : Region.wanted o (yielded l.toArray a.tmps) = !(ys[i]).isSkip := by
    rcases guards_at hgd ho' hy with ⟨hg, hsk⟩ | ⟨k, b, c, hg, ⟨e, he, hb, hon⟩, hk, hcb⟩
    · simp [Region.wanted, hg, hsk]
    · have hlk : listed.getD k false = true := by rw [← hon]; exact hdep e he hb
      have hkl : k < ys.length := (List.getElem?_eq_some_iff.1 hk).1
      obtain ⟨p, hp⟩ := ok.there k hkl
      obtain ⟨d, hd1, hd2⟩ := ok.dst k p hkl hp
      have hsl := h.slot k p _ d hp hk hlk hd1
      have hda : d < a.tmps.size := by rw [h.size]; exact hd2
      have hyl : yielded l.toArray a.tmps k = some c := by
        unfold yielded
        simp only [List.getElem?_toArray, hp, Option.bind_some, hd1]
        have : a.tmps[d]? = some (.bool c) := by
          rw [Array.getElem?_eq_getElem hda]
          simpa [Leave.value, hda] using hsl
        rw [this]
      simp only [Region.wanted, hg, hyl]
      rw [← hcb]
      cases c <;> cases b <;> rfl
  have hnd : ∀ c, o.op ≠ .defer c := noDefer_spec hdf hi ho'
  unfold wpOpIn
  simp only [ho, hw]
  revert hY
  generalize hyi : ys[i] = y at *
  cases y with
  | skip =>
    intro _
    simp only [Leave.isSkip, Bool.not_true, Bool.false_eq_true, if_false]
    exact ⟨fun _ _ => trivial, g, h.plain ok hi ho' hy hin hun' rfl rfl (Below.refl _ _)⟩
  | val v =>
    intro hY
    simp only [Leave.isSkip, Bool.not_false, if_true]
    unfold Oper.wpIn
    refine ⟨fun _ _ => trivial, ?_⟩
    rw [Oper.semAt_plain _ _ _ hnd, hsame]
    have h3 := hY g w h.below hkn
    generalize (execOp (fill g 0 l ys a0).eval o).run P w = r at *
    cases r with
    | ok nx w' =>
      cases nx <;> simp only [stays] at h3 <;> simp only [Oper.uponIn]
      case value u =>
        obtain ⟨rfl, rfl⟩ := h3
        exact ⟨g, h.plain ok hi ho' hy hin hun' rfl rfl (Below.refl _ _)⟩
      case enter f args =>
        obtain ⟨rfl, hc⟩ := h3
        refine ⟨(fun hd => by cases hd), (CallsIn.inRound lo (callsIn_wide.2 hc)).mono fun e w'' ⟨he, hb⟩ => ?_⟩
        subst he
        exact ⟨g, h.plain ok hi ho' hy hin hun' rfl rfl hb⟩
    | halt x w' => simp only [stays] at h3
  | box b =>
    intro hY
    simp only [Leave.isSkip, Bool.not_false, if_true]
    unfold Oper.wpIn
    refine ⟨fun _ _ => trivial, ?_⟩
    rw [Oper.semAt_plain _ _ _ hnd, hsame, hY g w h.below hkn]
    simp only [Oper.uponIn]
    exact h.block ok hi ho' hy hin hun' rfl
  | row b n c =>
    intro hY
    simp only [Leave.isSkip, Bool.not_false, if_true]
    unfold Oper.wpIn
    refine ⟨fun _ _ => trivial, ?_⟩
    rw [Oper.semAt_plain _ _ _ hnd, hsame, hY g w h.below hkn]
    simp only [Oper.uponIn]
    exact h.block ok hi ho' hy hin hun' rfl

end

section
variable {P : Program} {l : List Oper} {a0 : Act} {W : World}

/-- A region that draws its order: the operations of its head leave what is listed; new blocks are apart; then its tail, one by one. -/
theorem wpIn_region_told {lo nF : Nat} {id : Nat} {Q : Exit → Act → World → Prop} (ys : List Leave) (hm : P.follows .mixedOrders = true)
    (hB : (Region.noSelect l.toArray && decide (ys.length < l.toArray.size) && Region.sinkB .any l.toArray ys.length && Region.chainB .any l.toArray ys.length &&
      noDefer l ys.length && headB l ys.length a0.tmps.size) = true)
    (hgd : guardsB l ys ys = true)
    (hall : allLeave P (fun g => fill g 0 l ys a0) ys W l ys)
    (hend : ∀ (g : Nat → Nat) (w' : World), Below W.heap.size W w' → (∀ i y b, ys[i]? = some y → y.obj = some b → W.heap.size ≤ g i ∧ w'.heap[g i]? = some b) →
      (∀ i j y z b c, i ≠ j → ys[i]? = some y → ys[j]? = some z → y.obj = some b → z.obj = some c → g i ≠ g j) → wpAnyIn (Fence.wide.inRound lo) nF P .any l.toArray Q (l.length - ys.length) (List.replicate ys.length true ++ List.replicate (l.length - ys.length) false).toArray (fill g 0 l ys a0) w') :
    (Code.region id l.toArray true).wpIn (Fence.wide.inRound lo) nF P Q a0 W := by
  simp only [Bool.and_eq_true, decide_eq_true_eq] at hB
  obtain ⟨⟨⟨⟨⟨hsel, hn⟩, hs⟩, hc⟩, hdf⟩, hhead⟩ := hB
  have ok := headOk hhead
  have hn' : ys.length < l.length := by simpa using hn
  refine wpIn_region_any hm ?_
  have key : ∀ (f : Nat) (listed : Array Bool) (a : Act) (w : World) (g : Nat → Nat), HeadInv .any l.toArray ys.length listed → unlisted listed = f + (l.toArray.size - ys.length) → Telling l ys a0 W g listed a w →
      wpAnyIn (Fence.wide.inRound lo) nF P .any l.toArray Q (f + (l.toArray.size - ys.length)) listed a w := by
    intro f
    induction f with
    | zero =>
      intro listed a w g inv hu hb
      have hls : listed.size = l.length := by have := inv.size; simpa using this
      -- all of the head has come up
      have hcount : listed.toList.countP (fun b => !b) = l.length - ys.length := by
        unfold unlisted at hu; simpa using hu
      have htail : listed.toList.drop ys.length = List.replicate (l.length - ys.length) false := by
        refine List.ext_getElem (by simp [hls]) fun k h1 h2 => ?_
        have hk : ys.length + k < listed.size := by simp at h1; omega
        have := inv.tail (ys.length + k) (by omega) (by rw [← inv.size]; exact hk)
        simpa [hk] using this
      have hsplit : listed.toList = listed.toList.take ys.length ++ List.replicate (l.length - ys.length) false := by rw [← htail, List.take_append_drop]
      have hh : (listed.toList.take ys.length).countP (fun b => !b) = 0 := by
        rw [hsplit, List.countP_append] at hcount
        have hr : (List.replicate (l.length - ys.length) false).countP (fun b => !b) = l.length - ys.length := by rw [List.countP_replicate]; simp
        rw [hr] at hcount
        omega
      have hhead : listed.toList.take ys.length = List.replicate ys.length true := by
        have hlen : (listed.toList.take ys.length).length = ys.length := by simp [hls]; omega
        rw [List.eq_replicate_iff]
        refine ⟨hlen, fun b hb => ?_⟩
        have := List.countP_eq_zero.1 hh b hb
        simpa using this
      have hlisted : listed = (List.replicate ys.length true ++ List.replicate (l.toArray.size - ys.length) false).toArray := by
        have h1 : listed = listed.toList.toArray := by simp
        rw [h1, hsplit, hhead]
        simp
      have hall' : ∀ i, i < ys.length → listed.getD i false = true := by
        intro i hi
        rw [hlisted, Array.getD_eq_getD_getElem?, List.getElem?_toArray, List.getElem?_append_left (by simpa using hi)]
        simp [hi]
      have hfull := hb.full ok hall'
      have := hend g w hb.below (fun i y b hi hy => hb.boxes i y b hi hy (hall' i (List.getElem?_eq_some_iff.1 hi).1)) (fun i j y z b c hij hi hj hy hz => hb.apart i j y z b c hij hi hj hy hz (hall' i (List.getElem?_eq_some_iff.1 hi).1) (hall' j (List.getElem?_eq_some_iff.1 hj).1))
      rw [hfull, hlisted, Nat.zero_add]
      simpa using this
    | succ f ih =>
      intro listed a w g inv hu hb
      -- the first one of the head that has not come up
      have hex : ∃ i, i < ys.length ∧ listed.getD i false = false := by
        refine Classical.byContradiction fun hno => ?_
        have hno' : ∀ i, i < ys.length → listed.getD i false = true := fun i hi => by
          cases h : listed.getD i false with
          | true => rfl
          | false => exact absurd ⟨i, hi, h⟩ hno
        have hls : listed.size = l.length := by have := inv.size; simpa using this
        have h0 : (listed.toList.take ys.length).countP (fun b => !b) = 0 := by
          rw [List.countP_eq_zero]
          intro b hb'
          obtain ⟨k, hk, rfl⟩ := List.getElem_of_mem hb'
          have hk1 : k < ys.length := by simp at hk; omega
          have hk2 : k < listed.size := by omega
          have := hno' k hk1
          simpa [hk2] using this
        have h1 := List.countP_le_length (p := fun b => !b) (l := listed.toList.drop ys.length)
        have h2 : unlisted listed = (listed.toList.take ys.length).countP (fun b => !b) + (listed.toList.drop ys.length).countP (fun b => !b) := by
          unfold unlisted; rw [← List.countP_append, List.take_append_drop]
        simp only [List.length_drop, Array.length_toList, hls] at h1
        have h3 : l.toArray.size = l.length := by simp
        omega
      have hleast : ∀ m : Nat, (∃ i, i < m ∧ i < ys.length ∧ listed.getD i false = false) → ∃ i, i < ys.length ∧ listed.getD i false = false ∧ ∀ j, j < i → listed.getD j false = true := by
        intro m
        induction m with
        | zero => rintro ⟨i, hi, _⟩; omega
        | succ m ih2 =>
          rintro ⟨i, hi, hiy, hil⟩
          by_cases hsm : ∃ j, j < m ∧ j < ys.length ∧ listed.getD j false = false
          · exact ih2 hsm
          · refine ⟨i, hiy, hil, fun j hj => ?_⟩
            cases h : listed.getD j false with
            | true => rfl
            | false => exact absurd ⟨j, by omega, by omega, h⟩ hsm
      obtain ⟨i, hi, hil, hlt⟩ := hleast ys.length (by obtain ⟨i, h1, h2⟩ := hex; exact ⟨i, h1, h1, h2⟩)
      have hsize : ∀ k, k < ys.length → k < listed.size := fun k hk => by rw [inv.size]; omega
      have hready : i ∈ Region.ready .any l.toArray listed := by
        obtain ⟨o, ho⟩ := ok.there i hi
        exact mem_ready.2 ⟨getD_in (hsize i hi) hil, o, by simpa using ho, fun e he hbd => hlt _ (ok.back i o hi ho e he hbd)⟩
      rw [show f + 1 + (l.toArray.size - ys.length) = (f + (l.toArray.size - ys.length)) + 1 by omega]
      refine ⟨fun h0 => (by rw [h0] at hready; cases hready), fun j hj => ?_⟩
      have hjn : j < ys.length := by
        rcases Nat.lt_or_ge j ys.length with h | h
        · exact h
        · exact absurd hj (tail_waits hs hc hn inv _ i rfl hi (getD_in (hsize i hi) hil) j h)
      refine wpOpIn_mono (fun a' w' ⟨g', hb'⟩ => ih _ a' w' g' (inv.set hj hjn) ?_ hb') (tellingIn_step ok hb hsel hgd hdf hall inv.size hjn hj)
      have := unlisted_set (mem_ready.1 hj).1
      omega
  have inv0 : HeadInv .any l.toArray ys.length (Array.replicate l.toArray.size false) :=
    ⟨by simp, fun j oj _ hl => (by rw [getD_replicate_false] at hl; cases hl), fun t _ ht => getD_in (by simpa using ht) (getD_replicate_false _ _)⟩
  have hu : unlisted (Array.replicate l.toArray.size false) = ys.length + (l.toArray.size - ys.length) := by
    unfold unlisted
    rw [Array.toList_replicate, List.countP_replicate]
    simp
    omega
  have := key ys.length _ a0 { W with drawn := W.drawn + 1 } (fun _ => 0) inv0 hu
    ⟨rfl, rfl, ⟨rfl, rfl, rfl, Nat.le_refl _, fun _ _ => rfl⟩, fun _ _ => rfl, fun i o y d _ _ hl => (by rw [getD_replicate_false] at hl; cases hl), fun i y b _ _ hl => (by rw [getD_replicate_false] at hl; cases hl),
      fun i j y z b c _ _ _ _ _ hl => (by rw [getD_replicate_false] at hl; cases hl)⟩
  rwa [show ys.length + (l.toArray.size - ys.length) = l.toArray.size by omega] at this

end

end Go.Proofs.YtfomhdhiibcdfaaGreat.More

/-! The contract of setEnds: a range over slices.Backward, whose body turns ends. -/
namespace Go.Proofs.YtfomhdhiibcdfaaGreat.Tree
open Go.RowKit Go.Shelf Go.Sort Go.Proofs.YtfomhdhiibcdfaaGreat.Record Go.Proofs.YtfomhdhiibcdfaaGreat.Script Go.Proofs.YtfomhdhiibcdfaaGreat.More

attribute [local go_sem] Oper.semAt_some

/-- A place, and an end that was told there. -/
abbrev Pl (n : Nat) := { k : Nat // k < n } × Int

def Pl.ix {n : Nat} (x : Pl n) : Nat := x.1.1

/-- All places from the last one on, as many as there are. -/
def Back {n : Nat} (pre : List (Pl n)) : Prop := pre.map Pl.ix = (List.range' (n - pre.length) pre.length).reverse

theorem Back.prev {n : Nat} {pre : List (Pl n)} {x : Pl n} (h : Back (pre ++ [x])) (hl : pre.length < n) : Back pre ∧ Pl.ix x = n - (pre.length + 1) := by
  unfold Back at h
  rw [List.map_append, List.length_append, List.length_cons, List.length_nil, Nat.zero_add] at h
  rw [range_back, show n - (pre.length + 1) + 1 = n - pre.length by omega] at h
  obtain ⟨h1, h2⟩ := List.append_inj' h (by simp)
  exact ⟨h1, by simpa using h2⟩

theorem Back.all {n : Nat} {ys : List (Pl n)} (h : ys.map Pl.ix = (List.range' 0 n).reverse) : Back ys ∧ ys.length = n := by
  have hl : ys.length = n := by have := congrArg List.length h; simpa using this
  refine ⟨?_, hl⟩
  unfold Back
  rw [hl, Nat.sub_self]
  exact h

section
variable (bs : List Bx) (n B g a c bt bl : Nat) (w0 : World)

/-- What a round keeps, and what it has told. -/
structure StE (pre : List (Pl n)) (W : World) : Prop where
  t : Boxed W bt 27 (.pointer (some ⟨g, 0, none⟩))
  b : Boxed W g 99 (.slice (some ⟨a, 0, none⟩) n c)
  l : Boxed W bl 97 (.slice (some ⟨a, 0, none⟩) n c)
  m : ∃ e, MineN W B (some ⟨a, 0, none⟩) n c (nodesE bs e n) ∧ (Back pre → EndsTo (dOf bs) n (n - pre.length) e)
  w : Below B w0 W

/-- What a round keeps, at the least. -/
def KpE (W W' : World) : Prop := W'.cell? ⟨bl, 0, none⟩ = W.cell? ⟨bl, 0, none⟩ ∧ ∀ e, MineN W B (some ⟨a, 0, none⟩) n c (nodesE bs e n) → ∃ e', MineN W' B (some ⟨a, 0, none⟩) n c (nodesE bs e' n)

theorem stE_own {N : Nat} (h1 : bt < N) (h2 : g < N) (h3 : bl < N) (h4 : a < N) (h5 : B ≤ N) (h6 : B ≤ w0.heap.size) : OwnFrom N (StE bs n B g a c bt bl w0) := by
  rintro pre W W' row ⟨t, b, l, ⟨e, hm, hi⟩, hw⟩ hg hr
  have ne : ∀ k, k < N → some k ≠ row := fun k hk e => by have := (hr k e.symm).1; omega
  refine ⟨t.kept hg (ne _ h1), b.kept hg (ne _ h2), l.kept hg (ne _ h3), ⟨e, hm.kept hg (fun k hk => ?_), hi⟩, hw.grown hg (Nat.le_trans h6 hw.size) (fun k hk => ?_)⟩
  · injection hk with hk; subst hk; exact fun e => ne _ h4 e.symm
  · have := (hr k hk).1; omega

end

theorem kpE_trans {bs : List Bx} {n B a c bl : Nat} {X Y Z : World} (h : KpE bs n B a c bl X Y) (k : KpE bs n B a c bl Y Z) : KpE bs n B a c bl X Z :=
  ⟨k.1.trans h.1, fun e he => by obtain ⟨e1, h1⟩ := h.2 e he; exact k.2 e1 h1⟩

theorem kpE_put {bs : List Bx} {n B a c bl N : Nat} (h1 : bl < N) (h2 : a < N) (W : World) (l : Nat) (o o' : Obj) (hl : N ≤ l) (_ : W.heap[l]? = some o) (_ : o.isCells = false) (_ : o.isWalk = false) : KpE bs n B a c bl W (W.putObj l o') := by
  refine ⟨?_, fun e he => ⟨e, he.kept (grownBy_putObj' W l o') (fun k hk e => ?_)⟩⟩
  · have : (W.putObj l o').heap[bl]? = W.heap[bl]? := World.putObj_heap_other (by omega)
    simp [World.cell?, this]
  · injection hk with hk
    injection e with e
    have hk' : a = k := hk
    omega

/-- The nodes of a world in which none but ends have been turned. -/
theorem nodes_read {bs : List Bx} {n B a c : Nat} {W : World} {e : Nat → Int} (h : MineN W B (some ⟨a, 0, none⟩) n c (nodesE bs e n)) (k : Nat) (hk : k < n) : AtN W ⟨a, k * 17, none⟩ ⟨bs.getD k noB, par (dOf bs) k, e k, (ctx (dOf bs) (oOf bs) k : Int)⟩ := by
  refine AtN.of_mine h k _ ?_
  have := nodesE_at bs e hk
  rw [← this]
  simp [List.getD, nodesE_len, hk]

theorem kpE_refl {bs : List Bx} {n B a c bl : Nat} (W : World) : KpE bs n B a c bl W W := ⟨rfl, fun e h => ⟨e, h⟩⟩

theorem ends_put {bs : List Bx} {n B a c : Nat} {W : World} {e : Nat → Int} (h : MineN W B (some ⟨a, 0, none⟩) n c (nodesE bs e n)) (k : Nat) (hk : k < n) (v : Int) :
    MineN (W.setCell ⟨a, k * 17 + 15, none⟩ (.int .i64 v)) B (some ⟨a, 0, none⟩) n c (nodesE bs (putE e k v) n) ∧ W.grownBy (W.setCell ⟨a, k * 17 + 15, none⟩ (.int .i64 v)) (some a) := by
  have hx : (nodesE bs e n)[k]? = some ⟨bs.getD k noB, par (dOf bs) k, e k, (ctx (dOf bs) (oOf bs) k : Int)⟩ := by
    rw [← nodesE_at bs e hk]
    simp [List.getD, nodesE_len, hk]
  have := MineE.stored h k _ ⟨bs.getD k noB, par (dOf bs) k, v, (ctx (dOf bs) (oOf bs) k : Int)⟩ hx 15 (by decide) (.int .i64 v) rfl
  rw [nodesE_put] at this
  exact this

theorem grown_trans {W X Y : World} {a : Nat} (h : W.grownBy X (some a)) (k : X.grownBy Y (some a)) : W.grownBy Y (some a) :=
  ⟨k.os.trans h.os, k.tape.trans h.tape, k.output.trans h.output, Nat.le_trans h.size k.size, fun i hi hne => (k.block i (Nat.lt_of_lt_of_le hi h.size) hne).trans (h.block i hi hne)⟩

theorem grown_any {W X : World} (a : Nat) (h : Below W.heap.size W X) : W.grownBy X (some a) := ⟨h.os, h.tape, h.output, h.size, fun k hk _ => h.block k hk⟩

/-- How a round ends. -/
theorem round_end {bs : List Bx} {n B g a c bt bl N : Nat} {w0 : World} {pre : List (Pl n)} {x : Pl n} {W W' : World} (h : StE bs n B g a c bt bl w0 pre W) (hg : W.grownBy W' (some a)) (e2 : Nat → Int)
    (hm2 : MineN W' B (some ⟨a, 0, none⟩) n c (nodesE bs e2 n)) (hi2 : Back (pre ++ [x]) → EndsTo (dOf bs) n (n - (pre ++ [x]).length) e2) (h1 : bt ≠ a) (h2 : g ≠ a) (h3 : bl ≠ a) (h4 : a < N) (h5 : B ≤ a) (h6 : B ≤ w0.heap.size) :
    KeepsFrom N W W' ∧ KpE bs n B a c bl W W' ∧ StE bs n B g a c bt bl w0 (pre ++ [x]) W' := by
  have ne : ∀ k, k ≠ a → some k ≠ some a := fun k hk e => hk (Option.some.inj e)
  have hl := h.l.kept hg (ne _ h3)
  refine ⟨KeepsFrom.of_grownBy hg (fun j e => by cases e; exact h4), ⟨?_, fun _ _ => ⟨e2, hm2⟩⟩, h.t.kept hg (ne _ h1), h.b.kept hg (ne _ h2), hl, ⟨e2, hm2, hi2⟩, h.w.grown hg (Nat.le_trans h6 h.w.size) (fun k e => by cases e; exact h5)⟩
  rw [hl.cell, h.l.cell]

set_option maxRecDepth 100000 in
set_option maxHeartbeats 4000000 in
theorem setends_yes (w : World) (B g : Nat) (A : Option Addr) (c : Nat) (bs : List Bx) (hn : bs.length ≤ 1000) (h0 : 0 < bs.length) (hf : Fine bs bs.length) (hB : B ≤ w.heap.size) (hT : InT w B g A c (nodesE bs (fun _ => 0) bs.length)) :
    CallsIn Fence.wide 6 Tryz.prog 38 #[.pointer (some ⟨g, 0, none⟩)] w fun e w' => (∃ v, e = .returned v) ∧ InT w' B g A c (nodesOf bs) ∧ Below B w w' := by
  have hro : Fence.wide.round = none := rfl
  obtain ⟨n, hnn⟩ : ∃ n, bs.length = n := ⟨_, rfl⟩
  have HSH := Lib.hid (hf.shape h0)
  have HTA : Hid (∀ e, EndsTo (dOf bs) n 0 e → nodesE bs e n = nodesOf bs) := Lib.hid (by subst hnn; exact fun e h => told_all h)
  obtain ⟨hb, hm⟩ := hT
  rw [nodesE_len, hnn] at hb hm
  rw [hnn] at hn h0 HSH
  have HN := Lib.hid hnn
  clear hnn hf
  obtain ⟨a, rfl, ha1, ha2, -, -⟩ := hm.form h0
  have hga : g ≠ a := by
    have := hb.not_row (by decide) hm
    intro e; subst e; exact this rfl
  have hgl := hb.lt
  have hc0 := hb.cell
  refine callsIn_of_wp_marks Tryz.func38 rfl trivial ?_ hro
  simp only [Tryz.ntmps38, List.size_toArray, List.length_cons, List.length_nil, Nat.reduceAdd, Nat.reduceSub, Array.replicate_succ, Array.replicate_zero, List.push_toArray, List.append_toArray, List.nil_append, List.cons_append]
  gi_wp2_with (refine ⟨trivial, ?_⟩; gi_at_call 59; refine (back_in Fence.wide 5 trivial hro _ _ _ _).mono ?_; rintro e w' ⟨rfl, rfl⟩)
  obtain ⟨bt, hbt⟩ : ∃ bt, w.heap.size = bt := ⟨_, rfl⟩
  obtain ⟨bl, hbl⟩ : ∃ bl, w.heap.size + 1 = bl := ⟨_, rfl⟩
  have b1 := (Boxed.new w 27 (.pointer (some ⟨g, 0, none⟩))).alloc (.cells #[.slice (some ⟨a, 0, none⟩) n c] 97)
  have b2 := Boxed.new (w.alloc (.cells #[.pointer (some ⟨g, 0, none⟩)] 27)) 97 (.slice (some ⟨a, 0, none⟩) n c)
  have b3 := (hb.alloc (.cells #[.pointer (some ⟨g, 0, none⟩)] 27)).alloc (.cells #[.slice (some ⟨a, 0, none⟩) n c] 97)
  have m3 := (hm.alloc (.cells #[.pointer (some ⟨g, 0, none⟩)] 27)).alloc (.cells #[.slice (some ⟨a, 0, none⟩) n c] 97)
  have k3 := ba2 w (.cells #[.pointer (some ⟨g, 0, none⟩)] 27) (.cells #[.slice (some ⟨a, 0, none⟩) n c] 97)
  have hsz : ((w.alloc (.cells #[.pointer (some ⟨g, 0, none⟩)] 27)).alloc (.cells #[.slice (some ⟨a, 0, none⟩) n c] 97)).heap.size = w.heap.size + 2 := by simp
  simp only [World.size_alloc] at b2
  rw [hbt] at b1
  rw [hbl] at b2 ⊢
  rw [hbt]
  generalize (w.alloc (.cells #[.pointer (some ⟨g, 0, none⟩)] 27)).alloc (.cells #[.slice (some ⟨a, 0, none⟩) n c] 97) = W0 at *
  clear hc0 hb hm
  have hbta : bt ≠ a := by omega
  have hbla : bl ≠ a := by omega
  have hB3 : Below B w W0 := k3.mono hB
  refine wpIn_rangeFunc_ownG hro (by omega) (gf := 73) (lb := #[.pointer (some ⟨bl, 0, none⟩)]) rfl trivial (enters_of Tryz.func73 (by kernel_rfl) rfl)
    (back_stops (α := Pl n) Pl.ix (fun x => ⟨bs.getD x.1.1 noB, par (dOf bs) x.1.1, x.2, (ctx (dOf bs) (oOf bs) x.1.1 : Int)⟩) (KpE bs n B a c bl) (fun h k => kpE_trans h k) kpE_refl Fence.wide 5 trivial hro (by omega) bl n c a hn W0 b2.cell (fun _ _ h => h.1)
      (fun W W' h1 h2 k hk => by
        obtain ⟨e', he'⟩ := h2.2 _ (m3.below h1)
        exact ⟨⟨⟨k, hk⟩, e' k⟩, rfl, nodes_read he' k hk⟩))
    (fun h k => kpE_trans h k) (fun W l o o' h1 h2 h3 h4 => kpE_put (N := W0.heap.size) (by omega) (by omega) W l o o' h1 h2 h3 h4) (Below.refl _ _) (fun _ => rfl)
    (StE bs n B g a c bt bl w) (fun _ _ _ => False)
    (stE_own bs n B g a c bt bl w (by omega) (by omega) (by omega) (by omega) (by omega) hB)
    (fun _ _ _ _ _ hs _ _ => hs)
    ⟨b1, b3, b2, ⟨_, m3, fun _ => told_start _ _⟩, hB3⟩
    (fun x => { tmps := #[.pointer (some ⟨g, 0, none⟩), .pointer (some ⟨bt, 0, none⟩), .int .i64 (x.1.1 : Int), undef, undef, .pointer (some ⟨g, 0, none⟩), .pointer (some ⟨g, 0, none⟩), .pointer (some ⟨g, 0, none⟩), .slice (some ⟨a, 0, none⟩) n c, .func (.func 73) #[] #[.pointer (some ⟨bl, 0, none⟩)], .int .i64 (x.1.1 : Int), Nd.v ⟨bs.getD x.1.1 noB, par (dOf bs) x.1.1, x.2, (ctx (dOf bs) (oOf bs) x.1.1 : Int)⟩, undef, undef, undef, undef, undef, undef, undef, undef, undef, undef, undef, undef, undef, undef, undef, undef, undef, undef, undef, undef, undef, undef, undef, undef, undef, undef, undef, undef, undef, undef, undef, undef, undef, undef, undef, undef, undef, undef, undef, undef, undef, undef], defers := [] }) ?assign ?body ?done ?stop
  case assign =>
    intro l x W K hK
    gi_wp2
    exact hK
  case body =>
    rintro l pre ⟨⟨k, hk⟩, v⟩ W hS hlt
    have HS := Lib.hid hS
    obtain ⟨b1, b3, b2, ⟨e, hm, hi⟩, hw⟩ := hS
    have HM := Lib.hid hm
    have HI := Lib.hid hi
    have hc1 := b1.cell
    have hc2 := b3.cell
    have hx := nodes_read hm k hk
    obtain ⟨-, n14, n15, -⟩ := hx
    have hz := hm.frozen
    have hkn : (k : Int) < (n : Int) := by omega
    have hwk : IntKind.i64.wrap ((k : Int) + 1) = (k : Int) + 1 := IntWalk.i64_in _ (by omega)
    clear b1 b3 b2 hm hi hw
    dsimp only
    gi_upto_region 5 with fail
    have hv0 : (if e k < (k : Int) + 1 then (k : Int) + 1 else e k) = max (e k) ((k : Int) + 1) := by split <;> omega
    try rw [hv0]
    obtain ⟨v1, hv1⟩ : ∃ v1, max (e k) ((k : Int) + 1) = v1 := ⟨_, rfl⟩
    rw [hv1]
    have HV : Hid (v1 = max (e k) ((k : Int) + 1)) := Lib.hid hv1.symm
    clear hv0
    have hp := ends_put HM.out k hk v1
    generalize W.setCell ⟨a, k * 17 + 15, none⟩ (.int .i64 v1) = W1 at hp ⊢
    obtain ⟨hm1, hg1⟩ := hp
    have hd1 : W1.cell? ⟨bt, 0, none⟩ = some (.pointer (some ⟨g, 0, none⟩)) := hg1.cell hc1 (fun e => hbta (Option.some.inj e))
    have hd2 : W1.cell? ⟨g, 0, none⟩ = some (.slice (some ⟨a, 0, none⟩) n c) := hg1.cell hc2 (fun e => hga (Option.some.inj e))
    have HM1 := Lib.hid hm1
    have HG1 := Lib.hid hg1
    clear n14 n15 hc1 hc2 hz HM hv1 hm1 hg1
    obtain ⟨-, n14, n15, -⟩ := nodes_read HM1.out k hk
    have hz := HM1.out.frozen
    rcases Nat.eq_zero_or_pos k with hk0 | hk0
    · subst hk0
      have hp0 : par (dOf bs) 0 = -1 := par_zero _
      gi_wp2_with fail
      refine round_end HS.out HG1.out _ HM1.out (fun hb => ?_) hbta hga hbla (by omega) ha1 hB
      obtain ⟨hb1, hb2⟩ := hb.prev hlt
      have hb3 : 0 = n - (pre.length + 1) := hb2
      have hi := HI.out hb1
      rw [show n - pre.length = 1 by omega] at hi
      rw [List.length_append, List.length_cons, List.length_nil, ← hb3, HV.out]
      exact told_first HSH.out hi
    · obtain ⟨q, hq, hqk, -, -⟩ := HSH.out.parent k hk0 hk
      have HQ := Lib.hid hq
      have hq1 : (par (dOf bs) k == -1) = false := by rw [beq_eq_false_iff_ne]; omega
      have hqn : (q : Int) < (n : Int) := by omega
      have hqs : q < n := by omega
      gi_upto_region 6 with fail
      clear n14
      obtain ⟨-, n14, -, -⟩ := nodes_read HM1.out k hk
      change _ = some (Value.int .i64 (par (dOf bs) k)) at n14
      rw [HQ.out] at n14
      refine wpIn_region_told [.val (.pointer (some ⟨g, 0, none⟩)), .val (.pointer (some ⟨g, 0, none⟩)), .val (.pointer (some ⟨g, 0, none⟩)), .val (.slice (some ⟨a, 0, none⟩) n c), .val (.pointer (some ⟨a, k * 17, none⟩)), .val (.pointer (some ⟨a, k * 17, none⟩)), .val (.pointer (some ⟨a, k * 17 + 14, none⟩)), .val (.int .i64 (q : Int)), .val (.pointer (some ⟨a, q * 17, none⟩))] (by kernel_rfl) (by kernel_rfl) (by kernel_rfl) ?_ ?_
      · simp only [Told.fill, Told.Leave.value]
        refine ⟨?_, ?_, ?_, ?_, ?_, ?_, ?_, ?_, ?_, trivial⟩
        · intro gg w' hw hk
          have hh := (hw.cell (p := ⟨bt, 0, none⟩) (block_lt_of_cell hd1)).trans hd1
          go_simp
          exact ⟨rfl, rfl⟩
        · intro gg w' hw hk
          go_simp
          exact ⟨rfl, rfl⟩
        · intro gg w' hw hk
          go_simp
          exact ⟨rfl, rfl⟩
        · intro gg w' hw hk
          have hh := (hw.cell (p := ⟨g, 0, none⟩) (block_lt_of_cell hd2)).trans hd2
          go_simp
          exact ⟨rfl, rfl⟩
        · intro gg w' hw hk
          go_simp
          exact ⟨rfl, rfl⟩
        · intro gg w' hw hk
          go_simp
          exact ⟨rfl, rfl⟩
        · intro gg w' hw hk
          go_simp
          exact ⟨rfl, rfl⟩
        · intro gg w' hw hk
          have hh := (hw.cell (p := ⟨a, k * 17 + 14, none⟩) (block_lt_of_cell n14)).trans n14
          go_simp
          exact ⟨rfl, rfl⟩
        · intro gg w' hw hk
          go_simp
          exact ⟨rfl, rfl⟩
      · intro gg W2 qq hbox hap
        clear hbox hap
        simp only [Told.fill, Told.Leave.value, List.length_cons, List.length_nil, Nat.reduceAdd, Nat.reduceSub]
        refine wpAnyIn_ready (rs := [9]) (by kernel_rfl) (by simp) ?_
        refine AllReadyIn.cons rfl (fun K hK => ?_) AllReadyIn.nil
        go_simp
        refine hK _ _ ?_
        clear hK K
        refine wpAnyIn_done (by kernel_rfl) ?_ _
        have HM2 := Lib.hid (HM1.out.below qq)
        have HG2 := Lib.hid (grown_trans HG1.out (grown_any a qq))
        clear n14 n15 hd1 hd2 hz HM1 HG1 qq
        obtain ⟨-, -, n15, -⟩ := nodes_read HM2.out k hk
        obtain ⟨-, -, m15, -⟩ := nodes_read HM2.out q hqs
        change _ = some (Value.int .i64 (putE e k v1 k)) at n15
        change _ = some (Value.int .i64 (putE e k v1 q)) at m15
        rw [putE_same] at n15
        rw [putE_other e v1 (show q ≠ k by omega)] at m15
        gi_upto_region 7 with fail
        refine wpIn_region_told [.val (.pointer (some ⟨a, q * 17, none⟩)), .val (.pointer (some ⟨a, q * 17, none⟩)), .val (.pointer (some ⟨a, q * 17, none⟩)), .val (.pointer (some ⟨a, q * 17 + 15, none⟩)), .val (.int .i64 (e q)), .val (.pointer (some ⟨a, k * 17, none⟩)), .val (.pointer (some ⟨a, k * 17, none⟩)), .val (.pointer (some ⟨a, k * 17 + 15, none⟩)), .val (.int .i64 v1), .val (.int .i64 (if e q < v1 then v1 else e q))] (by kernel_rfl) (by kernel_rfl) (by kernel_rfl) ?_ ?_
        · simp only [Told.fill, Told.Leave.value]
          refine ⟨?_, ?_, ?_, ?_, ?_, ?_, ?_, ?_, ?_, ?_, trivial⟩
          · intro gg w' hw hk
            go_simp
            exact ⟨rfl, rfl⟩
          · intro gg w' hw hk
            go_simp
            exact ⟨rfl, rfl⟩
          · intro gg w' hw hk
            go_simp
            exact ⟨rfl, rfl⟩
          · intro gg w' hw hk
            go_simp
            exact ⟨rfl, rfl⟩
          · intro gg w' hw hk
            have hh := (hw.cell (p := ⟨a, q * 17 + 15, none⟩) (block_lt_of_cell m15)).trans m15
            go_simp
            exact ⟨rfl, rfl⟩
          · intro gg w' hw hk
            go_simp
            exact ⟨rfl, rfl⟩
          · intro gg w' hw hk
            go_simp
            exact ⟨rfl, rfl⟩
          · intro gg w' hw hk
            go_simp
            exact ⟨rfl, rfl⟩
          · intro gg w' hw hk
            have hh := (hw.cell (p := ⟨a, k * 17 + 15, none⟩) (block_lt_of_cell n15)).trans n15
            go_simp
            exact ⟨rfl, rfl⟩
          · intro gg w' hw hk
            go_simp
            first | exact ⟨rfl, rfl⟩ | (rw [show (if e q < v1 then v1 else e q) = max (e q) v1 from by split <;> omega]; exact ⟨rfl, rfl⟩)
        · intro gg W3 qq hbox hap
          clear hbox hap
          simp only [Told.fill, Told.Leave.value, List.length_cons, List.length_nil, Nat.reduceAdd, Nat.reduceSub]
          have hv0 : (if e q < v1 then v1 else e q) = max (e q) v1 := by split <;> omega
          try rw [hv0]
          obtain ⟨v2, hv2⟩ : ∃ v2, max (e q) v1 = v2 := ⟨_, rfl⟩
          rw [hv2]
          have HV2 : Hid (v2 = max (e q) v1) := Lib.hid hv2.symm
          clear hv0
          have hm3 := HM2.out.below qq
          have hg3 := grown_trans HG2.out (grown_any a qq)
          obtain ⟨-, -, p15, -⟩ := nodes_read hm3 q hqs
          have hz := hm3.frozen
          have hp := ends_put hm3 q hqs v2
          have HP := Lib.hid hp
          have HG3 := Lib.hid hg3
          clear hp hg3 hm3 n15 m15 HM2 HG2 qq hv2
          refine wpAnyIn_ready (rs := [10]) (by kernel_rfl) (by simp) ?_
          refine AllReadyIn.cons rfl (fun K hK => ?_) AllReadyIn.nil
          go_simp
          refine hK _ _ ?_
          clear hK K
          refine wpAnyIn_ready (rs := [11]) (by kernel_rfl) (by simp) ?_
          refine AllReadyIn.cons rfl (fun K hK => ?_) AllReadyIn.nil
          go_simp
          refine hK _ _ ?_
          clear hK K
          refine wpAnyIn_ready (rs := [12]) (by kernel_rfl) (by simp) ?_
          refine AllReadyIn.cons rfl (fun K hK => ?_) AllReadyIn.nil
          go_simp
          refine hK _ _ ?_
          clear hK K
          refine wpAnyIn_done (by kernel_rfl) ?_ _
          refine round_end HS.out (grown_trans HG3.out HP.out.2) _ HP.out.1 (fun hb => ?_) hbta hga hbla (by omega) ha1 hB
          obtain ⟨hb1, hb2⟩ := hb.prev hlt
          have hb3 : k = n - (pre.length + 1) := hb2
          have hi := HI.out hb1
          rw [show n - pre.length = k + 1 by omega] at hi
          rw [List.length_append, List.length_cons, List.length_nil, ← hb3, HV2.out, HV.out]
          exact told_next HSH.out hk0 hk q HQ.out hi
  case done =>
    rintro D ys W hD hys ⟨t, b, l, ⟨e, hm, hi⟩, hw⟩ hK
    obtain ⟨h1, h2⟩ := Back.all hys
    have he := hi h1
    rw [h2, Nat.sub_self] at he
    have hnodes := HTA.out e he
    rw [hnodes] at hm
    gi_wp2
    refine ⟨by simp, .inl ⟨_, _, rfl, run_takeDeferred hK, ?_⟩⟩
    have hlen : (nodesOf bs).length = n := by rw [nodesOf_len]; exact HN.out
    refine ⟨_, results_none rfl _ _ _, ⟨_, rfl⟩, ⟨?_, ?_⟩, ?_⟩
    · rw [hlen]
      exact b.kept (grownBy_putObj' W D _) (fun e => by injection e with e; omega)
    · rw [hlen]
      refine hm.kept (grownBy_putObj' W D _) (fun k hk e => ?_)
      injection hk with hk
      injection e with e
      have hk' : a = k := hk
      omega
    · exact hw.trans (belowK_b (w := w) hB W D _ _ (by omega) hK rfl rfl)
  case stop =>
    rintro D c pre W _ _ h _
    exact h.elim

end Go.Proofs.YtfomhdhiibcdfaaGreat.Tree

/-! Laws at operations within a fence: a struct that is stored whole, a number that is appended. -/
namespace Go.Proofs.YtfomhdhiibcdfaaGreat.More
open Go.RowKit

theorem wpListIn_store_row {F : Fence} {n : Nat} {P : Program} (w : World) {ops : Array Oper} {rest : List Oper} {o : Oper} {a : Act} {Q : Exit → Act → World → Prop} (hgd : o.guard = none) (ty : TypeId) (x y : Operand) (ho : o.op = .store ty x y)
    (g : Nat) (cells : Array Value) (hx : a.eval x = .pointer (some ⟨g, 0, none⟩)) (hy : a.eval y = .agg cells)
    (t : TypeId) (old : Array Value) (hg : w.heap[g]? = some (.cells old t (0, 0))) (hi : (P.info? ty).map (·.size) = some cells.size)
    (hold : old.size = cells.size) (h1 : cells.all (·.oneCell') = true)
    (h : wpListIn F n P ops Q rest (a.put o.dst undef) (w.setRow g cells)) : wpListIn F n P ops Q (o :: rest) a w := by
  refine wpListIn_plain hgd fun _ hK => ?_
  unfold Oper.wpIn
  refine ⟨by simp [Oper.about, ho], ?_⟩
  rw [Oper.semAt_plain F _ _ (by rw [ho]; intro c hc'; cases hc')]
  simp only [execOp, ho, hx, hy, Instr.storeAt, Instr.sureAddr, Sem.run_bind, Sem.run_pure, Result.andThen_ok, run_storeVar_row w g t ty old cells hg hi hold h1]
  exact hK _ _ h

theorem wpListIn_append_mine {F : Fence} {nF : Nat} (w : World) {ops : Array Oper} {rest : List Oper} {o : Oper} {a : Act} {Q : Exit → Act → World → Prop} (hgd : o.guard = none) (s x : Operand)
    (ho : o.op = .call { callee := .builtin .append, args := #[s, x], argTypes := #[24, 24] })
    (B : Nat) (A : Option Addr) (n c : Nat) (xs : List Int) (hs : a.eval s = .slice A n c) (hown : Mine w B A n c xs) (A2 : Option Addr) (m c2 : Nat) (ys : List Int) (hx : a.eval x = .slice A2 m c2) (hsrc : Src w A2 m c2 ys)
    (hlen : n + m ≤ 1000000) (hB : B ≤ w.heap.size)
    (h : ∀ A' c' w', Appended w B A n xs ys m A' c' w' → wpListIn F nF Tryz.prog ops Q rest (a.put o.dst (.slice A' (n + m) c')) w') : wpListIn F nF Tryz.prog ops Q (o :: rest) a w := by
  refine wpListIn_plain hgd fun _ hK => ?_
  obtain ⟨A', c', w', hr, h2⟩ := run_append_mine o.type w B A n c xs hown A2 m c2 ys hsrc hlen hB
  unfold Oper.wpIn
  refine ⟨by simp [Oper.about, ho, resolve, Target.leads, Sem.run_pure], ?_⟩
  rw [Oper.semAt_plain F _ _ (by rw [ho]; intro c hc'; cases hc')]
  simp only [execOp, ho, resolve, invoke, builtin, Sem.run_bind, Sem.run_pure, Result.andThen_ok, List.map_toArray, List.map_cons, List.map_nil, hs, hx, hr]
  exact hK _ _ (h A' c' w' h2)

/-- A number appended to a slice that a captured variable holds: what the append, and the store, leave. -/
theorem boxed_more {W W1 : World} {B bt : Nat} {t : TypeId} {A : Option Addr} {l c : Nat} {xs : List Int} {k : Int} {A1 : Option Addr} {c1 : Nat} (hte : t ≠ 3) (hv : Boxed W bt t (.slice A l c)) (hrow : Mine W B A l c xs) (hn : B ≤ W.heap.size) (hB : B ≤ bt)
    (h : Appended (W.alloc (.cells #[.int .i64 k] 3)) B A l xs [k] 1 A1 c1 W1) :
    Boxed W1 bt t (.slice A l c) ∧ Boxed (W1.setCell ⟨bt, 0, none⟩ (.slice A1 (l + 1) c1)) bt t (.slice A1 (l + 1) c1) ∧ Mine (W1.setCell ⟨bt, 0, none⟩ (.slice A1 (l + 1) c1)) B A1 (l + 1) c1 (xs ++ [k]) ∧ KeepsOthers W (W1.setCell ⟨bt, 0, none⟩ (.slice A1 (l + 1) c1)) ∧ Below B W (W1.setCell ⟨bt, 0, none⟩ (.slice A1 (l + 1) c1)) ∧
      ∀ (T : TypeId) (D s : Nat) (v : Value) (m : Nat) (ys : List Value), T ≠ 3 → T ≠ t → W.ownsRow D T s v m ys → (W1.setCell ⟨bt, 0, none⟩ (.slice A1 (l + 1) c1)).ownsRow D T s v m ys := by
  obtain ⟨h1, h2, -⟩ := h
  rw [← ownBlock_blk A l c] at h2
  obtain ⟨r1, r2, r3, r4, r5⟩ := hv.appended hte hrow hn hB h1 h2
  refine ⟨r1, r2, r3, r4, r5, fun T D s v m ys hT hT2 hr => ?_⟩
  have e1 : (W.alloc (.cells #[.int .i64 k] 3)).ownsRow D T s v m ys := World.ownsRow.alloc hr _
  have hm : (W.alloc (.cells #[.int .i64 k] 3)).ownsRow B 3 1 (.slice A l c) l (xs.map (Value.int .i64)) := World.ownsRow.alloc hrow _
  have e2 : W1.ownsRow D T s v m ys := e1.kept h2 (by
    rcases e1.2 with ⟨rfl, _⟩ | ⟨g, cap, cur, rfl, _, hg, _⟩
    · exact .inl rfl
    · refine .inr fun e => ?_
      rcases hm.2 with ⟨e3, _⟩ | ⟨g', cap', cur', e3, _, hg', _⟩
      · rw [e3] at e; cases e
      · rw [e3] at e
        have : g = g' := by injection e
        subst this
        rw [hg] at hg'
        injection hg' with hg'
        injection hg' with _ e4 _
        exact hT e4)
  exact e2.kept (grownBy_setCell' W1 bt _) (by
    rcases e2.2 with ⟨rfl, _⟩ | ⟨g, cap, cur, rfl, _, hg, _⟩
    · exact .inl rfl
    · refine .inr fun e => ?_
      have : g = bt := by injection e
      subst this
      have hg2 : W1.heap[g]? = some (.cells #[.slice A l c] t (0, 0)) := r1
      rw [hg] at hg2
      injection hg2 with hg2
      injection hg2 with _ e4 _
      exact hT2 e4)

end Go.Proofs.YtfomhdhiibcdfaaGreat.More

/-! The contract of Contexts: a range over slices.Backward, whose body appends to a captured list. -/
namespace Go.Proofs.YtfomhdhiibcdfaaGreat.Tree
open Go.RowKit Go.Shelf Go.Sort Go.Proofs.YtfomhdhiibcdfaaGreat.Record Go.Proofs.YtfomhdhiibcdfaaGreat.Script Go.Proofs.YtfomhdhiibcdfaaGreat.More

attribute [local go_sem] Oper.semAt_some

/-- The contexts among the places that have come. -/
def opensBack (bs : List Bx) {n : Nat} (pre : List (Pl n)) : List Int := ((pre.map Pl.ix).filter (oOf bs)).map Int.ofNat

theorem opensBack_yes (bs : List Bx) {n : Nat} (pre : List (Pl n)) (x : Pl n) (h : oOf bs x.1.1 = true) : opensBack bs (pre ++ [x]) = opensBack bs pre ++ [(x.1.1 : Int)] := by
  simp [opensBack, List.filter_append, Pl.ix, h]

theorem opensBack_no (bs : List Bx) {n : Nat} (pre : List (Pl n)) (x : Pl n) (h : oOf bs x.1.1 = false) : opensBack bs (pre ++ [x]) = opensBack bs pre := by
  simp [opensBack, List.filter_append, Pl.ix, h]

theorem opensBack_len (bs : List Bx) {n : Nat} (pre : List (Pl n)) : (opensBack bs pre).length ≤ pre.length := by
  unfold opensBack
  rw [List.length_map]
  have := List.length_filter_le (oOf bs) (pre.map Pl.ix)
  rwa [List.length_map] at this

theorem opensBack_all (bs : List Bx) {ys : List (Pl bs.length)} (h : ys.map Pl.ix = (List.range' 0 bs.length).reverse) : opensBack bs ys = opensT bs := by
  unfold opensBack opensT
  rw [h, ← List.range_eq_range', List.filter_reverse, List.map_reverse]

section
variable (bs : List Bx) (n a c bt bl : Nat) (w0 : World)

/-- What a round keeps, and what it has told. -/
structure StO (pre : List (Pl n)) (W : World) : Prop where
  l : Boxed W bl 97 (.slice (some ⟨a, 0, none⟩) n c)
  m : MineN W 0 (some ⟨a, 0, none⟩) n c (nodesOf bs)
  v : ∃ A' c', Boxed W bt 24 (.slice A' (opensBack bs pre).length c') ∧ Mine W w0.heap.size A' (opensBack bs pre).length c' (opensBack bs pre)
  w : Below w0.heap.size w0 W

def KpO (W W' : World) : Prop := W'.cell? ⟨bl, 0, none⟩ = W.cell? ⟨bl, 0, none⟩ ∧ (MineN W 0 (some ⟨a, 0, none⟩) n c (nodesOf bs) → MineN W' 0 (some ⟨a, 0, none⟩) n c (nodesOf bs))

theorem row_not_other {W : World} {B T s : Nat} {v : Value} {m : Nat} {ys : List Value} {row : Option Nat} (h : W.ownsRow B T s v m ys) (hr : ∀ r, row = some r → ∃ o : Obj, W.heap[r]? = some o ∧ o.isCells = false) : v.ownBlock = none ∨ v.ownBlock ≠ row := by
  rcases h.2 with ⟨rfl, _⟩ | ⟨g, cap, cur, rfl, _, hg, _⟩
  · exact .inl rfl
  · refine .inr fun e => ?_
    obtain ⟨o, ho, hc⟩ := hr g e.symm
    rw [hg] at ho
    cases ho
    cases hc

theorem stO_own {N : Nat} (h5 : w0.heap.size ≤ N) : OwnFrom N (StO bs n a c bt bl w0) := by
  rintro pre W W' row ⟨l, m, ⟨A', c', hv, hm⟩, hw⟩ hg hr
  have hr' := fun r e => (hr r e).2
  have nb : ∀ {B t v}, Boxed W B t v → some B ≠ row := fun {B t v} h e => by
    obtain ⟨o, ho, hc⟩ := hr' B e.symm
    rw [show W.heap[B]? = _ from h] at ho; cases ho; cases hc
  exact ⟨l.kept hg (nb l), World.ownsRow.kept m hg (row_not_other m hr'), ⟨A', c', hv.kept hg (nb hv), World.ownsRow.kept hm hg (row_not_other hm hr')⟩, hw.grown hg hw.size (fun k hk => by have := (hr k hk).1; omega)⟩

end

theorem kpO_trans {bs : List Bx} {n a c bl : Nat} {X Y Z : World} (h : KpO bs n a c bl X Y) (k : KpO bs n a c bl Y Z) : KpO bs n a c bl X Z := ⟨k.1.trans h.1, fun m => k.2 (h.2 m)⟩
theorem kpO_refl {bs : List Bx} {n a c bl : Nat} (W : World) : KpO bs n a c bl W W := ⟨rfl, fun m => m⟩

theorem kpO_put {bs : List Bx} {n a c bl N : Nat} (h1 : bl < N) (h2 : a < N) (W : World) (l : Nat) (o o' : Obj) (hl : N ≤ l) (_ : W.heap[l]? = some o) (_ : o.isCells = false) (_ : o.isWalk = false) : KpO bs n a c bl W (W.putObj l o') := by
  refine ⟨?_, fun he => he.kept (grownBy_putObj' W l o') (fun k hk e => ?_)⟩
  · have : (W.putObj l o').heap[bl]? = W.heap[bl]? := World.putObj_heap_other (by omega)
    simp [World.cell?, this]
  · injection hk with hk
    injection e with e
    have hk' : a = k := hk
    omega

def ndO (bs : List Bx) (k : Nat) : Nd := ⟨bs.getD k noB, par (dOf bs) k, endsOf bs k, (ctx (dOf bs) (oOf bs) k : Int)⟩

theorem nodesOf_read {bs : List Bx} {n a c : Nat} (hn : bs.length = n) {W : World} (h : MineN W 0 (some ⟨a, 0, none⟩) n c (nodesOf bs)) (k : Nat) (hk : k < n) : AtN W ⟨a, k * 17, none⟩ (ndO bs k) := by
  subst hn
  exact nodes_read h k hk

/-- In a round: the second variable's own block. -/
def VarO (bs : List Bx) {n : Nat} (f : Nat → Act) (x : Pl n) (a' : Act) (W : World) : Prop :=
  ∃ b5, a' = f b5 ∧ W.heap[b5]? = some (.cells (cellsOfN (ndO bs x.1.1)).toArray 114)

theorem stO_below {bs : List Bx} {n a c bt bl N : Nat} {w0 : World} {pre : List (Pl n)} {W W' : World} (h : StO bs n a c bt bl w0 pre W) (k : Below W.heap.size W W') : KeepsFrom N W W' ∧ KpO bs n a c bl W W' ∧ StO bs n a c bt bl w0 pre W' := by
  have hg := grown_of_below k
  obtain ⟨A', c', hv, hm⟩ := h.v
  exact ⟨⟨k.size, fun i o _ hi _ => (k.block i (Array.getElem?_eq_some_iff.1 hi).1).trans hi⟩, ⟨by rw [(h.l.kept hg (by simp)).cell, h.l.cell], fun m => m.below k⟩, h.l.kept hg (by simp), h.m.below k, ⟨A', c', hv.kept hg (by simp), hm.below k⟩, thru h.w k⟩

theorem varO_own (bs : List Bx) {n : Nat} (f : Nat → Act) (x : Pl n) (a' : Act) (N : Nat) : OwnFrom N (fun (_ : Unit) W => VarO bs f x a' W) := by
  rintro _ W W' row ⟨b5, e, hb⟩ hg hr
  refine ⟨b5, e, (hg.block b5 (Array.getElem?_eq_some_iff.1 hb).1 (fun e => ?_)).trans hb⟩
  obtain ⟨o, ho, hc⟩ := (hr b5 e.symm).2
  rw [hb] at ho; cases ho; cases hc

end Go.Proofs.YtfomhdhiibcdfaaGreat.Tree
