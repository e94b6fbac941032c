/- How ends come about, from the last box on. No program is in it. -/
import Derived.Test.YtnmfgcdenngpfaaTreeKids
import Derived.Test.YtnmfgcdenngpfaaTreeMath
namespace Go.Proofs.Ytnmfgcdenngpfaa.Tree
open Go.RowKit Go.Proofs.Ytnmfgcdenngpfaa.Record Go.Proofs.Ytnmfgcdenngpfaa.Script Go.Proofs.Ytnmfgcdenngpfaa.More

/-- One value turned. -/
def putE (e : Nat → Int) (k : Nat) (v : Int) : Nat → Int := fun j => if j = k then v else e j

theorem putE_same (e : Nat → Int) (k : Nat) (v : Int) : putE e k v k = v := by simp [putE]
theorem putE_other (e : Nat → Int) {k j : Nat} (v : Int) (h : j ≠ k) : putE e k v j = e j := by simp [putE, h]

theorem nodesE_put (bs : List Bx) (e : Nat → Int) (n k : Nat) (v : Int) : (nodesE bs e n).set k ⟨bs.getD k noB, par (dOf bs) k, v, (ctx (dOf bs) (oOf bs) k : Int)⟩ = nodesE bs (putE e k v) n := by
  refine List.ext_getElem (by simp [nodesE]) fun i h1 h2 => ?_
  rw [List.getElem_set]
  simp only [nodesE, List.getElem_map, List.getElem_range]
  by_cases h : k = i
  · subst h; rw [if_pos rfl, putE_same]
  · rw [if_neg h, putE_other e v (fun x => h x.symm)]

/-- The boxes from k on have told their ends. -/
def EndsTo (d : Nat → Int) (n k : Nat) (e : Nat → Int) : Prop :=
  (∀ j, k ≤ j → j < n → e j = (en d n j : Int)) ∧
  ∀ j, j < k → (e j = 0 ∨ ∃ c, k ≤ c ∧ c < n ∧ par d c = (j : Int) ∧ e j = (en d n c : Int)) ∧ ∀ c, k ≤ c → c < n → par d c = (j : Int) → (en d n c : Int) ≤ e j

theorem told_start (d : Nat → Int) (n : Nat) : EndsTo d n n (fun _ => 0) :=
  ⟨fun j h1 h2 => by omega, fun j _ => ⟨.inl rfl, fun c h1 h2 _ => by omega⟩⟩

/-- What a box has been told, or the place behind it, is where it ends. -/
theorem told_self {d : Nat → Int} {n k : Nat} {e : Nat → Int} (hs : Shape d n) (hk : k < n) (h : EndsTo d n (k + 1) e) : max (e k) ((k : Int) + 1) = (en d n k : Int) := by
  obtain ⟨h1, h2⟩ := h.2 k (by omega)
  obtain ⟨e1, -, -, -⟩ := en_spec d n k hk
  by_cases hq : kids d n k = []
  · have h3 := hs.kids_nil k hk hq
    rcases h1 with h1 | ⟨c, c1, c2, c3, c4⟩
    · omega
    · have := (hs.kid_iff k c hk c2).2 c3
      rw [hq] at this
      simp at this
  · have hl : 0 < (kids d n k).length := List.length_pos_iff.2 hq
    obtain ⟨c, hc⟩ : ∃ c, (kids d n k)[(kids d n k).length - 1]? = some c := ⟨_, List.getElem?_eq_getElem (by omega)⟩
    obtain ⟨g1, g2⟩ := Shape.kids_last hs k c hk hc
    have hm := List.mem_of_getElem? hc
    have hp := (hs.kid_iff k c hk g1).1 hm
    have hcb := ((mem_kids d n k c).1 hm)
    have h4 := h2 c (by omega) g1 hp
    rw [g2] at h4
    have h5 : e k ≤ (en d n k : Int) := by
      rcases h1 with h1 | ⟨c', c1, c2, c3, c4⟩
      · omega
      · have hm' := (hs.kid_iff k c' hk c2).2 c3
        have hb' := (mem_kids d n k c').1 hm'
        have := en_nest d n k c' hk hb'.2.1 hb'.1
        omega
    omega

/-- The first box. -/
theorem told_first {d : Nat → Int} {n : Nat} {e : Nat → Int} (hs : Shape d n) (h : EndsTo d n 1 e) : EndsTo d n 0 (putE e 0 (max (e 0) 1)) := by
  have h0 := told_self hs hs.pos h
  refine ⟨fun j _ hj => ?_, fun j hj => by omega⟩
  by_cases e0 : j = 0
  · subst e0; rw [putE_same]; simpa using h0
  · rw [putE_other e _ e0]; exact h.1 j (by omega) hj

theorem told_next {d : Nat → Int} {n k : Nat} {e : Nat → Int} (hs : Shape d n) (h0 : 0 < k) (hk : k < n) (p : Nat) (hp : par d k = (p : Int)) (h : EndsTo d n (k + 1) e) :
    EndsTo d n k (putE (putE e k (max (e k) ((k : Int) + 1))) p (max (e p) (max (e k) ((k : Int) + 1)))) := by
  have hv := told_self hs hk h
  have hb := par_bounds d k
  have hpk : p < k := by omega
  rw [hv]
  refine ⟨fun j h1 h2 => ?_, fun j hj => ?_⟩
  · rw [putE_other _ _ (by omega)]
    by_cases e1 : j = k
    · subst e1; rw [putE_same]
    · rw [putE_other _ _ e1]; exact h.1 j (by omega) h2
  · obtain ⟨g1, g2⟩ := h.2 j (by omega)
    by_cases e1 : j = p
    · subst e1
      rw [putE_same]
      refine ⟨?_, fun c c1 c2 c3 => ?_⟩
      · by_cases hm : (en d n k : Int) ≤ e j
        · rw [Int.max_eq_left hm]
          rcases g1 with g1 | ⟨c, c1, c2, c3, c4⟩
          · exact .inl g1
          · exact .inr ⟨c, by omega, c2, c3, c4⟩
        · rw [Int.max_eq_right (by omega)]
          exact .inr ⟨k, Nat.le_refl _, hk, hp, rfl⟩
      · by_cases e2 : c = k
        · subst e2; omega
        · have := g2 c (by omega) c2 c3; omega
    · rw [putE_other _ _ e1, putE_other _ _ (by omega)]
      refine ⟨?_, fun c c1 c2 c3 => ?_⟩
      · rcases g1 with g1 | ⟨c, c1, c2, c3, c4⟩
        · exact .inl g1
        · exact .inr ⟨c, by omega, c2, c3, c4⟩
      · by_cases e2 : c = k
        · subst e2; rw [hp] at c3; omega
        · exact g2 c (by omega) c2 c3

theorem told_all {bs : List Bx} {e : Nat → Int} (h : EndsTo (dOf bs) bs.length 0 e) : nodesE bs e bs.length = nodesOf bs := by
  unfold nodesOf nodesE
  refine List.map_congr_left fun i hi => ?_
  rw [h.1 i (by omega) (List.mem_range.1 hi)]
  rfl

end Go.Proofs.Ytnmfgcdenngpfaa.Tree
