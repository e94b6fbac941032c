/- Counting in a map: what it reads as; a loop that counts the kinds of boxes. -/
import Derived.Test.YtleikbpikmineaaScriptOfs
import Derived.Maps.OwnOps
import Derived.Maps.RangeWalk
import Derived.Maps.Views
import Derived.Deep.DeepCutAuto
namespace Go.Proofs.Ytleikbpikmineaa.Script
open Go.RowKit Go.Sort Go.Proofs.Ytleikbpikmineaa.Record

/-- How many boxes of a list have a kind. -/
def manyOf (x : Int) (bs : List Bx) : Nat := bs.countP (fun b => b.k == x)

theorem many_snoc (x : Int) (bs : List Bx) (y : Bx) : manyOf x (bs ++ [y]) = manyOf x bs + (if y.k = x then 1 else 0) := by
  unfold manyOf
  rw [List.countP_append]
  by_cases h : y.k = x <;> simp [h]

theorem many_le (x : Int) (bs : List Bx) : manyOf x bs ≤ bs.length := List.countP_le_length

theorem many_append (x : Int) (cs bs : List Bx) : manyOf x (cs ++ bs) = manyOf x cs + manyOf x bs := List.countP_append

/-- How many kinds the boxes of a list have. -/
def kindsN : List Bx → Nat
  | [] => 0
  | b :: bs => kindsN bs + (if manyOf b.k bs = 0 then 1 else 0)

theorem many_cons (x : Int) (b : Bx) (bs : List Bx) : manyOf x (b :: bs) = manyOf x bs + (if b.k = x then 1 else 0) := by
  unfold manyOf
  rw [List.countP_cons]
  by_cases h : b.k = x <;> simp [h]

theorem kinds_snoc (y : Bx) : ∀ bs : List Bx, kindsN (bs ++ [y]) = kindsN bs + (if manyOf y.k bs = 0 then 1 else 0)
  | [] => rfl
  | b :: bs => by
    rw [List.cons_append, kindsN, kindsN, kinds_snoc y bs, many_snoc, many_cons]
    by_cases e : y.k = b.k
    · rw [e]
    · have e' : ¬ b.k = y.k := fun h => e h.symm
      simp only [e, e', if_false, Nat.add_zero]
      omega

theorem kinds_left : ∀ (bs cs : List Bx), kindsN cs ≤ kindsN (cs ++ bs)
  | [], cs => by simp
  | y :: bs, cs => by
    have h := kinds_left bs (cs ++ [y])
    rw [kinds_snoc] at h
    rw [show cs ++ y :: bs = (cs ++ [y]) ++ bs by simp]
    omega

theorem kinds_right (bs : List Bx) : ∀ cs : List Bx, kindsN bs ≤ kindsN (cs ++ bs)
  | [] => Nat.le_refl _
  | a :: cs => by
    have h := kinds_right bs cs
    rw [List.cons_append, kindsN]
    omega

/-- A map that holds, for each kind, how many boxes have it, and no other keys. -/
def CountD (D : DataW Unit) (bs : List Bx) : Prop :=
  Maps.Tidy D ∧ (∀ x, (Lit.int .i64 x).wf = true → ∀ z, D.atKey (.int .i64 x) z = if manyOf x bs = 0 then z else .lit (.int .i64 (manyOf x bs))) ∧ Maps.size D = kindsN bs

theorem countD_nil : CountD (.map []) [] := ⟨Maps.tidy_empty, fun _ _ _ => rfl, rfl⟩

theorem key_lit (x : Int) : WideAt.IsKeyLit (.int .i64 x) := trivial

theorem countD_has {D : DataW Unit} {bs : List Bx} (h : CountD D bs) {x : Int} (hx : (Lit.int .i64 x).wf = true) : Maps.has D (.int .i64 x) = !(manyOf x bs == 0) := by
  by_cases hm : manyOf x bs = 0
  · rw [Maps.has_false_of_atKey fun z => by rw [h.2.1 _ hx, if_pos hm]]
    simp [hm]
  · rw [Maps.has_true_of_atKey (y := .lit (.int .i64 (manyOf x bs))) fun z => by rw [h.2.1 _ hx, if_neg hm]]
    simp [hm]

theorem countD_put {D : DataW Unit} {bs : List Bx} (h : CountD D bs) (y : Bx) (hy : (Lit.int .i64 y.k).wf = true) (c : Int) (hc : D.atKey (.int .i64 y.k) (.lit (.int .i64 0)) = .lit (.int .i64 c)) :
    c = manyOf y.k bs ∧ CountD (D.put (.int .i64 y.k) (.lit (.int .i64 (c + 1)))) (bs ++ [y]) := by
  have hcc : c = manyOf y.k bs := by
    rw [h.2.1 _ hy] at hc
    split at hc
    · rename_i h0
      rw [h0]
      injection hc with hc; injection hc with _ hc
      simp [← hc]
    · injection hc with hc; injection hc with _ hc
      exact hc.symm
  refine ⟨hcc, h.1.put (key_lit y.k) _, fun x hx z => ?_, ?_⟩
  · by_cases e : x = y.k
    · subst e
      rw [Maps.atKey_put_same h.1.isMap (key_lit y.k), many_snoc, if_pos rfl, if_neg (by omega), hcc]
      simp
    · have hm : manyOf x (bs ++ [y]) = manyOf x bs := by rw [many_snoc, if_neg (fun he => e he.symm)]; rfl
      rw [Maps.atKey_put_other (by intro he; injection he with _ he; exact e he), h.2.1 _ hx, hm]
  · rw [Maps.size_put h.1, countD_has h hy, kinds_snoc, h.2.2]
    by_cases hm : manyOf y.k bs = 0 <;> simp [hm]

theorem keyed : Maps.Keyed Try.prog 3 := Maps.int_keyed Try.underlying3

end Go.Proofs.Ytleikbpikmineaa.Script
