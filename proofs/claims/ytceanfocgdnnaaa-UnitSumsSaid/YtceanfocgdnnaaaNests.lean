/- A Try within a Try. -/
import Derived.Test.YtceanfocgdnnaaaTry
import Derived.ProofKit
namespace Go.Proofs.Ytceanfocgdnnaaa
open Go.RowKit

/-- Below block B all is as it was, and nothing else is frozen than was. -/
def Kp (B : Nat) (w w' : World) : Prop := Below B w w' ∧ ∀ a, w'.frozen? a = w.frozen? a

theorem ne_addr {a b : Nat} (h : a ≠ b) : (⟨a, 0, none⟩ : Addr) ≠ ⟨b, 0, none⟩ := fun e => h (by injection e)

theorem Kp.refl (B : Nat) (w : World) : Kp B w w := ⟨Below.refl _ _, fun _ => rfl⟩
theorem Kp.trans {B : Nat} {a b c : World} (h : Kp B a b) (k : Kp B b c) : Kp B a c := ⟨h.1.trans k.1, fun x => (k.2 x).trans (h.2 x)⟩
theorem Kp.mono {B C : Nat} {a b : World} (h : Kp B a b) (hc : C ≤ B) : Kp C a b := ⟨h.1.mono hc, h.2⟩
theorem Kp.alloc {B : Nat} {a w : World} (h : Kp B a w) (hB : B ≤ w.heap.size) (c : Array Value) (t : TypeId) : Kp B a (w.alloc (.cells c t)) :=
  ⟨h.1.alloc hB _, fun x => (frozen?_alloc_cells _ _ _ x).trans (h.2 x)⟩
theorem Kp.setCell {B : Nat} {a w : World} (h : Kp B a w) {p : Addr} (hp : B ≤ p.block) (u : Value) : Kp B a (w.setCell p u) :=
  ⟨h.1.setCell hp u, fun x => (World.frozen?_setCell _ _ _ _).trans (h.2 x)⟩
theorem Kp.cell {B : Nat} {w w' : World} (h : Kp B w w') (b o : Nat) (hb : b < B) : w'.cell? ⟨b, o, none⟩ = w.cell? ⟨b, o, none⟩ := h.1.cell hb
theorem Kp.size {B : Nat} {w w' : World} (h : Kp B w w') : w.heap.size ≤ w'.heap.size := h.1.size

set_option maxHeartbeats 400000 in
theorem inner_do (pa pb : Nat) (a b : Int) (w : World) (ha : w.cell? ⟨pa, 0, none⟩ = some (.int .i64 a)) (hb : w.cell? ⟨pb, 0, none⟩ = some (.int .i64 b)) :
    Calls Try.prog 20 #[.pointer (some ⟨pa, 0, none⟩), .pointer (some ⟨pb, 0, none⟩)] w fun e w' =>
      e = (if decide (sumFits a b) then .returned (.tuple #[]) else .panicked [overEntry]) ∧ w = w' := by
  by_cases h : sumFits a b
  · rw [if_pos (by simpa using h)]
    go_enter Try.func20, Try.ntmps20
    go_wp2_with fail
    refine (plus_yes _ _ h _).mono ?_; rintro e w' ⟨rfl, rfl⟩
    go_wp2_with fail
    go_end0
    exact ⟨rfl, rfl⟩
  · rw [if_neg (by simpa using h)]
    go_enter Try.func20, Try.ntmps20
    go_wp2_with fail
    refine (plus_no _ _ h _).mono ?_; rintro e w' ⟨rfl, rfl⟩
    go_wp2_with fail
    exact ⟨rfl, rfl, rfl⟩

theorem enter20 (args : Array Value) (w : World) : (callFunc 20 args).run Try.prog w = .ok (.enter 20 args) w := by
  simp [go_sem]

/-- What an inner Try of a + b answers. -/
def sumErr (a b : Int) : Int := if sumFits a b then 0 else 13

theorem inner_try (pa pb : Nat) (a b : Int) (w : World) (ha : w.cell? ⟨pa, 0, none⟩ = some (.int .i64 a)) (hb : w.cell? ⟨pb, 0, none⟩ = some (.int .i64 b)) :
    Calls Try.prog 15 #[.func (.func 20) #[] #[.pointer (some ⟨pa, 0, none⟩), .pointer (some ⟨pb, 0, none⟩)]] w fun e w' =>
      e = .returned (.int .i64 (sumErr a b)) ∧ Kp w.heap.size w w' := by
  have la := World.block_lt_of_cell? _ _ ha
  have lb := World.block_lt_of_cell? _ _ hb
  have ha' : (w.alloc (.cells #[.int .i64 0] 29)).cell? ⟨pa, 0, none⟩ = some (.int .i64 a) := by rw [World.cell?_alloc_past _ _ _ la]; exact ha
  have hb' : (w.alloc (.cells #[.int .i64 0] 29)).cell? ⟨pb, 0, none⟩ = some (.int .i64 b) := by rw [World.cell?_alloc_past _ _ _ lb]; exact hb
  refine (try_any 20 _ w (fun ok w1 => ok = decide (sumFits a b) ∧ w1 = w.alloc (.cells #[.int .i64 0] 29)) (enter20 _) ((inner_do pa pb a b _ ha' hb').mono ?_)).mono ?_
  · rintro e w1 ⟨rfl, rfl⟩
    exact ⟨decide (sumFits a b), ⟨rfl, rfl⟩, rfl, by simp, by simp [go_sem], by simp⟩
  · rintro e w' ⟨ok, w1, ⟨rfl, rfl⟩, rfl, rfl⟩
    refine ⟨by unfold sumErr; by_cases h : sumFits a b <;> simp [h], ?_⟩
    have k0 : Kp w.heap.size w (w.alloc (.cells #[.int .i64 0] 29)) := (Kp.refl _ _).alloc (Nat.le_refl _) _ _
    split
    · exact k0.setCell (Nat.le_refl _) _
    · exact (k0.setCell (Nat.le_refl _) _).alloc (by simp) _ _

/-- What the outer Try's doing leaves: the inner answer, the outer number, all else as it was. -/
def OuterQ (a b c : Int) (pi po : Nat) (w : World) (ok : Bool) (w' : World) : Prop :=
  ok = decide (sumFits c 0) ∧ Kp pi w w' ∧ w'.cell? ⟨pi, 0, none⟩ = some (.int .i64 (sumErr a b)) ∧
    (ok = true → w'.cell? ⟨po, 0, none⟩ = some (.int .i64 c)) ∧ (∀ q, po < q → q < w.heap.size → w'.cell? ⟨q, 0, none⟩ = w.cell? ⟨q, 0, none⟩) ∧
    (∃ z, w'.cell? ⟨po, 0, none⟩ = some (.int .i64 z))

set_option maxHeartbeats 400000 in
theorem outer_do (pa pb pc pi po : Nat) (a b c x y : Int) (w : World) (ha : w.cell? ⟨pa, 0, none⟩ = some (.int .i64 a)) (hb : w.cell? ⟨pb, 0, none⟩ = some (.int .i64 b))
    (hc : w.cell? ⟨pc, 0, none⟩ = some (.int .i64 c)) (hi : w.cell? ⟨pi, 0, none⟩ = some (.int .i64 x)) (ho : w.cell? ⟨po, 0, none⟩ = some (.int .i64 y))
    (hfi : w.frozen? ⟨pi, 0, none⟩ = false) (hfo : w.frozen? ⟨po, 0, none⟩ = false) (l3 : pc < pi) (l4 : pi < po) :
    Calls Try.prog 19 #[.pointer (some ⟨pa, 0, none⟩), .pointer (some ⟨pb, 0, none⟩), .pointer (some ⟨pi, 0, none⟩), .pointer (some ⟨pc, 0, none⟩), .pointer (some ⟨po, 0, none⟩)] w fun e w' =>
      ∃ ok, e = (if ok then .returned (.tuple #[]) else .panicked [overEntry]) ∧ OuterQ a b c pi po w ok w' := by
  have hmf : ∀ (fn : Fn) (first cap : Array Value) (w : World), (Instr.makeFunc fn first cap).run Try.prog w = .ok (.func fn first cap) w := fun _ _ _ _ => rfl
  have lo : po < w.heap.size := World.block_lt_of_cell? _ _ ho
  go_enter Try.func19, Try.ntmps19
  go_wp2_with fail
  refine (inner_try pa pb a b w ha hb).mono ?_
  rintro e w1 ⟨rfl, hk⟩
  have hc1 : w1.cell? ⟨pc, 0, none⟩ = some (.int .i64 c) := by rw [hk.cell _ _ (by omega)]; exact hc
  have hi1 : w1.cell? ⟨pi, 0, none⟩ = some (.int .i64 x) := by rw [hk.cell _ _ (by omega)]; exact hi
  have ho1 : w1.cell? ⟨po, 0, none⟩ = some (.int .i64 y) := by rw [hk.cell _ _ (by omega)]; exact ho
  have hfi1 : w1.frozen? ⟨pi, 0, none⟩ = false := by rw [hk.2]; exact hfi
  have hfo1 : w1.frozen? ⟨po, 0, none⟩ = false := by rw [hk.2]; exact hfo
  have n1 : ¬ pi = pc := by omega
  have n2 : ¬ pi = po := by omega
  have base : Kp pi w w1 := hk.mono (by omega)
  have hcell : ∀ q, po < q → q < w.heap.size → w1.cell? ⟨q, 0, none⟩ = w.cell? ⟨q, 0, none⟩ := fun q _ h2 => hk.cell _ _ h2
  have HK := Lib.hid hk
  have HC := Lib.hid hcell
  clear hk hcell
  by_cases h : sumFits c 0
  · have hp := plus_yes c 0 h (w1.setCell ⟨pi, 0, none⟩ (.int .i64 (sumErr a b)))
    rw [Int.add_zero] at hp
    have HP := Lib.hid hp
    clear hp
    go_wp2_with fail
    refine HP.out.mono ?_; rintro e w' ⟨rfl, rfl⟩
    go_wp2_with fail
    go_end0
    refine ⟨true, rfl, by simp [h], ?_, ?_, fun _ => ?_, ?_, c, ?_⟩
    · exact (base.setCell (Nat.le_refl _) _).setCell (show pi ≤ po by omega) _
    · rw [World.cell?_setCell_other _ _ _ _ (ne_addr (by omega))]
      exact World.cell?_setCell_same _ _ _ hi1
    · exact World.cell?_setCell_same _ _ _ (by rw [World.cell?_setCell_other _ _ _ _ (ne_addr (by omega))]; exact ho1)
    · intro q h1 h2
      rw [World.cell?_setCell_other _ _ _ _ (ne_addr (by omega)), World.cell?_setCell_other _ _ _ _ (ne_addr (by omega))]
      exact HC.out q h1 h2
    · exact World.cell?_setCell_same _ _ _ (by rw [World.cell?_setCell_other _ _ _ _ (ne_addr (by omega))]; exact ho1)
  · go_wp2_with fail
    refine (plus_no _ _ h _).mono ?_; rintro e w' ⟨rfl, rfl⟩
    go_wp2_with fail
    refine ⟨rfl, false, rfl, by simp [h], ?_, ?_, fun h => by simp at h, ?_, y, ?_⟩
    · exact base.setCell (Nat.le_refl _) _
    · exact World.cell?_setCell_same _ _ _ hi1
    · intro q h1 h2
      rw [World.cell?_setCell_other _ _ _ _ (ne_addr (by omega))]
      exact HC.out q h1 h2
    · rw [World.cell?_setCell_other _ _ _ _ (ne_addr (by omega))]; exact ho1

theorem enter19 (args : Array Value) (w : World) : (callFunc 19 args).run Try.prog w = .ok (.enter 19 args) w := by
  simp [go_sem]

theorem outer_try (pa pb pc pi po : Nat) (a b c x y : Int) (w : World) (ha : w.cell? ⟨pa, 0, none⟩ = some (.int .i64 a)) (hb : w.cell? ⟨pb, 0, none⟩ = some (.int .i64 b))
    (hc : w.cell? ⟨pc, 0, none⟩ = some (.int .i64 c)) (hi : w.cell? ⟨pi, 0, none⟩ = some (.int .i64 x)) (ho : w.cell? ⟨po, 0, none⟩ = some (.int .i64 y))
    (hfi : w.frozen? ⟨pi, 0, none⟩ = false) (hfo : w.frozen? ⟨po, 0, none⟩ = false) (l3 : pc < pi) (l4 : pi < po) :
    Calls Try.prog 15 #[.func (.func 19) #[] #[.pointer (some ⟨pa, 0, none⟩), .pointer (some ⟨pb, 0, none⟩), .pointer (some ⟨pi, 0, none⟩), .pointer (some ⟨pc, 0, none⟩), .pointer (some ⟨po, 0, none⟩)]] w fun e w' =>
      e = .returned (.int .i64 (sumErr c 0)) ∧ Kp pi w w' ∧ w'.cell? ⟨pi, 0, none⟩ = some (.int .i64 (sumErr a b)) ∧
        (∃ z, w'.cell? ⟨po, 0, none⟩ = some (.int .i64 z) ∧ (sumFits c 0 → z = c)) := by
  have lo := World.block_lt_of_cell? _ _ ho
  have past : ∀ q, q < w.heap.size → (w.alloc (.cells #[.int .i64 0] 29)).cell? ⟨q, 0, none⟩ = w.cell? ⟨q, 0, none⟩ := fun q h => World.cell?_alloc_past _ _ _ h
  have fz : ∀ q, q < w.heap.size → (w.alloc (.cells #[.int .i64 0] 29)).frozen? ⟨q, 0, none⟩ = w.frozen? ⟨q, 0, none⟩ := fun q h => World.frozen?_alloc_past _ _ _ h
  simp only at lo
  refine (try_any 19 _ w (OuterQ a b c pi po (w.alloc (.cells #[.int .i64 0] 29))) (enter19 _)
    ((outer_do pa pb pc pi po a b c x y _ (by rw [past _ (World.block_lt_of_cell? _ _ ha)]; exact ha) (by rw [past _ (World.block_lt_of_cell? _ _ hb)]; exact hb) (by rw [past _ (by omega)]; exact hc)
      (by rw [past _ (by omega)]; exact hi) (by rw [past _ (by omega)]; exact ho) (by rw [fz _ (by omega)]; exact hfi) (by rw [fz _ (by omega)]; exact hfo) l3 l4).mono ?_)).mono ?_
  · rintro e w1 ⟨ok, rfl, hq⟩
    obtain ⟨h1, h2, h3, h4, h5, h6⟩ := id hq
    refine ⟨ok, hq, rfl, ?_, ?_, ?_⟩
    · have := h2.size; simp at this; omega
    · rw [h5 _ lo (by simp)]; simp [go_sem]
    · rw [h2.2]; simp
  · rintro e w' ⟨ok, w1, ⟨rfl, h2, h3, h4, h5, z, h6⟩, rfl, rfl⟩
    have k0 : Kp pi w w1 := ((Kp.refl _ _).alloc (by omega) _ _).trans h2
    have hs := h2.size
    simp at hs
    have hz : sumFits c 0 → z = c := by
      intro h
      have e := h4 (by simpa using h)
      rw [h6] at e
      simpa using e
    refine ⟨by unfold sumErr; by_cases h : sumFits c 0 <;> simp [h], ?_, ?_, z, ?_, hz⟩
    · split
      · exact k0.setCell (show pi ≤ w.heap.size by omega) _
      · exact (k0.setCell (show pi ≤ w.heap.size by omega) _).alloc (by simp; omega) _ _
    · split
      · rw [World.cell?_setCell_other _ _ _ _ (ne_addr (by omega))]; exact h3
      · rw [World.cell?_alloc_past _ _ _ (by show _ < (w1.setCell _ _).heap.size; rw [World.size_setCell]; omega), World.cell?_setCell_other _ _ _ _ (ne_addr (by omega))]; exact h3
    · split
      · rw [World.cell?_setCell_other _ _ _ _ (ne_addr (by omega))]; exact h6
      · rw [World.cell?_alloc_past _ _ _ (by show _ < (w1.setCell _ _).heap.size; rw [World.size_setCell]; omega), World.cell?_setCell_other _ _ _ _ (ne_addr (by omega))]; exact h6

end Go.Proofs.Ytceanfocgdnnaaa
