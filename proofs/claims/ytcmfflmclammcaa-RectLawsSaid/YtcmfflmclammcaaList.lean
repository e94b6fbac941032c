/- The list that RectLaws makes of its numbers. -/
import Derived.Test.YtcmfflmclammcaaApp
import Derived.Deep.DeepCutAuto
namespace Go.Proofs.Ytcmfflmclammcaa
open Go.RowKit Go.Sort

theorem R4.src {w : World} {b : Nat} {x0 x1 x2 x3 : Int} (h : R4 w b x0 x1 x2 x3) : Src w (some ⟨b, 0, none⟩) 4 4 [x0, x1, x2, x3] := by
  refine ⟨rfl, fun e => (by cases e), fun k hk => ⟨_, rfl, ?_⟩⟩
  rw [Addr.add_lit, Nat.zero_add]
  match k, hk with
  | 0, _ => exact h.1
  | 1, _ => exact h.2.1
  | 2, _ => exact h.2.2.1
  | 3, _ => exact h.2.2.2
  | k + 4, h => (simp only [List.length_cons, List.length_nil] at h; omega)

theorem two_mine (w : World) (B : Nat) (hB : B ≤ w.heap.size) (n m : Int) : Mine (w.alloc (.cells #[.int .i64 n, .int .i64 m] 3)) B (some ⟨w.heap.size, 0, none⟩) 2 2 [n, m] :=
  World.ownsRow_lit w #[.int .i64 n, .int .i64 m] 2 hB (by unfold maxLen; omega) rfl

/-- A list of the call's own, and all that was. -/
def Own (W : World) (A : Option Addr) (n c : Nat) (xs : List Int) (V : World) : Prop := Mine V W.heap.size A n c xs ∧ Below W.heap.size W V

/-- Two lists of the call's own, apart. -/
def Owns (W : World) (A : Option Addr) (n c : Nat) (xs : List Int) (A' : Option Addr) (n' c' : Nat) (ys : List Int) (V : World) : Prop :=
  Own W A n c xs V ∧ Own W A' n' c' ys V ∧ ∀ b, blk A = some b → blk A' ≠ some b

theorem Own.src {W V : World} {A : Option Addr} {n c : Nat} {xs : List Int} (h : Own W A n c xs V) {b : Nat} {x0 x1 x2 x3 : Int} (r : R4 W b x0 x1 x2 x3) : Src V (some ⟨b, 0, none⟩) 4 4 [x0, x1, x2, x3] := (r.below h.2).src
theorem Own.size {W V : World} {A : Option Addr} {n c : Nat} {xs : List Int} (h : Own W A n c xs V) : W.heap.size ≤ V.heap.size := h.2.size
theorem Own.drew {W V : World} {A : Option Addr} {n c : Nat} {xs : List Int} (h : Own W A n c xs V) : Own W A n c xs V.drew := ⟨h.1, h.2.drew⟩

theorem Own.app {W V V' : World} {A A' : Option Addr} {n c m c' : Nat} {xs ys : List Int} (h : Own W A n c xs V) (ha : Appended V W.heap.size A n xs ys m A' c' V') : Own W A' (n + m) c' (xs ++ ys) V' :=
  ⟨ha.1, ha.below h.1 h.2 (Nat.le_refl _) h.size⟩

/-- An append to the first list leaves the second one. -/
theorem Owns.app1 {W V V' : World} {A A' A2 : Option Addr} {n c m c' n2 c2 : Nat} {xs ys zs : List Int} (h : Owns W A n c xs A2 n2 c2 zs V) (ha : Appended V W.heap.size A n xs ys m A' c' V') :
    Owns W A' (n + m) c' (xs ++ ys) A2 n2 c2 zs V' := by
  obtain ⟨h1, h2, h3⟩ := h
  refine ⟨h1.app ha, ⟨h2.1.kept ha.2.1 (fun k hk e => h3 k e hk), (h1.app ha).2⟩, fun b hb => ?_⟩
  rcases ha.2.2 with e | e
  · rw [e] at hb; exact h3 b hb
  · rw [e] at hb
    intro e2
    have := (h2.1.lt b e2).2
    injection hb with hb
    omega

theorem Owns.swap {W V : World} {A A2 : Option Addr} {n c n2 c2 : Nat} {xs zs : List Int} (h : Owns W A n c xs A2 n2 c2 zs V) : Owns W A2 n2 c2 zs A n c xs V :=
  ⟨h.2.1, h.1, fun b hb e => h.2.2 b e hb⟩

theorem Owns.app2 {W V V' : World} {A A' A2 : Option Addr} {n c m c' n2 c2 : Nat} {xs ys zs : List Int} (h : Owns W A n c xs A2 n2 c2 zs V) (ha : Appended V W.heap.size A2 n2 zs ys m A' c' V') :
    Owns W A n c xs A' (n2 + m) c' (zs ++ ys) V' := (h.swap.app1 ha).swap

/-- The two first lists, in either order. -/
theorem first_A (W : World) (n m : Int) : Owns W (some ⟨W.heap.size, 0, none⟩) 2 2 [n, m] (some ⟨W.heap.size + 1, 0, none⟩) 0 0 [] ((W.alloc (.cells #[.int .i64 n, .int .i64 m] 3)).alloc (.cells #[] 3)).drew := by
  have h := none_mine (W.alloc (.cells #[.int .i64 n, .int .i64 m] 3)) W.heap.size (by simp)
  simp only [World.size_alloc] at h
  exact ⟨⟨(two_mine W _ (Nat.le_refl _) n m).alloc _, (ba2 W _ _).drew⟩, ⟨h, (ba2 W _ _).drew⟩, fun b hb e => by injection hb with hb; injection e with e; simp at hb e; omega⟩
theorem first_B (W : World) (n m : Int) : Owns W (some ⟨W.heap.size + 1, 0, none⟩) 2 2 [n, m] (some ⟨W.heap.size, 0, none⟩) 0 0 [] ((W.alloc (.cells #[] 3)).alloc (.cells #[.int .i64 n, .int .i64 m] 3)).drew := by
  have h := two_mine (W.alloc (.cells #[] 3)) W.heap.size (by simp) n m
  simp only [World.size_alloc] at h
  exact ⟨⟨h, (ba2 W _ _).drew⟩, ⟨(none_mine W _ (Nat.le_refl _)).alloc _, (ba2 W _ _).drew⟩, fun b hb e => by injection hb with hb; injection e with e; simp at hb e; omega⟩
theorem first_C (W : World) (n m : Int) : Own W (some ⟨W.heap.size, 0, none⟩) 2 2 [n, m] (W.alloc (.cells #[.int .i64 n, .int .i64 m] 3)).drew :=
  ⟨two_mine W _ (Nat.le_refl _) n m, (ba1 W _).drew⟩
theorem Own.beside {W V : World} {A : Option Addr} {n c : Nat} {xs : List Int} (h : Own W A n c xs V) : Owns W A n c xs (some ⟨V.heap.size, 0, none⟩) 0 0 [] (V.alloc (.cells #[] 3)) :=
  ⟨⟨h.1.alloc _, h.2.alloc h.size _⟩, ⟨none_mine V _ h.size, h.2.alloc h.size _⟩, fun b hb e => by have := (h.1.lt b hb).2; injection e with e; simp at e; omega⟩

theorem Owns.mine1 {W V : World} {A A2 : Option Addr} {n c n2 c2 : Nat} {xs zs : List Int} (h : Owns W A n c xs A2 n2 c2 zs V) : Mine V W.heap.size A n c xs := h.1.1
theorem Owns.mine2 {W V : World} {A A2 : Option Addr} {n c n2 c2 : Nat} {xs zs : List Int} (h : Owns W A n c xs A2 n2 c2 zs V) : Mine V W.heap.size A2 n2 c2 zs := h.2.1.1

/-- Behind the list's statement. -/
def Listed (W : World) (n : Nat) (xs : List Int) (s : Value) (V : World) : Prop := ∃ A c, s = .slice A n c ∧ Own W A n c xs V

end Go.Proofs.Ytcmfflmclammcaa
