/- What the laws of layer 15 have in common: the example, whether numbers are small, a list with one number ahead of it. -/
import Derived.Test.YtkjbimoflmkekaaSpotGRef
import Derived.Test.YtkjbimoflmkekaaMoreDraw
namespace Go.Proofs.Ytkjbimoflmkekaa.Spot
open Go.RowKit Go.Sort Go.Proofs.Ytkjbimoflmkekaa.Strut Go.Proofs.Ytkjbimoflmkekaa.More
set_option linter.unusedVariables false
set_option linter.unusedSimpArgs false

theorem gbelow_is {y m : Int} {x : Sp} (h : belowS y m = x) (w : World) : Calls Try.prog 15 #[.int .i64 y, .int .i64 m] w fun e w' => e = .returned x.v ∧ Below w.heap.size w w' := by
  subst h; exact gbelow_any y m w
theorem gwith_is {x z : Sp} {m : Int} (h : withS x m = z) (w : World) : Calls Try.prog 9 #[x.v, .int .i64 m] w fun e w' => e = .returned z.v ∧ Below w.heap.size w w' := by
  subst h; exact gwith_any x m w
theorem gat_is {x : Sp} {a : Int} (hx : FineS x) (h : atS x = a) (w : World) : Calls Try.prog 20 #[x.v] w fun e w' => e = .returned (.int .i64 a) ∧ Below w.heap.size w w' := by
  subst h; exact gat_any x hx w

set_option maxHeartbeats 400000 in
theorem gspeaks (w : World) :
    Calls Try.prog 7 #[] w fun e w' => e = .returned (.bool true) ∧ Below w.heap.size w w' := by
  have H1 := Lib.hid (fun w => gbelow_is (y := 10) (m := 4) (x := ⟨10, 4, 0, false, false⟩) (by simp [belowS]; omega) w)
  have H2 := Lib.hid (fun w => gwith_is (x := ⟨10, 4, 0, false, false⟩) (m := -1) (z := ⟨10, 4, -1, false, false⟩) (by simp [withS]; omega) w)
  have H3 := Lib.hid (fun w => gat_is (x := ⟨10, 4, -1, false, false⟩) (a := 13) (by unfold FineS; simp) (by simp [atS]) w)
  go_enter Try.func7, Try.ntmps7
  go_wp2_with fail
  refine (H1.out w).mono ?_; rintro e w1 ⟨rfl, b1⟩
  go_wp2_with fail
  refine (H2.out w1).mono ?_; rintro e w2 ⟨rfl, b2⟩
  replace b2 := thru b1 b2
  clear b1
  go_wp2_with fail
  refine (H3.out w2).mono ?_; rintro e w3 ⟨rfl, b3⟩
  replace b3 := thru b2 b3
  clear b2
  go_wp2_with fail
  go_ret
  exact ⟨rfl, b3⟩

def in50 (n : Int) : Bool := decide (-1125899906842624 ≤ n ∧ n ≤ 1125899906842624)
theorem in50_iff {n : Int} : in50 n = true ↔ -1125899906842624 ≤ n ∧ n ≤ 1125899906842624 := by unfold in50; simp
theorem all50_out (xs : List Int) (k : Nat) (h : k < xs.length) (y : Int) (hy : y = xs.getD k 0) (hb : in50 y = false) : xs.all in50 = false := by
  rw [List.all_eq_false]
  refine ⟨y, ?_, by rw [hb]; simp⟩
  rw [hy]; simp [List.getD, h]
theorem all50_at {xs : List Int} (h : xs.all in50 = true) (k : Nat) : -1125899906842624 ≤ xs.getD k 0 ∧ xs.getD k 0 ≤ 1125899906842624 := by
  by_cases hk : k < xs.length
  · exact in50_iff.1 (List.all_eq_true.1 h _ (by simp [List.getD, hk]))
  · simp [List.getD, List.getElem?_eq_none (Nat.le_of_not_lt hk)]
theorem all50_inB {xs : List Int} (h : xs.all in50 = true) : xs.all inB = true := by
  rw [List.all_eq_true] at h ⊢
  intro x hx
  have := in50_iff.1 (h x hx)
  unfold inB
  simp; omega
/-- Margins of such numbers come to no more. -/
theorem most50 : ∀ (xs : List Int), xs.all in50 = true → 0 ≤ Strut.mostOf xs ∧ Strut.mostOf xs ≤ 1125899906842624 := by
  intro xs
  induction xs with
  | nil => intro _; exact ⟨Int.le_refl _, by show (0 : Int) ≤ _; omega⟩
  | cons x xs ih =>
    intro h
    rw [List.all_cons, Bool.and_eq_true] at h
    have h1 := in50_iff.1 h.1
    have h2 := ih h.2
    have h3 : Strut.mostOf (x :: xs) = max (Strut.mostOf [x]) (Strut.mostOf xs) := most_append [x] xs
    have h4 : Strut.mostOf [x] = max 0 x := rfl
    omega
theorem least50 : ∀ (xs : List Int), xs.all in50 = true → -1125899906842624 ≤ Strut.leastOf xs ∧ Strut.leastOf xs ≤ 0 := by
  intro xs
  induction xs with
  | nil => intro _; exact ⟨by show _ ≤ (0 : Int); omega, Int.le_refl _⟩
  | cons x xs ih =>
    intro h
    rw [List.all_cons, Bool.and_eq_true] at h
    have h1 := in50_iff.1 h.1
    have h2 := ih h.2
    have h3 : Strut.leastOf (x :: xs) = min (Strut.leastOf [x]) (Strut.leastOf xs) := least_append [x] xs
    have h4 : Strut.leastOf [x] = min 0 x := rfl
    omega

set_option maxHeartbeats 400000 in
theorem gsmall_is (A : Option Addr) (n c : Nat) (xs : List Int) (w : World) (hn : n = xs.length) (hlen : n ≤ 9223372036854775807) (B : Nat) (hx : Nums w B A xs) (v : Bool)
    (hv : xs.all in50 = v) :
    Calls Try.prog 8 #[.slice A n c] w fun e w' => e = .returned (.bool v) ∧ w = w' := by
  have HX := Lib.hid hx
  have HV := Lib.hid hv
  have HN := Lib.hid hn
  clear hx hv hn
  go_enter Try.func8, Try.ntmps8
  go_wp2
  go_loop [7] (fun i => ∃ k : Nat, k ≤ n ∧ i = .int .i64 k ∧ (xs.take k).all in50 = true) (fun i => n - (intOf i).toNat)
  case atStart => exact ⟨0, Nat.zero_le _, rfl, by simp⟩
  case round =>
    obtain ⟨k, hk, rfl, hal⟩ := hrel
    have HA := Lib.hid hal
    clear hal
    by_cases hlt : k < n
    · obtain ⟨ad, hA, _, hcx⟩ := HX.out k (by rw [← HN.out]; exact hlt)
      subst hA
      obtain ⟨y, hy⟩ : ∃ y, y = xs.getD k 0 := ⟨_, rfl⟩
      rw [← hy] at hcx
      have HY := Lib.hid hy
      clear hy
      go_wp2
      · go_ret
        exact ⟨ret_bool (by rw [← HV.out, all50_out xs k (by rw [← HN.out]; exact hlt) y HY.out (by unfold in50; simp; omega)]), rfl⟩
      · have h1 : in50 y = true := by unfold in50; simp; omega
        go_round
        case rel => exact ⟨k + 1, by omega, by go_num, by rw [take_next xs k (by rw [← HN.out]; exact hlt), ← HY.out, List.all_append, HA.out]; simp [h1]⟩
        case measure => simp [intOf]; omega
      · go_ret
        exact ⟨ret_bool (by rw [← HV.out, all50_out xs k (by rw [← HN.out]; exact hlt) y HY.out (by unfold in50; simp; omega)]), rfl⟩
    · have hv : v = true := by rw [← HV.out]; have := HA.out; rwa [List.take_of_length_le (by rw [← HN.out]; omega)] at this
      have HV2 := Lib.hid hv
      clear hv
      go_wp2
      go_ret
      exact ⟨ret_bool HV2.out.symm, rfl⟩

/-- An append that its guard wants. -/
theorem wpList_append_on (w : World) {ops : Array Oper} {rest : List Oper} {o : Oper} {a : Act} {Q : Exit → Act → World → Prop} (hw : Region.wanted o (yielded ops a.tmps) = true) (s x : Operand)
    (ho : o.op = .call { callee := .builtin .append, args := #[s, x], argTypes := #[28, 28] })
    (B : Nat) (A : Option Addr) (n c : Nat) (xs : List Int) (hs : a.eval s = .slice A n c) (hown : Mine w B A n c xs) (A2 : Option Addr) (m c2 : Nat) (ys : List Int) (hx : a.eval x = .slice A2 m c2) (hsrc : Src w A2 m c2 ys)
    (hlen : n + m ≤ 1000000) (hB : B ≤ w.heap.size)
    (h : ∀ A' c' w', Appended w B A n xs ys m A' c' w' → wpList Try.prog ops Q rest (a.put o.dst (.slice A' (n + m) c')) w') : wpList Try.prog ops Q (o :: rest) a w :=
  wpList_step fun K hK => by rw [if_pos hw]; exact wp_append_mine w s x ho B A n c xs hs hown A2 m c2 ys hx hsrc hlen hB fun A' c' w' h2 => hK _ _ (h A' c' w' h2)

theorem nums_src {w : World} {B : Nat} {A : Option Addr} {n c : Nat} {xs : List Int} (h : Nums w B A xs) (hn : n = xs.length) (hz : A = none → c = 0) : Src w A n c xs :=
  ⟨hn.symm, hz, fun k hk => by obtain ⟨ad, e, -, hc⟩ := h k hk; exact ⟨ad, e, hc⟩⟩

theorem gfix_is {x z : Sp} {d : Int} (hx : FineS x) (hd : -1152921504606846976 ≤ d ∧ d ≤ 1152921504606846976) (h : fixS x d = z) (w : World) : Calls Try.prog 11 #[x.v, .int .i64 d] w fun e w' => e = .returned z.v ∧ Below w.heap.size w w' := by
  subst h; exact gfix_any x d hx hd w
theorem gcleared_is {y m : Int} {x : Sp} (h : clearedS y m = x) (w : World) : Calls Try.prog 17 #[.int .i64 y, .int .i64 m] w fun e w' => e = .returned x.v ∧ Below w.heap.size w w' := by
  subst h; exact gcleared_any y m w

theorem gpass_is {x z : Sp} {m : Int} (hx : FineS x) (h : passS x m = z) (w : World) : Calls Try.prog 13 #[x.v, .int .i64 m] w fun e w' => e = .returned z.v ∧ Below w.heap.size w w' := by
  subst h; exact gpass_any x m hx w
theorem gsum_is {A : Option Addr} {n c : Nat} {xs : List Int} {v : Int} (h : Strut.mostOf xs + Strut.leastOf xs = v) (hn : n = xs.length) (hlen : n ≤ 1000) (hb : xs.all in50 = true) (w : World) (B : Nat) (hx : Nums w B A xs) :
    Calls Try.prog 22 #[.slice A n c] w fun e w' => e = .returned (.int .i64 v) ∧ Below w.heap.size w w' := by
  subst h; exact calls_same_below (rsum_any A n c xs w hn (by omega) B hx (all50_inB hb))

/-- The spot behind some margins. -/
abbrev cumS (y : Int) (xs : List Int) (k : Nat) : Sp := ⟨y, Strut.mostOf (xs.take k), Strut.leastOf (xs.take k), false, false⟩

theorem all50_take {xs : List Int} (h : xs.all in50 = true) (k : Nat) : (xs.take k).all in50 = true := by
  rw [List.all_eq_true] at h ⊢
  exact fun x hx => h x (List.mem_of_mem_take hx)
theorem getD_drop (xs : List Int) (k i : Nat) : (xs.drop k).getD i 0 = xs.getD (k + i) 0 := by simp [List.getD]
/-- Five cells of a new block, written anew. -/
theorem only_putS {T : TypeId} {w : World} {g : Nat} (z x : Sp) (h : w.heap[g]? = some (.cells (sprow z).toArray T)) :
    (((((w.setCell ⟨g, 0, none⟩ (.int .i64 x.y)).setCell ⟨g, 1, none⟩ (.int .i64 x.p)).setCell ⟨g, 2, none⟩ (.int .i64 x.q)).setCell ⟨g, 3, none⟩ (.bool x.h)).setCell ⟨g, 4, none⟩ (.bool x.s)).heap[g]? = some (.cells (sprow x).toArray T) ∧
    Draw.Only g w (((((w.setCell ⟨g, 0, none⟩ (.int .i64 x.y)).setCell ⟨g, 1, none⟩ (.int .i64 x.p)).setCell ⟨g, 2, none⟩ (.int .i64 x.q)).setCell ⟨g, 3, none⟩ (.bool x.h)).setCell ⟨g, 4, none⟩ (.bool x.s)) :=
  ⟨by simp [World.setCell, Array.getElem?_modify, h], ((((Draw.Only.set g _ 0 _).trans (Draw.Only.set g _ 1 _)).trans (Draw.Only.set g _ 2 _)).trans (Draw.Only.set g _ 3 _)).trans (Draw.Only.set g _ 4 _)⟩
theorem lies_of {w : World} {b : Nat} {xs : List Value} {T : TypeId} (h : w.heap[b]? = some (.cells xs.toArray T (0, 0))) : Lies w b xs := by
  refine ⟨fun o => ?_, fun o => frozen_of_row w b o _ _ h⟩
  rw [cell_of_row w b o _ _ _ h]
  simp

/-- What an operation that only reads leaves. -/
def reads (w : World) (v : Value) : Result Next → Prop
  | .ok (.value u) w' => w' = w ∧ u = v
  | _ => False
theorem wpList_slice (w : World) {ops : Array Oper} {rest : List Oper} {o : Oper} {a : Act} {Q : Exit → Act → World → Prop} (hgd : o.guard = none) (x : Operand) (lo hi mx : Option Operand)
    (ho : o.op = .slice 28 x lo hi mx) (v : Value) (hr : reads w v ((execOp a.eval o).run Try.prog w)) (h : wpList Try.prog ops Q rest (a.put o.dst v) w) : wpList Try.prog ops Q (o :: rest) a w :=
  wpList_plain hgd fun _ hK => by
    unfold Oper.wp
    generalize (execOp a.eval o).run Try.prog w = r at *
    cases r with
    | ok nx w' =>
      cases nx <;> simp only [reads] at hr <;> simp only [Oper.upon]
      obtain ⟨rfl, rfl⟩ := hr
      exact hK _ _ h
    | halt x w' => simp only [reads] at hr

theorem one_all (y : Int) (xs : List Int) : ([y] ++ xs).all in50 = (in50 y && xs.all in50) := by simp

end Go.Proofs.Ytkjbimoflmkekaa.Spot
