/- The law of orders. -/
import Derived.Test.YtdofmpmgcpobfaaShelfSOrd
import Derived.Test.YtdofmpmgcpobfaaShelfSFind
import Derived.Test.YtdofmpmgcpobfaaTold
import Derived.Laws.StructEq
import Derived.Deep.CutBlock
namespace Go.Proofs.Ytdofmpmgcpobfaa.Shelf
open Go.RowKit Go.Sort Go.Proofs.Ytdofmpmgcpobfaa.Rect Go.Proofs.Ytdofmpmgcpobfaa.More
set_option linter.unusedVariables false

theorem floats_nil {w : World} {B : Nat} {fs : List Fl} (h : Floats w B none fs) : fs = [] := by
  cases fs with
  | nil => rfl
  | cons f fs =>
    obtain ⟨ad, e, -⟩ := h 0 f rfl
    cases e

theorem src_frontO {w : World} {B : Nat} {A : Option Addr} {fs : List Fl} {n c k : Nat} (h : Floats w B A fs) (hn : n = fs.length) (hk : k ≤ n) (hnil : A = none → c = 0) : SrcE encF w A k c (fs.take k) := by
  cases A with
  | some ad => exact src_front h hn hk
  | none =>
    have e := floats_nil h
    subst e
    refine ⟨by simp at hn; simp; omega, hnil, fun j u hu => by simp at hu⟩

theorem src_backO {w : World} {B : Nat} {A : Option Addr} {fs : List Fl} {n c k : Nat} (h : Floats w B A fs) (hn : n = fs.length) (hk : k ≤ n) (hc : n ≤ c) (hnil : A = none → c = 0) :
    SrcE encF w (if c = k then A else Option.map (fun x => x.add (k * 5)) A) (n - k) (c - k) (fs.drop k) := by
  cases A with
  | some ad =>
    have := src_back (c := c) h hn hk hc rfl
    by_cases e : c = k
    · rw [if_pos e] at this ⊢; exact this
    · rw [if_neg e] at this ⊢; exact this
  | none =>
    have e := floats_nil h
    subst e
    have hz := hnil rfl
    refine ⟨by simp at hn; simp; omega, fun _ => by omega, fun j u hu => by simp at hu⟩

theorem neqSh_same (a b c : Int) (w : World) : (Op.equalIn 10000 32 (.agg #[.int .i64 a, .int .i64 b, .int .i64 c]) (.agg #[.int .i64 a, .int .i64 b, .int .i64 c])).run Try.prog w = .ok true w := by
  have u3 := Try.underlying3
  have a3 := Try.isAgg3
  have z3 := Try.sizeOf3
  have hS : Try.prog.underlying 32 = some (.struct (Try.prog.fieldsOf 32)) := by kernel_rfl
  rw [show (10000 : Nat) = 9999 + 1 from rfl, run_equalIn_agg w 9999 32 _ _ hS (by kernel_rfl)]
  simp only [Program.fieldsOf, Try.underlying32]
  go_simp

theorem row_three {w w' : World} {B g n c : Nat} {xs : List Sh} (h : MineE encSh 32 w B (some ⟨g, 0, none⟩) n c xs) {k j : Nat} {x : Sh} (hx : xs[k]? = some x) (hj : k * 3 = j) (kb : Below w.heap.size w w') :
    w'.cell? ⟨g, j, none⟩ = some (.int .i64 x.1) ∧ w'.cell? ⟨g, j + 1, none⟩ = some (.int .i64 x.2.1) ∧ w'.cell? ⟨g, j + 2, none⟩ = some (.int .i64 x.2.2) := by
  subst hj
  have m := MineE.below h kb
  exact ⟨MineE.at m k x hx 0 (by decide), MineE.at m k x hx 1 (by decide), MineE.at m k x hx 2 (by decide)⟩

/-- The two numbers of a block that has been made. -/
theorem two_at {w : World} {r : Nat} {a b : Value} {T : TypeId} (h : w.heap[r]? = some (.cells #[a, b] T (0, 0))) :
    w.cell? ⟨r, 0, none⟩ = some a ∧ w.cell? ⟨r, 1, none⟩ = some b ∧ w.frozen? ⟨r, 0, none⟩ = false ∧ w.frozen? ⟨r, 1, none⟩ = false :=
  ⟨by rw [cell_of_row w r 0 _ _ _ h]; rfl, by rw [cell_of_row w r 1 _ _ _ h]; rfl, frozen_of_row w r 0 _ _ h, frozen_of_row w r 1 _ _ h⟩

/-- The same floats, turned. -/
def turnF (fs : List Fl) (k : Nat) : List Fl := fs.drop k ++ fs.take k ++ fs.take k

theorem turn_len {fs : List Fl} {k : Nat} (hk : k ≤ fs.length) : (turnF fs k).length = fs.length - k + k + k := by
  unfold turnF
  rw [List.length_append, List.length_append, List.length_drop, List.length_take, Nat.min_eq_left hk]
theorem turn_all {fs : List Fl} {k : Nat} (h : fs.all nearF = true) : (turnF fs k).all nearF = true :=
  List.all_eq_true.2 fun f hf => List.all_eq_true.1 h f ((turned_mem fs k f).2 hf)

section
variable {L : World → Nat → Addr → List Fl → Prop}

set_option maxRecDepth 100000 in
set_option maxHeartbeats 1000000 in
theorem order_no (hO : ListOk L) (A : Option Addr) (n c : Nat) (fs : List Fl) (u a z : Int) (w : World) (hn : n = fs.length) (hlen : n ≤ 9223372036854775807) (hx : Floats w w.heap.size A fs) (hv : (fs.all nearF && decide ((n : Int) ≤ 30)) = false) :
    Calls Try.prog 5 #[.slice A n c, .int .u8 u, .int .i64 a, .int .i64 z] w fun e w' => e = .returned (.bool true) ∧ Below w.heap.size w w' := by
  have HFew := Lib.hid (fun w1 (k : Below w.heap.size w w1) => few_is A n c fs 30 false w1 hn hlen (hx.thru k) hv)
  clear hx hn hv
  go_enter Try.func5, Try.ntmps5
  go_upto_region 2 with (first
    | (go_at_call 9; refine (sspeaks hO _).mono ?_; rintro e w1 ⟨rfl, k1⟩; have K1 := Lib.hid k1; clear k1)
    | (go_at_call 10; refine (HFew.out _ K1.out).mono ?_; rintro e w2 ⟨rfl, k2⟩; have K2 := Lib.hid (thru K1.out k2); clear k2))
  go_wp2_with (first
    | (go_at_call 9; refine (sspeaks hO _).mono ?_; rintro e w9 ⟨rfl, k9⟩; have K9 := Lib.hid (thru K2.out k9); clear k9))
  go_ret
  exact ⟨rfl, K9.out⟩

set_option maxRecDepth 100000 in
set_option maxHeartbeats 1000000 in
theorem order_far (hO : ListOk L) (A : Option Addr) (n c : Nat) (fs : List Fl) (u a z : Int) (w : World) (hn : n = fs.length) (hlen : n ≤ 9223372036854775807) (hx : Floats w w.heap.size A fs) (hv : (fs.all nearF && decide ((n : Int) ≤ 30)) = true) (hs : [a, z, 0, 0].all inS = false) :
    Calls Try.prog 5 #[.slice A n c, .int .u8 u, .int .i64 a, .int .i64 z] w fun e w' => e = .returned (.bool true) ∧ Below w.heap.size w w' := by
  have HFew := Lib.hid (fun w1 (k : Below w.heap.size w w1) => few_is A n c fs 30 true w1 hn hlen (hx.thru k) hv)
  have HSm := Lib.hid (fun w1 => smallR_is a z 0 0 false hs w1)
  clear hx hn hv hs
  go_enter Try.func5, Try.ntmps5
  go_upto_region 2 with (first
    | (go_at_call 9; refine (sspeaks hO _).mono ?_; rintro e w1 ⟨rfl, k1⟩; have K1 := Lib.hid k1; clear k1)
    | (go_at_call 10; refine (HFew.out _ K1.out).mono ?_; rintro e w2 ⟨rfl, k2⟩; have K2 := Lib.hid (thru K1.out k2); clear k2)
    | (go_at_call 14; refine (HSm.out _).mono ?_; rintro e w3 ⟨rfl, k3⟩; have K3 := Lib.hid (thru K2.out k3); clear k3))
  go_wp2_with (first
    | (go_at_call 9; refine (sspeaks hO _).mono ?_; rintro e w9 ⟨rfl, k9⟩; have K9 := Lib.hid (thru K3.out k9); clear k9))
  go_ret
  exact ⟨rfl, K9.out⟩

/-- A list that stands for these floats, laid from a world's memory on. -/
def Lays (L : World → Nat → Addr → List Fl → Prop) (fs : List Fl) (w : World) (v : Value) : Prop := ∃ p B, v = .pointer (some p) ∧ L w B p fs

theorem lays_keeps (hO : ListOk L) (fs : List Fl) : Hold.Keeps (Lays L fs) := fun w w' u k ⟨p, B, e, h⟩ => ⟨p, B, e, hO.keep _ _ _ _ _ h k⟩

/-- The shelves of a list, in a row. -/
def Rowed (fs : List Fl) (m : Nat) (w : World) (v : Value) : Prop := ∃ A c B, v = .slice A m c ∧ MineE encSh 32 w B A m c (shelvesD fs)

theorem rowed_keeps (fs : List Fl) (m : Nat) : Hold.Keeps (Rowed fs m) := fun w w' u k ⟨A, c, B, e, h⟩ => ⟨A, c, B, e, MineE.below h k⟩

set_option maxRecDepth 100000 in
set_option maxHeartbeats 400000 in
theorem order_yes (hO : ListOk L) (A : Option Addr) (n c : Nat) (fs : List Fl) (u a z : Int) (hu : 0 ≤ u ∧ u ≤ 255) (w : World) (hn : n = fs.length) (hc : n ≤ c) (hnil : A = none → c = 0) (hx : Floats w w.heap.size A fs) (hs : fs.all nearF = true) (h30 : n ≤ 30) (haz : [a, z, 0, 0].all inS = true) :
    Calls Try.prog 5 #[.slice A n c, .int .u8 u, .int .i64 a, .int .i64 z] w fun e w' => e = .returned (.bool true) ∧ Below w.heap.size w w' := by
  obtain ⟨kk, hkk, hkn⟩ : ∃ kk : Nat, u.tmod ((n : Int) + 1) = (kk : Int) ∧ kk ≤ n := by
    have g0 := Int.tmod_nonneg ((n : Int) + 1) hu.1
    have g1 := Int.tmod_lt_of_pos u (show (0 : Int) < (n : Int) + 1 by omega)
    exact ⟨(u.tmod ((n : Int) + 1)).toNat, by omega, by omega⟩
  have hcu : IntKind.i64.wrap u = u := IntWalk.i64_in _ (by omega)
  have hn0 : ¬ (n : Int) + 1 = 0 := by omega
  have hkc : (kk : Int) ≤ (c : Int) := by omega
  have hkni : (kk : Int) ≤ (n : Int) := by omega
  have hkc2 : kk ≤ c := by omega
  have haS : inS a = true ∧ inS z = true := by
    simp only [List.all_cons, Bool.and_eq_true] at haz
    exact ⟨haz.1, haz.2.1⟩
  have HSm := Lib.hid (fun w1 => smallR_is a z 0 0 true haz w1)
  have HFew := Lib.hid (fun w1 (k : Below w.heap.size w w1) => few_is A n c fs 30 true w1 hn (by omega) (hx.thru k) (by rw [hs]; simp; omega))
  have HBe := Lib.hid (fun w1 (k : Below w.heap.size w w1) => (begin_any hO A n c fs w1 hn (by omega) (hx.thru k) hs).mono (R' := fun e w'' => ∃ u, e = .returned u ∧ Lays L fs w'' u ∧ Below w1.heap.size w1 w'') fun e w'' ⟨⟨p, e1, e2⟩, e3⟩ => ⟨_, e1, ⟨p, _, rfl, e2⟩, e3⟩)
  have HBp := Lib.hid (fun w1 (k : Below w.heap.size w w1) => (begin_any hO A kk c (fs.take kk) w1 (by rw [List.length_take]; omega) (by omega) (floats_take (hx.thru k) kk) (List.all_eq_true.2 fun f hf => List.all_eq_true.1 hs f (List.mem_of_mem_take hf))).mono (R' := fun e w'' => ∃ u, e = .returned u ∧ Lays L (fs.take kk) w'' u ∧ Below w1.heap.size w1 w'') fun e w'' ⟨⟨p, e1, e2⟩, e3⟩ => ⟨_, e1, ⟨p, _, rfl, e2⟩, e3⟩)
  have HX := Lib.hid hx
  have HH := Lib.hid (⟨hn, hc, hnil, hs, h30, haS⟩ : n = fs.length ∧ n ≤ c ∧ (A = none → c = 0) ∧ fs.all nearF = true ∧ n ≤ 30 ∧ inS a = true ∧ inS z = true)
  clear hx hn hc hnil hs haS haz hu
  go_enter Try.func5, Try.ntmps5
  go_upto_region 4 with (first
    | (go_at_call 9; refine (sspeaks hO _).mono ?_; rintro e w1 ⟨rfl, k1⟩; have K1 := Lib.hid k1; clear k1)
    | (go_at_call 10; refine (HFew.out _ K1.out).mono ?_; rintro e w2 ⟨rfl, k2⟩; have K2 := Lib.hid (thru K1.out k2); clear k2)
    | (go_at_call 14; refine (HSm.out _).mono ?_; rintro e w3 ⟨rfl, k3⟩; have K3 := Lib.hid (thru K2.out k3); clear k3))
  refine Hold.wp_region_hold [.val (.slice A n c), .some (Lays L fs), .val (.slice A n c), .val (.int .i64 (kk : Int)), .val (.slice A kk c), .some (Lays L (fs.take kk))] (by kernel_rfl) (by kernel_rfl) (by kernel_rfl) ?_ ?_
  · simp only [Hold.fill, Hold.Leave.value]
    refine ⟨?_, ?_, ?_, ?_, ?_, ?_, trivial⟩
    · intro gg w' hw hk
      go_simp
      exact ⟨rfl, rfl⟩
    · refine ⟨lays_keeps hO _, ?_⟩
      intro gg w' hw hk
      go_simp
      exact Hold.gives_call (HBe.out w' (thru K3.out hw))
    · intro gg w' hw hk
      go_simp
      exact ⟨rfl, rfl⟩
    · intro gg w' hw hk
      go_simp
      exact ⟨rfl, rfl⟩
    · intro gg w' hw hk
      go_simp
      exact ⟨rfl, rfl⟩
    · refine ⟨lays_keeps hO _, ?_⟩
      intro gg w' hw hk
      go_simp
      exact Hold.gives_call (HBp.out w' (thru K3.out hw))
  intro gg w4 k4 hgg
  obtain ⟨p1, B1, hg1, hL1⟩ := hgg 1 _ rfl
  obtain ⟨p2, B2, hg2, hL2⟩ := hgg 5 _ rfl
  simp only [Hold.fill, Hold.Leave.value, List.length_cons, List.length_nil, List.drop_succ_cons, List.drop_zero]
  rw [hg1, hg2]
  have HL1 := Lib.hid hL1
  have HL2 := Lib.hid hL2
  have K4 := Lib.hid (thru K3.out k4)
  clear hgg hg1 hg2 hL1 hL2 k4
  go_upto_region 5 with fail
  go_cut [12] (fun t wx => ∃ p3 B3, t = .pointer (some p3) ∧ Hid (L wx B3 p3 (turnF fs kk) ∧ Below w4.heap.size w4 wx))
  case first =>
    have HX4 := HX.out.thru K4.out
    obtain ⟨h1, h2, h3, h4, h5, h6⟩ := HH.out
    have BA : Below w4.heap.size w4 (w4.drew.alloc (.cells #[] 50)) := (fun (h : Below w4.heap.size w4.drew (w4.drew.alloc (.cells #[] 50))) => (⟨h.os, h.tape, h.output, h.size, h.block⟩ : Below w4.heap.size w4 _)) (ba1 w4.drew _)
    have MA := emptyE_mine encF 50 w4.drew w4.heap.size (Nat.le_refl _)
    have SB1 := src_backO (c := c) (HX4.thru BA) h1 hkn h2 h3
    have hd1 : ¬ ((kk : Int) < 0) := by omega
    obtain ⟨A1, hA1⟩ : ∃ A1, (if c = kk then A else Option.map (fun x => x.add (kk * 5)) A) = A1 := ⟨_, rfl⟩
    rw [hA1] at SB1
    have T0 := Lib.hid (⟨HX4, h1, h5, h3, h4, BA, MA⟩ : Floats w4 w4.heap.size A fs ∧ n = fs.length ∧ n ≤ 30 ∧ (A = none → c = 0) ∧ fs.all nearF = true ∧ Below w4.heap.size w4 (w4.drew.alloc (.cells #[] 50)) ∧ MineE encF 50 (w4.drew.alloc (.cells #[] 50)) w4.heap.size (some ⟨w4.heap.size, 0, none⟩) 0 0 [])
    clear h1 h2 h3 h4 h5 h6 HX4
    have hll : 0 + (n - kk) ≤ 1000000 := by have := T0.out.2.2.1; omega
    have hll2 : n - kk + kk ≤ 1000000 := by have := T0.out.2.2.1; omega
    have hll3 : n + kk ≤ 1000000 := by have := T0.out.2.2.1; omega
    go_region_law (first
      | (refine step_append_E (bytes := 40) (by omega) infoF _ rfl (.tmp 46) (.tmp 49) rfl w4.heap.size (some ⟨w4.heap.size, 0, none⟩) 0 0 [] (by simp [Act.eval]) (by exact MA) A1 (n - kk) (c - kk) (fs.drop kk) (by simp [Act.eval]; try exact hA1) (by exact SB1) (by exact hll) (by exact BA.size) ?_; intro A2 c2 V1 g1; have T1 := Lib.hid (show MineE encF 50 V1 w4.heap.size A2 (n - kk) c2 (fs.drop kk) ∧ Below w4.heap.size w4 V1 from ⟨by have := g1.1; rwa [Nat.zero_add, List.nil_append] at this, AppendedE.below g1 T0.out.2.2.2.2.2.2 T0.out.2.2.2.2.2.1 (Nat.le_refl _) T0.out.2.2.2.2.2.1.size⟩); clear g1)
      | (refine step_append_E (bytes := 40) (by omega) infoF _ rfl (.tmp 50) (.tmp 53) rfl w4.heap.size A2 (n - kk) c2 (fs.drop kk) (by simp [Act.eval]) (by exact T1.out.1) A kk c (fs.take kk) (by simp [Act.eval]) (by exact src_frontO (T0.out.1.thru T1.out.2) T0.out.2.1 hkn T0.out.2.2.2.1) (by exact hll2) (by exact T1.out.2.size) ?_; intro A3 c3 V2 g2; have T2 := Lib.hid (show MineE encF 50 V2 w4.heap.size A3 n c3 (fs.drop kk ++ fs.take kk) ∧ Below w4.heap.size w4 V2 from ⟨by have := g2.1; rwa [Nat.sub_add_cancel hkn] at this, AppendedE.below g2 T1.out.1 T1.out.2 (Nat.le_refl _) T1.out.2.size⟩); clear g2)
      | (refine step_append_E (bytes := 40) (by omega) infoF _ rfl (.tmp 54) (.tmp 57) rfl w4.heap.size A3 n c3 (fs.drop kk ++ fs.take kk) (by simp [Act.eval]; try omega) (by exact T2.out.1) A kk c (fs.take kk) (by simp [Act.eval]) (by exact src_frontO (T0.out.1.thru T2.out.2) T0.out.2.1 hkn T0.out.2.2.2.1) (by exact hll3) (by exact T2.out.2.size) ?_; intro A4 c4 V3 g3; have T3 := Lib.hid (show MineE encF 50 V3 w4.heap.size A4 (n + kk) c4 (turnF fs kk) ∧ Below w4.heap.size w4 V3 from ⟨g3.1, AppendedE.below g3 T2.out.1 T2.out.2 (Nat.le_refl _) T2.out.2.size⟩); clear g3)
      | (go_simp; go_at_call 11; refine (begin_any hO A4 (n + kk) c4 (turnF fs kk) V3 (by rw [turn_len (by have := T0.out.2.1; omega)]; have := T0.out.2.1; omega) (by have := T0.out.2.2.1; omega) (floats_mine T3.out.1) (turn_all T0.out.2.2.2.2.1)).mono ?_; rintro e V4 ⟨⟨p3, rfl, hL3⟩, k4⟩; have HL3 := Lib.hid (⟨hL3, thru T3.out.2 k4⟩ : L V4 V3.heap.size p3 (turnF fs kk) ∧ Below w4.heap.size w4 V4); clear hL3 k4))
    all_goals
      go_wp2_with fail
      go_meet
      exact ⟨p3, _, rfl, HL3⟩
  case rest =>
    obtain ⟨p3, B3, rfl, hcut⟩ := hcut
    have HL3 := Lib.hid hcut.out.1
    have K5 := Lib.hid (thru K4.out hcut.out.2)
    have HL1' := Lib.hid (hO.keep _ _ _ _ _ HL1.out hcut.out.2)
    have HL2' := Lib.hid (hO.keep _ _ _ _ _ HL2.out hcut.out.2)
    clear HL1 HL2 hcut
    have HTE := Lib.hid (show shelvesD (turnF fs kk) = shelvesD fs from (shelvesD_congr (near_of HH.out.2.2.2.1) (near_of (turn_all HH.out.2.2.2.1)) (turned_mem fs kk)).symm)
    obtain ⟨m, hm⟩ : ∃ m, (shelvesD fs).length = m := ⟨_, rfl⟩
    have hm0 : 0 < m := by rw [← hm]; exact shelvesD_pos fs
    have hmb : m ≤ 1000 := by have := shelvesD_len fs; have := HH.out.1; have := HH.out.2.2.2.2.1; omega
    have HM := Lib.hid hm
    have HS1 := Lib.hid (fun w1 (k : Below wc.heap.size wc w1) => (hO.shelves w1 B1 p1 fs (hO.keep _ _ _ _ _ HL1'.out k) HH.out.2.2.2.1).mono (R' := fun e w'' => ∃ u, e = .returned u ∧ Rowed fs m w'' u ∧ Below w1.heap.size w1 w'') fun e w'' ⟨⟨A', c', e1, e2⟩, e3⟩ => by
      rw [hm] at e1 e2
      exact ⟨_, e1, ⟨A', c', _, rfl, e2⟩, e3⟩)
    have HS3 := Lib.hid (fun w1 (k : Below wc.heap.size wc w1) => (hO.shelves w1 B3 p3 (turnF fs kk) (hO.keep _ _ _ _ _ HL3.out k) (turn_all HH.out.2.2.2.1)).mono (R' := fun e w'' => ∃ u, e = .returned u ∧ Rowed fs m w'' u ∧ Below w1.heap.size w1 w'') fun e w'' ⟨⟨A', c', e1, e2⟩, e3⟩ => by
      rw [HTE.out, hm] at e1 e2
      exact ⟨_, e1, ⟨A', c', _, rfl, e2⟩, e3⟩)
    clear hm
    go_upto_region 9 with (first
      | (go_at_call 12; (with_reducible refine (HS1.out wc (Below.refl _ _)).mono ?_); rintro e wd ⟨v, rfl, hrow, kd⟩; obtain ⟨A5, c5, B5, rfl, m5⟩ := hrow; have M5 := Lib.hid m5; have KD := Lib.hid kd; clear m5 kd)
      | (go_at_call 12; (with_reducible refine (HS3.out wd KD.out).mono ?_); rintro e w6 ⟨v, rfl, hrow, k6⟩; obtain ⟨A6, c6, B6, rfl, m6⟩ := hrow; have M6 := Lib.hid m6; have KE := Lib.hid k6; clear m6 k6))
    obtain ⟨ga, rfl, -, -, -, -⟩ := MineE.form M5.out hm0
    obtain ⟨gb, rfl, -, -, -, -⟩ := MineE.form M6.out hm0
    have M5' := Lib.hid (MineE.below M5.out KE.out)
    have K6 := Lib.hid (thru K5.out (thru KD.out KE.out))
    have Q1 := Lib.hid (hO.keep _ _ _ _ _ HL1'.out (thru KD.out KE.out))
    have Q2 := Lib.hid (hO.keep _ _ _ _ _ HL2'.out (thru KD.out KE.out))
    clear M5 KD KE HS1 HS3 HL1' HL2' HL3
    have M5 := M5'
    clear M5'
    go_wp2_with fail
    go_loopw [81] (fun i wr => ∃ k : Nat, k ≤ m ∧ i = .int .i64 (k : Int) ∧ Hid (Below w6.heap.size w6 wr)) (fun i _ => m - (intOf i).toNat)
    case atStart => exact ⟨0, Nat.zero_le _, rfl, Lib.hid (Below.refl _ _)⟩
    case round =>
      obtain ⟨k, hk, rfl, H⟩ := hrel
      by_cases hlt : k < m
      · have hki : (k : Int) < (m : Int) := by omega
        have hk0 : ¬ (k : Int) < 0 := by omega
        obtain ⟨x, hx⟩ : ∃ x, (shelvesD fs)[k]? = some x := ⟨_, List.getElem?_eq_getElem (by rw [HM.out]; exact hlt)⟩
        have CX := Lib.hid (fun w' (j : Below wr.heap.size wr w') => row_three M5.out hx (j := k * 3) rfl (thru H.out j))
        have CY := Lib.hid (fun w' (j : Below wr.heap.size wr w') => row_three M6.out hx (j := k * 3) rfl (thru H.out j))
        clear hx
        go_upto_region 14 with fail
        refine Hold.wp_region_hold [.val (.slice (some ⟨ga, 0, none⟩) m c5), .val (.int .i64 (k : Int)), .val (.pointer (some ⟨ga, k * 3, none⟩)), .val (.agg #[.int .i64 x.1, .int .i64 x.2.1, .int .i64 x.2.2]), .val (.slice (some ⟨gb, 0, none⟩) m c6), .val (.int .i64 (k : Int)), .val (.pointer (some ⟨gb, k * 3, none⟩)), .val (.agg #[.int .i64 x.1, .int .i64 x.2.1, .int .i64 x.2.2])] (by kernel_rfl) (by kernel_rfl) (by kernel_rfl) ?_ ?_
        · simp only [Hold.fill, Hold.Leave.value]
          refine ⟨?_, ?_, ?_, ?_, ?_, ?_, ?_, ?_, trivial⟩
          · intro gg w' hw hk
            go_simp
            exact ⟨rfl, rfl⟩
          · intro gg w' hw hk
            go_simp
            exact ⟨rfl, rfl⟩
          · intro gg w' hw hk
            go_simp
            exact ⟨rfl, rfl⟩
          · intro gg w' hw hk
            have q0 := (CX.out w' hw).1
            have q1 := (CX.out w' hw).2.1
            have q2 := (CX.out w' hw).2.2
            go_simp
            exact ⟨rfl, rfl⟩
          · intro gg w' hw hk
            go_simp
            exact ⟨rfl, rfl⟩
          · intro gg w' hw hk
            go_simp
            exact ⟨rfl, rfl⟩
          · intro gg w' hw hk
            go_simp
            exact ⟨rfl, rfl⟩
          · intro gg w' hw hk
            have q0 := (CY.out w' hw).1
            have q1 := (CY.out w' hw).2.1
            have q2 := (CY.out w' hw).2.2
            go_simp
            exact ⟨rfl, rfl⟩
        intro gg w7 k7 hgg
        clear hgg
        simp only [Hold.fill, Hold.Leave.value, List.length_cons, List.length_nil, List.drop_succ_cons, List.drop_zero]
        have HR := Lib.hid (thru H.out k7)
        have EQ := neqSh_same x.1 x.2.1 x.2.2 w7
        clear k7 CX CY
        go_wp2_with fail
        go_roundw
        case rel => exact ⟨k + 1, by omega, by go_num, HR⟩
        case measure => simp [intOf]; omega
      · obtain rfl : k = m := by omega
        have K7 := Lib.hid (thru K6.out H.out)
        have P1 := Lib.hid (hO.keep _ _ _ _ _ Q1.out H.out)
        have P2 := Lib.hid (hO.keep _ _ _ _ _ Q2.out H.out)
        clear Q1 Q2
        go_upto_region 18 with fail
        generalize hW : World.alloc wr _ = W
        obtain ⟨rb, hrb⟩ : ∃ rb, wr.heap.size = rb := ⟨_, rfl⟩
        have hkW : Below wr.heap.size wr W := by rw [← hW]; exact ba1 _ _
        have e0 : W.cell? ⟨rb, 0, none⟩ = some (.int .i64 a) := by rw [← hW, ← hrb]; simp [go_sem]
        have e1 : W.cell? ⟨rb, 1, none⟩ = some (.int .i64 z) := by rw [← hW, ← hrb]; simp [go_sem]
        rw [hrb]
        have KW := Lib.hid (thru K7.out hkW)
        have HE := Lib.hid (fun w' (j : Below W.heap.size W w') => (⟨(j.cell (p := ⟨rb, 0, none⟩) (block_lt_of_cell e0)).trans e0, (j.cell (p := ⟨rb, 1, none⟩) (block_lt_of_cell e1)).trans e1⟩ : w'.cell? ⟨rb, 0, none⟩ = some (.int .i64 a) ∧ w'.cell? ⟨rb, 1, none⟩ = some (.int .i64 z)))
        have hmo := bandL_more (fs := fs.take kk) (gs := fs) (fun f hf => List.mem_of_mem_take hf) a z
        have hmr := bandR_more (fs := fs.take kk) (gs := fs) (fun f hf => List.mem_of_mem_take hf) a z
        have HB1 := Lib.hid (fun w' (j : Below W.heap.size W w') => hO.band w' B1 p1 fs a z (hO.keep _ _ _ _ _ (hO.keep _ _ _ _ _ P1.out hkW) j) HH.out.2.2.2.1 HH.out.2.2.2.2.2.1 HH.out.2.2.2.2.2.2)
        have HB2 := Lib.hid (fun w' (j : Below W.heap.size W w') => hO.band w' B2 p2 (fs.take kk) a z (hO.keep _ _ _ _ _ (hO.keep _ _ _ _ _ P2.out hkW) j) (List.all_eq_true.2 fun f hf => List.all_eq_true.1 HH.out.2.2.2.1 f (List.mem_of_mem_take hf)) HH.out.2.2.2.2.2.1 HH.out.2.2.2.2.2.2)
        obtain ⟨l1, hl1⟩ : ∃ v, bandL fs a z = v := ⟨_, rfl⟩
        obtain ⟨r1, hr1⟩ : ∃ v, bandR fs a z = v := ⟨_, rfl⟩
        obtain ⟨l2, hl2⟩ : ∃ v, bandL (fs.take kk) a z = v := ⟨_, rfl⟩
        obtain ⟨r2, hr2⟩ : ∃ v, bandR (fs.take kk) a z = v := ⟨_, rfl⟩
        rw [hl1, hr1] at HB1
        rw [hl2, hr2] at HB2
        rw [hl1, hl2] at hmo
        rw [hr1, hr2] at hmr
        clear hW hkW hrb e0 e1 hl1 hr1 hl2 hr2
        refine Told.wp_region_told [.val (.pointer (some p1)), .val (.agg #[.int .i64 a, .int .i64 z]), .val (.agg #[.int .i64 l1, .int .i64 r1]), .val (.pointer (some p2)), .val (.agg #[.int .i64 a, .int .i64 z]), .val (.agg #[.int .i64 l2, .int .i64 r2]), .box (.cells #[.int .i64 0, .int .i64 0] 40), .box (.cells #[.int .i64 0, .int .i64 0] 40)] (by kernel_rfl) (by kernel_rfl) (by kernel_rfl) ?_ ?_
        · simp only [Told.fill, Told.Leave.value]
          refine ⟨?_, ?_, ?_, ?_, ?_, ?_, ?_, ?_, trivial⟩
          · intro gg w' hw hk
            go_simp
            exact ⟨rfl, rfl⟩
          · intro gg w' hw hk
            have q0 := (HE.out w' hw).1
            have q1 := (HE.out w' hw).2
            go_simp
            exact ⟨rfl, rfl⟩
          · intro gg w' hw hk
            go_simp
            exact Told.stays_call (HB1.out w' hw)
          · intro gg w' hw hk
            go_simp
            exact ⟨rfl, rfl⟩
          · intro gg w' hw hk
            have q0 := (HE.out w' hw).1
            have q1 := (HE.out w' hw).2
            go_simp
            exact ⟨rfl, rfl⟩
          · intro gg w' hw hk
            go_simp
            exact Told.stays_call (HB2.out w' hw)
          · intro gg w' hw hk
            go_simp
          · intro gg w' hw hk
            go_simp
        intro gg w8 k8 hbox hap
        obtain ⟨g8, h8⟩ := hbox 6 _ _ rfl rfl
        obtain ⟨g9, h9⟩ := hbox 7 _ _ rfl rfl
        have hne := hap 6 7 _ _ _ _ (by decide) rfl rfl rfl rfl
        clear hbox hap
        simp only [Told.fill, Told.Leave.value, List.length_cons, List.length_nil, List.drop_succ_cons, List.drop_zero]
        generalize gg 6 = r at g8 h8 hne ⊢
        generalize gg 7 = s at g9 h9 hne ⊢
        obtain ⟨a0, a1, f0, f1⟩ := two_at h8
        obtain ⟨b0, b1, d0, d1⟩ := two_at h9
        have K8 := Lib.hid (⟨thru KW.out k8, by have := KW.out.size; omega, by have := KW.out.size; omega⟩ : Below w.heap.size w w8 ∧ w.heap.size ≤ r ∧ w.heap.size ≤ s)
        have hge : ¬ l1 < l2 := by omega
        have hle : ¬ r2 < r1 := by omega
        clear h8 h9 k8
        go_simp
        go_wp2_with fail
        go_ret
        exact ⟨rfl, (((K8.out.1.setCell (p := ⟨r, 0, none⟩) K8.out.2.1 _).setCell (p := ⟨r, 1, none⟩) K8.out.2.1 _).setCell (p := ⟨s, 0, none⟩) K8.out.2.2 _).setCell (p := ⟨s, 1, none⟩) K8.out.2.2 _⟩

theorem order_any (hO : ListOk L) (A : Option Addr) (n c : Nat) (fs : List Fl) (u a z : Int) (hu : 0 ≤ u ∧ u ≤ 255) (w : World) (hn : n = fs.length) (hm : n ≤ 9223372036854775807) (hc : n ≤ c) (hnil : A = none → c = 0) (hx : Floats w w.heap.size A fs) :
    Calls Try.prog 5 #[.slice A n c, .int .u8 u, .int .i64 a, .int .i64 z] w fun e w' => e = .returned (.bool true) ∧ Below w.heap.size w w' := by
  by_cases h : (fs.all nearF && decide ((n : Int) ≤ 30)) = true
  · cases hs : [a, z, 0, 0].all inS
    · exact order_far hO A n c fs u a z w hn hm hx h hs
    · simp only [Bool.and_eq_true, decide_eq_true_eq] at h
      exact order_yes hO A n c fs u a z hu w hn hc hnil hx h.1 (by omega) hs
  · exact order_no hO A n c fs u a z w hn hm hx (by simpa using h)
end

end Go.Proofs.Ytdofmpmgcpobfaa.Shelf
