/- The law's begin: a tree and a space, or none. -/
import Derived.Test.YtfomhdhiibcdfaaGreatPart29
namespace Go.Proofs.YtfomhdhiibcdfaaGreat.Ahead
open Go.RowKit Go.Sort Go.Proofs.YtfomhdhiibcdfaaGreat.More Go.Proofs.YtfomhdhiibcdfaaGreat.Record Go.Proofs.YtfomhdhiibcdfaaGreat.Script Go.Proofs.YtfomhdhiibcdfaaGreat.Tree Go.Proofs.YtfomhdhiibcdfaaGreat.Shelf Go.Proofs.YtfomhdhiibcdfaaGreat.Space Go.Proofs.YtfomhdhiibcdfaaGreat.Spot
set_option linter.unusedVariables false
set_option linter.unusedSimpArgs false

def in28 (n : Int) : Bool := decide (-268435456 ≤ n) && decide (n ≤ 268435456)
theorem in28_iff {n : Int} : in28 n = true ↔ -268435456 ≤ n ∧ n ≤ 268435456 := by unfold in28; simp
theorem in28_50 {xs : List Int} (h : xs.all in28 = true) : xs.all in50 = true := by
  rw [List.all_eq_true] at h ⊢
  intro x hx
  have := in28_iff.1 (h x hx)
  exact in50_iff.2 (by omega)
theorem all28_out (xs : List Int) (k : Nat) (h : k < xs.length) (y : Int) (hy : y = xs.getD k 0) (hb : in28 y = false) : xs.all in28 = false := by
  rw [List.all_eq_false]
  refine ⟨y, ?_, by rw [hb]; simp⟩
  rw [hy]; simp [List.getD, h]
abbrev fromV (y : Int) (A : Option Addr) (n c : Nat) (sp l r : Bool) : Value := .agg #[.int .i64 y, .slice A n c, .bool sp, .bool l, .bool r]

set_option maxRecDepth 100000 in
set_option maxHeartbeats 800000 in
theorem hbeg_no0 (AL : Option Addr) (nL cL : Nat) (bs : List Bx) (AF : Option Addr) (nF cF : Nat) (fs : List Fl) (y : Int) (A : Option Addr) (n c : Nat) (ms : List Int) (sp l r : Bool) (a e : Int) (w : World) (hnF : nF = fs.length) (hmF : nF ≤ 9223372036854775807) (hF : Floats w w.heap.size AF fs) (hn : n = ms.length) (hM : Nums w w.heap.size A ms)
    (hC : ∀ w', Below w.heap.size w w' → Calls Tryz.prog 13 #[.slice AL nL cL] w' fun r w'' => r = .returned (.tuple #[.int .i64 a, .int .i64 e]) ∧ Below w'.heap.size w' w'')  (h0 : ¬ (e = 0)) :
    Calls Tryz.prog 4 #[.slice AL nL cL, .slice AF nF cF, fromV y A n c sp l r] w fun r w' => r = .returned (.tuple #[.pointer none, .pointer none]) ∧ Below w.heap.size w w' := by
  have hb0 : (e != 0) = true := by simp; omega
  have HC := Lib.hid hC
  have HSi := HC
  have z0 : Lies (w.alloc (.cells #[.int .i64 y, .slice A n c, .bool sp, .bool l, .bool r] 26)) w.heap.size [.int .i64 y, .slice A n c, .bool sp, .bool l, .bool r] := Lies.new w _ _
  have c0 : (w.alloc (.cells #[.int .i64 y, .slice A n c, .bool sp, .bool l, .bool r] 26)).cell? ⟨w.heap.size, 0, none⟩ = some (.int .i64 y) := z0.at' 0
  clear hC hM hF hn hnF h0
  go_enter Tryz.func4, Tryz.ntmps4
  go_wp2_with (first
    | (go_at_call 13; refine (HC.out _ (ba1 w _)).mono ?_; rintro r1 w1 ⟨rfl, k1⟩; have K1 := Lib.hid (thru (ba1 w _) k1); have z1 := z0.below (by simp) k1; clear k1 c0; have c0 : w1.cell? ⟨w.heap.size, 0, none⟩ = some (.int .i64 y) := z1.at' 0; have c1 : w1.cell? ⟨w.heap.size, 1, none⟩ = some (.slice A n c) := z1.at' 1)
    | (go_at_call 14; refine (HSi.out w1 K1.out).mono ?_; rintro r2 w2 ⟨rfl, k2⟩; have K2 := Lib.hid (thru K1.out k2); have z2 := z1.below (by simp) k2; clear k2 c0 c1; have c0 : w2.cell? ⟨w.heap.size, 0, none⟩ = some (.int .i64 y) := z2.at' 0; have c1 : w2.cell? ⟨w.heap.size, 1, none⟩ = some (.slice A n c) := z2.at' 1))
  exact bodyPost_ret (v := .tuple #[.pointer none, .pointer none]) (by simp [results, Tryz.results4, go_sem]) rfl ⟨rfl, K1.out⟩

set_option maxRecDepth 100000 in
set_option maxHeartbeats 800000 in
theorem hbeg_no1 (AL : Option Addr) (nL cL : Nat) (bs : List Bx) (AF : Option Addr) (nF cF : Nat) (fs : List Fl) (y : Int) (A : Option Addr) (n c : Nat) (ms : List Int) (sp l r : Bool) (a e : Int) (w : World) (hnF : nF = fs.length) (hmF : nF ≤ 9223372036854775807) (hF : Floats w w.heap.size AF fs) (hn : n = ms.length) (hM : Nums w w.heap.size A ms)
    (hC : ∀ w', Below w.heap.size w w' → Calls Tryz.prog 13 #[.slice AL nL cL] w' fun r w'' => r = .returned (.tuple #[.int .i64 a, .int .i64 e]) ∧ Below w'.heap.size w' w'') (h0 : e = 0) (h1 : ¬ (nL ≤ 60)) :
    Calls Tryz.prog 4 #[.slice AL nL cL, .slice AF nF cF, fromV y A n c sp l r] w fun r w' => r = .returned (.tuple #[.pointer none, .pointer none]) ∧ Below w.heap.size w w' := by
  have hb0 : (e != 0) = false := by simp; omega
  have hb1 : (60 : Int) < (nL : Int) := by omega
  have HC := Lib.hid hC
  have HSi := HC
  have z0 : Lies (w.alloc (.cells #[.int .i64 y, .slice A n c, .bool sp, .bool l, .bool r] 26)) w.heap.size [.int .i64 y, .slice A n c, .bool sp, .bool l, .bool r] := Lies.new w _ _
  have c0 : (w.alloc (.cells #[.int .i64 y, .slice A n c, .bool sp, .bool l, .bool r] 26)).cell? ⟨w.heap.size, 0, none⟩ = some (.int .i64 y) := z0.at' 0
  clear hC hM hF hn hnF h0 h1
  go_enter Tryz.func4, Tryz.ntmps4
  go_wp2_with (first
    | (go_at_call 13; refine (HC.out _ (ba1 w _)).mono ?_; rintro r1 w1 ⟨rfl, k1⟩; have K1 := Lib.hid (thru (ba1 w _) k1); have z1 := z0.below (by simp) k1; clear k1 c0; have c0 : w1.cell? ⟨w.heap.size, 0, none⟩ = some (.int .i64 y) := z1.at' 0; have c1 : w1.cell? ⟨w.heap.size, 1, none⟩ = some (.slice A n c) := z1.at' 1)
    | (go_at_call 14; refine (HSi.out w1 K1.out).mono ?_; rintro r2 w2 ⟨rfl, k2⟩; have K2 := Lib.hid (thru K1.out k2); have z2 := z1.below (by simp) k2; clear k2 c0 c1; have c0 : w2.cell? ⟨w.heap.size, 0, none⟩ = some (.int .i64 y) := z2.at' 0; have c1 : w2.cell? ⟨w.heap.size, 1, none⟩ = some (.slice A n c) := z2.at' 1))
  exact bodyPost_ret (v := .tuple #[.pointer none, .pointer none]) (by simp [results, Tryz.results4, go_sem]) rfl ⟨rfl, K1.out⟩

set_option maxRecDepth 100000 in
set_option maxHeartbeats 800000 in
theorem hbeg_no2 (AL : Option Addr) (nL cL : Nat) (bs : List Bx) (AF : Option Addr) (nF cF : Nat) (fs : List Fl) (y : Int) (A : Option Addr) (n c : Nat) (ms : List Int) (sp l r : Bool) (a e : Int) (w : World) (hnF : nF = fs.length) (hmF : nF ≤ 9223372036854775807) (hF : Floats w w.heap.size AF fs) (hn : n = ms.length) (hM : Nums w w.heap.size A ms)
    (hC : ∀ w', Below w.heap.size w w' → Calls Tryz.prog 13 #[.slice AL nL cL] w' fun r w'' => r = .returned (.tuple #[.int .i64 a, .int .i64 e]) ∧ Below w'.heap.size w' w'') (h0 : e = 0) (h1 : nL ≤ 60) (h2 : ¬ (nF ≤ 12)) :
    Calls Tryz.prog 4 #[.slice AL nL cL, .slice AF nF cF, fromV y A n c sp l r] w fun r w' => r = .returned (.tuple #[.pointer none, .pointer none]) ∧ Below w.heap.size w w' := by
  have hb0 : (e != 0) = false := by simp; omega
  have hb1 : ¬ (60 : Int) < (nL : Int) := by omega
  have hb2 : (12 : Int) < (nF : Int) := by omega
  have HC := Lib.hid hC
  have HSi := HC
  have z0 : Lies (w.alloc (.cells #[.int .i64 y, .slice A n c, .bool sp, .bool l, .bool r] 26)) w.heap.size [.int .i64 y, .slice A n c, .bool sp, .bool l, .bool r] := Lies.new w _ _
  have c0 : (w.alloc (.cells #[.int .i64 y, .slice A n c, .bool sp, .bool l, .bool r] 26)).cell? ⟨w.heap.size, 0, none⟩ = some (.int .i64 y) := z0.at' 0
  clear hC hM hF hn hnF h0 h1 h2
  go_enter Tryz.func4, Tryz.ntmps4
  go_wp2_with (first
    | (go_at_call 13; refine (HC.out _ (ba1 w _)).mono ?_; rintro r1 w1 ⟨rfl, k1⟩; have K1 := Lib.hid (thru (ba1 w _) k1); have z1 := z0.below (by simp) k1; clear k1 c0; have c0 : w1.cell? ⟨w.heap.size, 0, none⟩ = some (.int .i64 y) := z1.at' 0; have c1 : w1.cell? ⟨w.heap.size, 1, none⟩ = some (.slice A n c) := z1.at' 1)
    | (go_at_call 14; refine (HSi.out w1 K1.out).mono ?_; rintro r2 w2 ⟨rfl, k2⟩; have K2 := Lib.hid (thru K1.out k2); have z2 := z1.below (by simp) k2; clear k2 c0 c1; have c0 : w2.cell? ⟨w.heap.size, 0, none⟩ = some (.int .i64 y) := z2.at' 0; have c1 : w2.cell? ⟨w.heap.size, 1, none⟩ = some (.slice A n c) := z2.at' 1))
  exact bodyPost_ret (v := .tuple #[.pointer none, .pointer none]) (by simp [results, Tryz.results4, go_sem]) rfl ⟨rfl, K1.out⟩

set_option maxRecDepth 100000 in
set_option maxHeartbeats 800000 in
theorem hbeg_no3 (AL : Option Addr) (nL cL : Nat) (bs : List Bx) (AF : Option Addr) (nF cF : Nat) (fs : List Fl) (y : Int) (A : Option Addr) (n c : Nat) (ms : List Int) (sp l r : Bool) (a e : Int) (w : World) (hnF : nF = fs.length) (hmF : nF ≤ 9223372036854775807) (hF : Floats w w.heap.size AF fs) (hn : n = ms.length) (hM : Nums w w.heap.size A ms)
    (hC : ∀ w', Below w.heap.size w w' → Calls Tryz.prog 13 #[.slice AL nL cL] w' fun r w'' => r = .returned (.tuple #[.int .i64 a, .int .i64 e]) ∧ Below w'.heap.size w' w'') (h0 : e = 0) (h1 : nL ≤ 60) (h2 : nF ≤ 12) (h3 : ¬ (fs.all sideF = true)) :
    Calls Tryz.prog 4 #[.slice AL nL cL, .slice AF nF cF, fromV y A n c sp l r] w fun r w' => r = .returned (.tuple #[.pointer none, .pointer none]) ∧ Below w.heap.size w w' := by
  have hb0 : (e != 0) = false := by simp; omega
  have hb1 : ¬ (60 : Int) < (nL : Int) := by omega
  have hb2 : ¬ (12 : Int) < (nF : Int) := by omega
  have HC := Lib.hid hC
  have HSi := Lib.hid (fun w1 (k : Below w.heap.size w w1) => sides_is AF nF cF fs false w1 hnF (by omega) (hF.thru k) (by simpa using h3))
  have z0 : Lies (w.alloc (.cells #[.int .i64 y, .slice A n c, .bool sp, .bool l, .bool r] 26)) w.heap.size [.int .i64 y, .slice A n c, .bool sp, .bool l, .bool r] := Lies.new w _ _
  have c0 : (w.alloc (.cells #[.int .i64 y, .slice A n c, .bool sp, .bool l, .bool r] 26)).cell? ⟨w.heap.size, 0, none⟩ = some (.int .i64 y) := z0.at' 0
  clear hC hM hF hn hnF h0 h1 h2 h3
  go_enter Tryz.func4, Tryz.ntmps4
  go_wp2_with (first
    | (go_at_call 13; refine (HC.out _ (ba1 w _)).mono ?_; rintro r1 w1 ⟨rfl, k1⟩; have K1 := Lib.hid (thru (ba1 w _) k1); have z1 := z0.below (by simp) k1; clear k1 c0; have c0 : w1.cell? ⟨w.heap.size, 0, none⟩ = some (.int .i64 y) := z1.at' 0; have c1 : w1.cell? ⟨w.heap.size, 1, none⟩ = some (.slice A n c) := z1.at' 1)
    | (go_at_call 14; refine (HSi.out w1 K1.out).mono ?_; rintro r2 w2 ⟨rfl, k2⟩; have K2 := Lib.hid (thru K1.out k2); have z2 := z1.below (by simp) k2; clear k2 c0 c1; have c0 : w2.cell? ⟨w.heap.size, 0, none⟩ = some (.int .i64 y) := z2.at' 0; have c1 : w2.cell? ⟨w.heap.size, 1, none⟩ = some (.slice A n c) := z2.at' 1))
  exact bodyPost_ret (v := .tuple #[.pointer none, .pointer none]) (by simp [results, Tryz.results4, go_sem]) rfl ⟨rfl, K2.out⟩

set_option maxRecDepth 100000 in
set_option maxHeartbeats 800000 in
theorem hbeg_no4 (AL : Option Addr) (nL cL : Nat) (bs : List Bx) (AF : Option Addr) (nF cF : Nat) (fs : List Fl) (y : Int) (A : Option Addr) (n c : Nat) (ms : List Int) (sp l r : Bool) (a e : Int) (w : World) (hnF : nF = fs.length) (hmF : nF ≤ 9223372036854775807) (hF : Floats w w.heap.size AF fs) (hn : n = ms.length) (hM : Nums w w.heap.size A ms)
    (hC : ∀ w', Below w.heap.size w w' → Calls Tryz.prog 13 #[.slice AL nL cL] w' fun r w'' => r = .returned (.tuple #[.int .i64 a, .int .i64 e]) ∧ Below w'.heap.size w' w'') (h0 : e = 0) (h1 : nL ≤ 60) (h2 : nF ≤ 12) (h3 : fs.all sideF = true) (h4 : ¬ (y ≤ 1125899906842624)) :
    Calls Tryz.prog 4 #[.slice AL nL cL, .slice AF nF cF, fromV y A n c sp l r] w fun r w' => r = .returned (.tuple #[.pointer none, .pointer none]) ∧ Below w.heap.size w w' := by
  have hb0 : (e != 0) = false := by simp; omega
  have hb1 : ¬ (60 : Int) < (nL : Int) := by omega
  have hb2 : ¬ (12 : Int) < (nF : Int) := by omega
  have hb4 : (1125899906842624 : Int) < y := by omega
  have HC := Lib.hid hC
  have HSi := Lib.hid (fun w1 (k : Below w.heap.size w w1) => sides_is AF nF cF fs true w1 hnF (by omega) (hF.thru k) (by exact h3))
  have z0 : Lies (w.alloc (.cells #[.int .i64 y, .slice A n c, .bool sp, .bool l, .bool r] 26)) w.heap.size [.int .i64 y, .slice A n c, .bool sp, .bool l, .bool r] := Lies.new w _ _
  have c0 : (w.alloc (.cells #[.int .i64 y, .slice A n c, .bool sp, .bool l, .bool r] 26)).cell? ⟨w.heap.size, 0, none⟩ = some (.int .i64 y) := z0.at' 0
  clear hC hM hF hn hnF h0 h1 h2 h3 h4
  go_enter Tryz.func4, Tryz.ntmps4
  go_wp2_with (first
    | (go_at_call 13; refine (HC.out _ (ba1 w _)).mono ?_; rintro r1 w1 ⟨rfl, k1⟩; have K1 := Lib.hid (thru (ba1 w _) k1); have z1 := z0.below (by simp) k1; clear k1 c0; have c0 : w1.cell? ⟨w.heap.size, 0, none⟩ = some (.int .i64 y) := z1.at' 0; have c1 : w1.cell? ⟨w.heap.size, 1, none⟩ = some (.slice A n c) := z1.at' 1)
    | (go_at_call 14; refine (HSi.out w1 K1.out).mono ?_; rintro r2 w2 ⟨rfl, k2⟩; have K2 := Lib.hid (thru K1.out k2); have z2 := z1.below (by simp) k2; clear k2 c0 c1; have c0 : w2.cell? ⟨w.heap.size, 0, none⟩ = some (.int .i64 y) := z2.at' 0; have c1 : w2.cell? ⟨w.heap.size, 1, none⟩ = some (.slice A n c) := z2.at' 1))
  exact bodyPost_ret (v := .tuple #[.pointer none, .pointer none]) (by simp [results, Tryz.results4, go_sem]) rfl ⟨rfl, K2.out⟩

set_option maxRecDepth 100000 in
set_option maxHeartbeats 800000 in
theorem hbeg_no5 (AL : Option Addr) (nL cL : Nat) (bs : List Bx) (AF : Option Addr) (nF cF : Nat) (fs : List Fl) (y : Int) (A : Option Addr) (n c : Nat) (ms : List Int) (sp l r : Bool) (a e : Int) (w : World) (hnF : nF = fs.length) (hmF : nF ≤ 9223372036854775807) (hF : Floats w w.heap.size AF fs) (hn : n = ms.length) (hM : Nums w w.heap.size A ms)
    (hC : ∀ w', Below w.heap.size w w' → Calls Tryz.prog 13 #[.slice AL nL cL] w' fun r w'' => r = .returned (.tuple #[.int .i64 a, .int .i64 e]) ∧ Below w'.heap.size w' w'') (h0 : e = 0) (h1 : nL ≤ 60) (h2 : nF ≤ 12) (h3 : fs.all sideF = true) (h4 : y ≤ 1125899906842624) (h5 : ¬ (-1125899906842624 ≤ y)) :
    Calls Tryz.prog 4 #[.slice AL nL cL, .slice AF nF cF, fromV y A n c sp l r] w fun r w' => r = .returned (.tuple #[.pointer none, .pointer none]) ∧ Below w.heap.size w w' := by
  have hb0 : (e != 0) = false := by simp; omega
  have hb1 : ¬ (60 : Int) < (nL : Int) := by omega
  have hb2 : ¬ (12 : Int) < (nF : Int) := by omega
  have hb4 : ¬ (1125899906842624 : Int) < y := by omega
  have hb5 : y < (-1125899906842624 : Int) := by omega
  have HC := Lib.hid hC
  have HSi := Lib.hid (fun w1 (k : Below w.heap.size w w1) => sides_is AF nF cF fs true w1 hnF (by omega) (hF.thru k) (by exact h3))
  have z0 : Lies (w.alloc (.cells #[.int .i64 y, .slice A n c, .bool sp, .bool l, .bool r] 26)) w.heap.size [.int .i64 y, .slice A n c, .bool sp, .bool l, .bool r] := Lies.new w _ _
  have c0 : (w.alloc (.cells #[.int .i64 y, .slice A n c, .bool sp, .bool l, .bool r] 26)).cell? ⟨w.heap.size, 0, none⟩ = some (.int .i64 y) := z0.at' 0
  clear hC hM hF hn hnF h0 h1 h2 h3 h4 h5
  go_enter Tryz.func4, Tryz.ntmps4
  go_wp2_with (first
    | (go_at_call 13; refine (HC.out _ (ba1 w _)).mono ?_; rintro r1 w1 ⟨rfl, k1⟩; have K1 := Lib.hid (thru (ba1 w _) k1); have z1 := z0.below (by simp) k1; clear k1 c0; have c0 : w1.cell? ⟨w.heap.size, 0, none⟩ = some (.int .i64 y) := z1.at' 0; have c1 : w1.cell? ⟨w.heap.size, 1, none⟩ = some (.slice A n c) := z1.at' 1)
    | (go_at_call 14; refine (HSi.out w1 K1.out).mono ?_; rintro r2 w2 ⟨rfl, k2⟩; have K2 := Lib.hid (thru K1.out k2); have z2 := z1.below (by simp) k2; clear k2 c0 c1; have c0 : w2.cell? ⟨w.heap.size, 0, none⟩ = some (.int .i64 y) := z2.at' 0; have c1 : w2.cell? ⟨w.heap.size, 1, none⟩ = some (.slice A n c) := z2.at' 1))
  exact bodyPost_ret (v := .tuple #[.pointer none, .pointer none]) (by simp [results, Tryz.results4, go_sem]) rfl ⟨rfl, K2.out⟩

set_option maxRecDepth 100000 in
set_option maxHeartbeats 800000 in
theorem hbeg_no6 (AL : Option Addr) (nL cL : Nat) (bs : List Bx) (AF : Option Addr) (nF cF : Nat) (fs : List Fl) (y : Int) (A : Option Addr) (n c : Nat) (ms : List Int) (sp l r : Bool) (a e : Int) (w : World) (hnF : nF = fs.length) (hmF : nF ≤ 9223372036854775807) (hF : Floats w w.heap.size AF fs) (hn : n = ms.length) (hM : Nums w w.heap.size A ms)
    (hC : ∀ w', Below w.heap.size w w' → Calls Tryz.prog 13 #[.slice AL nL cL] w' fun r w'' => r = .returned (.tuple #[.int .i64 a, .int .i64 e]) ∧ Below w'.heap.size w' w'') (h0 : e = 0) (h1 : nL ≤ 60) (h2 : nF ≤ 12) (h3 : fs.all sideF = true) (h4 : y ≤ 1125899906842624) (h5 : -1125899906842624 ≤ y) (h6 : ¬ (n ≤ 20)) :
    Calls Tryz.prog 4 #[.slice AL nL cL, .slice AF nF cF, fromV y A n c sp l r] w fun r w' => r = .returned (.tuple #[.pointer none, .pointer none]) ∧ Below w.heap.size w w' := by
  have hb0 : (e != 0) = false := by simp; omega
  have hb1 : ¬ (60 : Int) < (nL : Int) := by omega
  have hb2 : ¬ (12 : Int) < (nF : Int) := by omega
  have hb4 : ¬ (1125899906842624 : Int) < y := by omega
  have hb5 : ¬ y < (-1125899906842624 : Int) := by omega
  have hb6 : (20 : Int) < (n : Int) := by omega
  have HC := Lib.hid hC
  have HSi := Lib.hid (fun w1 (k : Below w.heap.size w w1) => sides_is AF nF cF fs true w1 hnF (by omega) (hF.thru k) (by exact h3))
  have z0 : Lies (w.alloc (.cells #[.int .i64 y, .slice A n c, .bool sp, .bool l, .bool r] 26)) w.heap.size [.int .i64 y, .slice A n c, .bool sp, .bool l, .bool r] := Lies.new w _ _
  have c0 : (w.alloc (.cells #[.int .i64 y, .slice A n c, .bool sp, .bool l, .bool r] 26)).cell? ⟨w.heap.size, 0, none⟩ = some (.int .i64 y) := z0.at' 0
  clear hC hM hF hn hnF h0 h1 h2 h3 h4 h5 h6
  go_enter Tryz.func4, Tryz.ntmps4
  go_wp2_with (first
    | (go_at_call 13; refine (HC.out _ (ba1 w _)).mono ?_; rintro r1 w1 ⟨rfl, k1⟩; have K1 := Lib.hid (thru (ba1 w _) k1); have z1 := z0.below (by simp) k1; clear k1 c0; have c0 : w1.cell? ⟨w.heap.size, 0, none⟩ = some (.int .i64 y) := z1.at' 0; have c1 : w1.cell? ⟨w.heap.size, 1, none⟩ = some (.slice A n c) := z1.at' 1)
    | (go_at_call 14; refine (HSi.out w1 K1.out).mono ?_; rintro r2 w2 ⟨rfl, k2⟩; have K2 := Lib.hid (thru K1.out k2); have z2 := z1.below (by simp) k2; clear k2 c0 c1; have c0 : w2.cell? ⟨w.heap.size, 0, none⟩ = some (.int .i64 y) := z2.at' 0; have c1 : w2.cell? ⟨w.heap.size, 1, none⟩ = some (.slice A n c) := z2.at' 1))
  exact bodyPost_ret (v := .tuple #[.pointer none, .pointer none]) (by simp [results, Tryz.results4, go_sem]) rfl ⟨rfl, K2.out⟩

theorem hbeg_few (AL : Option Addr) (nL cL : Nat) (bs : List Bx) (AF : Option Addr) (nF cF : Nat) (fs : List Fl) (y : Int) (A : Option Addr) (n c : Nat) (ms : List Int) (sp l r : Bool) (a e : Int) (w : World) (hnF : nF = fs.length) (hmF : nF ≤ 9223372036854775807) (hF : Floats w w.heap.size AF fs) (hn : n = ms.length) (hM : Nums w w.heap.size A ms)
    (hC : ∀ w', Below w.heap.size w w' → Calls Tryz.prog 13 #[.slice AL nL cL] w' fun r w'' => r = .returned (.tuple #[.int .i64 a, .int .i64 e]) ∧ Below w'.heap.size w' w'') (h : ¬ (e = 0 ∧ nL ≤ 60 ∧ nF ≤ 12 ∧ fs.all sideF = true ∧ y ≤ 1125899906842624 ∧ -1125899906842624 ≤ y ∧ n ≤ 20)) :
    Calls Tryz.prog 4 #[.slice AL nL cL, .slice AF nF cF, fromV y A n c sp l r] w fun r w' => r = .returned (.tuple #[.pointer none, .pointer none]) ∧ Below w.heap.size w w' := by
  by_cases h0 : e = 0
  case neg => exact hbeg_no0 AL nL cL bs AF nF cF fs y A n c ms sp l r a e w hnF hmF hF hn hM hC h0
  by_cases h1 : nL ≤ 60
  case neg => exact hbeg_no1 AL nL cL bs AF nF cF fs y A n c ms sp l r a e w hnF hmF hF hn hM hC h0 h1
  by_cases h2 : nF ≤ 12
  case neg => exact hbeg_no2 AL nL cL bs AF nF cF fs y A n c ms sp l r a e w hnF hmF hF hn hM hC h0 h1 h2
  by_cases h3 : fs.all sideF = true
  case neg => exact hbeg_no3 AL nL cL bs AF nF cF fs y A n c ms sp l r a e w hnF hmF hF hn hM hC h0 h1 h2 h3
  by_cases h4 : y ≤ 1125899906842624
  case neg => exact hbeg_no4 AL nL cL bs AF nF cF fs y A n c ms sp l r a e w hnF hmF hF hn hM hC h0 h1 h2 h3 h4
  by_cases h5 : -1125899906842624 ≤ y
  case neg => exact hbeg_no5 AL nL cL bs AF nF cF fs y A n c ms sp l r a e w hnF hmF hF hn hM hC h0 h1 h2 h3 h4 h5
  by_cases h6 : n ≤ 20
  case neg => exact hbeg_no6 AL nL cL bs AF nF cF fs y A n c ms sp l r a e w hnF hmF hF hn hM hC h0 h1 h2 h3 h4 h5 h6
  exact absurd ⟨h0, h1, h2, h3, h4, h5, h6⟩ h

set_option maxRecDepth 100000 in
set_option maxHeartbeats 1600000 in
theorem hbeg_marg (AL : Option Addr) (nL cL : Nat) (bs : List Bx) (AF : Option Addr) (nF cF : Nat) (fs : List Fl) (y : Int) (A : Option Addr) (n c : Nat) (ms : List Int) (sp l r : Bool) (a e : Int) (w : World) (hnF : nF = fs.length) (hmF : nF ≤ 9223372036854775807) (hF : Floats w w.heap.size AF fs) (hn : n = ms.length) (hM : Nums w w.heap.size A ms)
    (hC : ∀ w', Below w.heap.size w w' → Calls Tryz.prog 13 #[.slice AL nL cL] w' fun r w'' => r = .returned (.tuple #[.int .i64 a, .int .i64 e]) ∧ Below w'.heap.size w' w'') (h0 : e = 0) (h1 : nL ≤ 60) (h2 : nF ≤ 12) (h3 : fs.all sideF = true) (h4 : y ≤ 1125899906842624) (h5 : -1125899906842624 ≤ y) (h6 : n ≤ 20) (hvm : ms.all in28 = false) :
    Calls Tryz.prog 4 #[.slice AL nL cL, .slice AF nF cF, fromV y A n c sp l r] w fun r w' => r = .returned (.tuple #[.pointer none, .pointer none]) ∧ Below w.heap.size w w' := by
  have hb0 : (e != 0) = false := by simp; omega
  have hb1 : ¬ (60 : Int) < (nL : Int) := by omega
  have hb2 : ¬ (12 : Int) < (nF : Int) := by omega
  have hb4 : ¬ (1125899906842624 : Int) < y := by omega
  have hb5 : ¬ y < (-1125899906842624 : Int) := by omega
  have hb6 : ¬ (20 : Int) < (n : Int) := by omega
  have HC := Lib.hid hC
  have HSi := Lib.hid (fun w1 (k : Below w.heap.size w w1) => sides_is AF nF cF fs true w1 hnF (by omega) (hF.thru k) h3)
  have HM := Lib.hid hM
  have HF := Lib.hid hF
  have HN := Lib.hid (⟨hn, h6, hnF, h2⟩ : n = ms.length ∧ n ≤ 20 ∧ nF = fs.length ∧ nF ≤ 12)
  have HVm := Lib.hid hvm
  have z0 : Lies (w.alloc (.cells #[.int .i64 y, .slice A n c, .bool sp, .bool l, .bool r] 26)) w.heap.size [.int .i64 y, .slice A n c, .bool sp, .bool l, .bool r] := Lies.new w _ _
  have c0 : (w.alloc (.cells #[.int .i64 y, .slice A n c, .bool sp, .bool l, .bool r] 26)).cell? ⟨w.heap.size, 0, none⟩ = some (.int .i64 y) := z0.at' 0
  clear hC hM hF hn hnF h0 h1 h2 h3 h4 h5 h6 hvm
  go_enter Tryz.func4, Tryz.ntmps4
  go_upto_region 5 with (first
    | (go_at_call 13; refine (HC.out _ (ba1 w _)).mono ?_; rintro r1 w1 ⟨rfl, k1⟩; have K1 := Lib.hid (thru (ba1 w _) k1); have z1 := z0.below (by simp) k1; clear k1 c0; have c0 : w1.cell? ⟨w.heap.size, 0, none⟩ = some (.int .i64 y) := z1.at' 0; have c1 : w1.cell? ⟨w.heap.size, 1, none⟩ = some (.slice A n c) := z1.at' 1)
    | (go_at_call 14; refine (HSi.out w1 K1.out).mono ?_; rintro r2 w2 ⟨rfl, k2⟩; have K2 := Lib.hid (thru K1.out k2); have z2 := z1.below (by simp) k2; clear k2 c0 c1; have c0 : w2.cell? ⟨w.heap.size, 0, none⟩ = some (.int .i64 y) := z2.at' 0; have c1 : w2.cell? ⟨w.heap.size, 1, none⟩ = some (.slice A n c) := z2.at' 1))
  clear c0 c1 z0 z1 z2
  go_loopw [55] (fun i wr => ∃ k : Nat, k ≤ n ∧ i = .int .i64 (k : Int) ∧ Hid ((ms.take k).all in28 = true ∧ Below w.heap.size w wr)) (fun i _ => n - (intOf i).toNat)
  case atStart => exact ⟨0, Nat.zero_le _, rfl, Lib.hid ⟨rfl, K2.out⟩⟩
  case round =>
    obtain ⟨k, hk, rfl, H⟩ := hrel
    by_cases hlt : k < n
    · have hki : (k : Int) < (n : Int) := by omega
      have hk0 : ¬ (k : Int) < 0 := by omega
      have hwk : IntKind.i64.wrap ((k : Int) + 1) = (k : Int) + 1 := by have := HN.out; exact IntWalk.i64_in _ (by omega)
      obtain ⟨ad, hA, -, hcx⟩ := (HM.out.thru H.out.2) k (by rw [← HN.out.1]; exact hlt)
      subst hA
      obtain ⟨z, hz⟩ : ∃ z, z = ms.getD k 0 := ⟨_, rfl⟩
      rw [← hz] at hcx
      have HZz := Lib.hid hz
      clear hz
      cases hin : in28 z with
      | true =>
        have hb := in28_iff.1 hin
        have hz1 : ¬ (268435456 : Int) < z := by omega
        have hz2 : ¬ z < (-268435456 : Int) := by omega
        have HI := Lib.hid hin
        clear hin hb
        go_wp2_with fail
        go_roundw
        case rel => exact ⟨k + 1, by omega, by go_num, Lib.hid ⟨by rw [take_next ms k (by rw [← HN.out.1]; exact hlt), ← HZz.out, List.all_append, H.out.1]; simp [HI.out], H.out.2⟩⟩
        case measure => simp [intOf]; omega
      | false =>
        have hb : ¬ (-268435456 ≤ z ∧ z ≤ 268435456) := fun q => by rw [in28_iff.2 q] at hin; cases hin
        by_cases hz1 : (268435456 : Int) < z
        · clear hin hb
          go_wp2_with fail
          exact bodyPost_ret (v := .tuple #[.pointer none, .pointer none]) (by simp [results, Tryz.results4, go_sem]) rfl ⟨rfl, H.out.2⟩
        · have hz2 : z < (-268435456 : Int) := by omega
          clear hin hb
          go_wp2_with fail
          exact bodyPost_ret (v := .tuple #[.pointer none, .pointer none]) (by simp [results, Tryz.results4, go_sem]) rfl ⟨rfl, H.out.2⟩
    · obtain rfl : k = n := by omega
      have hall := H.out.1
      rw [List.take_of_length_le (by rw [← HN.out.1]; exact Nat.le_refl _)] at hall
      rw [HVm.out] at hall
      cases hall

set_option maxRecDepth 100000 in
set_option maxHeartbeats 1600000 in
theorem hbeg_far (AL : Option Addr) (nL cL : Nat) (bs : List Bx) (AF : Option Addr) (nF cF : Nat) (fs : List Fl) (y : Int) (A : Option Addr) (n c : Nat) (ms : List Int) (sp l r : Bool) (a e : Int) (w : World) (hnF : nF = fs.length) (hmF : nF ≤ 9223372036854775807) (hF : Floats w w.heap.size AF fs) (hn : n = ms.length) (hM : Nums w w.heap.size A ms)
    (hC : ∀ w', Below w.heap.size w w' → Calls Tryz.prog 13 #[.slice AL nL cL] w' fun r w'' => r = .returned (.tuple #[.int .i64 a, .int .i64 e]) ∧ Below w'.heap.size w' w'') (h0 : e = 0) (h1 : nL ≤ 60) (h2 : nF ≤ 12) (h3 : fs.all sideF = true) (h4 : y ≤ 1125899906842624) (h5 : -1125899906842624 ≤ y) (h6 : n ≤ 20) (hvm : ms.all in28 = true) (hvf : fs.all nearF = false) :
    Calls Tryz.prog 4 #[.slice AL nL cL, .slice AF nF cF, fromV y A n c sp l r] w fun r w' => r = .returned (.tuple #[.pointer none, .pointer none]) ∧ Below w.heap.size w w' := by
  have hb0 : (e != 0) = false := by simp; omega
  have hb1 : ¬ (60 : Int) < (nL : Int) := by omega
  have hb2 : ¬ (12 : Int) < (nF : Int) := by omega
  have hb4 : ¬ (1125899906842624 : Int) < y := by omega
  have hb5 : ¬ y < (-1125899906842624 : Int) := by omega
  have hb6 : ¬ (20 : Int) < (n : Int) := by omega
  have HC := Lib.hid hC
  have HSi := Lib.hid (fun w1 (k : Below w.heap.size w w1) => sides_is AF nF cF fs true w1 hnF (by omega) (hF.thru k) h3)
  have HM := Lib.hid hM
  have HF := Lib.hid hF
  have HN := Lib.hid (⟨hn, h6, hnF, h2⟩ : n = ms.length ∧ n ≤ 20 ∧ nF = fs.length ∧ nF ≤ 12)
  have HVm := Lib.hid hvm
  have HVf := Lib.hid hvf
  have z0 : Lies (w.alloc (.cells #[.int .i64 y, .slice A n c, .bool sp, .bool l, .bool r] 26)) w.heap.size [.int .i64 y, .slice A n c, .bool sp, .bool l, .bool r] := Lies.new w _ _
  have c0 : (w.alloc (.cells #[.int .i64 y, .slice A n c, .bool sp, .bool l, .bool r] 26)).cell? ⟨w.heap.size, 0, none⟩ = some (.int .i64 y) := z0.at' 0
  clear hC hM hF hn hnF h0 h1 h2 h3 h4 h5 h6 hvm hvf
  go_enter Tryz.func4, Tryz.ntmps4
  go_upto_region 5 with (first
    | (go_at_call 13; refine (HC.out _ (ba1 w _)).mono ?_; rintro r1 w1 ⟨rfl, k1⟩; have K1 := Lib.hid (thru (ba1 w _) k1); have z1 := z0.below (by simp) k1; clear k1 c0; have c0 : w1.cell? ⟨w.heap.size, 0, none⟩ = some (.int .i64 y) := z1.at' 0; have c1 : w1.cell? ⟨w.heap.size, 1, none⟩ = some (.slice A n c) := z1.at' 1)
    | (go_at_call 14; refine (HSi.out w1 K1.out).mono ?_; rintro r2 w2 ⟨rfl, k2⟩; have K2 := Lib.hid (thru K1.out k2); have z2 := z1.below (by simp) k2; clear k2 c0 c1; have c0 : w2.cell? ⟨w.heap.size, 0, none⟩ = some (.int .i64 y) := z2.at' 0; have c1 : w2.cell? ⟨w.heap.size, 1, none⟩ = some (.slice A n c) := z2.at' 1))
  clear c0 c1 z0 z1 z2
  go_loopw [55] (fun i wr => ∃ k : Nat, k ≤ n ∧ i = .int .i64 (k : Int) ∧ Hid ((ms.take k).all in28 = true ∧ Below w.heap.size w wr)) (fun i _ => n - (intOf i).toNat)
  case atStart => exact ⟨0, Nat.zero_le _, rfl, Lib.hid ⟨rfl, K2.out⟩⟩
  case round =>
    obtain ⟨k, hk, rfl, H⟩ := hrel
    by_cases hlt : k < n
    · have hki : (k : Int) < (n : Int) := by omega
      have hk0 : ¬ (k : Int) < 0 := by omega
      have hwk : IntKind.i64.wrap ((k : Int) + 1) = (k : Int) + 1 := by have := HN.out; exact IntWalk.i64_in _ (by omega)
      obtain ⟨ad, hA, -, hcx⟩ := (HM.out.thru H.out.2) k (by rw [← HN.out.1]; exact hlt)
      subst hA
      obtain ⟨z, hz⟩ : ∃ z, z = ms.getD k 0 := ⟨_, rfl⟩
      rw [← hz] at hcx
      have HZz := Lib.hid hz
      clear hz
      cases hin : in28 z with
      | true =>
        have hb := in28_iff.1 hin
        have hz1 : ¬ (268435456 : Int) < z := by omega
        have hz2 : ¬ z < (-268435456 : Int) := by omega
        have HI := Lib.hid hin
        clear hin hb
        go_wp2_with fail
        go_roundw
        case rel => exact ⟨k + 1, by omega, by go_num, Lib.hid ⟨by rw [take_next ms k (by rw [← HN.out.1]; exact hlt), ← HZz.out, List.all_append, H.out.1]; simp [HI.out], H.out.2⟩⟩
        case measure => simp [intOf]; omega
      | false =>
        exact absurd (all28_out ms k (by rw [← HN.out.1]; exact hlt) z HZz.out hin) (by rw [HVm.out]; simp)
    · obtain rfl : k = n := by omega
      have hall := H.out.1
      rw [List.take_of_length_le (by rw [← HN.out.1]; exact Nat.le_refl _)] at hall
      clear hall
      obtain ⟨wo, hwo⟩ : ∃ x, x = wr := ⟨_, rfl⟩
      subst hwo
      go_wp2_with fail
      go_loopw [68] (fun i wr => ∃ q : Nat, q ≤ nF ∧ i = .int .i64 (q : Int) ∧ Hid ((fs.take q).all nearF = true ∧ Below w.heap.size w wr)) (fun i _ => nF - (intOf i).toNat)
      case atStart => exact ⟨0, Nat.zero_le _, rfl, Lib.hid ⟨rfl, H.out.2⟩⟩
      case round =>
        obtain ⟨q, hq, rfl, H2⟩ := hrel
        by_cases hlq : q < nF
        · have hqi : (q : Int) < (nF : Int) := by omega
          have hq0 : ¬ (q : Int) < 0 := by omega
          have hwq : IntKind.i64.wrap ((q : Int) + 1) = (q : Int) + 1 := by have := HN.out; exact IntWalk.i64_in _ (by omega)
          obtain ⟨x, hx⟩ : ∃ x, fs[q]? = some x := ⟨_, List.getElem?_eq_getElem (by have := HN.out; omega)⟩
          obtain ⟨ad, rfl, -, d0, d1, d2, d3, d4⟩ := (HF.out.thru H2.out.2) q x hx
          have HXx := Lib.hid hx
          obtain ⟨v, hv⟩ : ∃ v, nearF x = v := ⟨_, rfl⟩
          have HVv := Lib.hid hv
          clear hx hv
          obtain ⟨xs, xl, xt, xr, xb⟩ := x
          go_upto_region 13 with fail
          generalize hW1 : World.alloc wr _ = W1
          obtain ⟨b13, hb13⟩ : ∃ b, wr.heap.size = b := ⟨_, rfl⟩
          have z13 : Lies W1 b13 [.int .i64 xs, .int .i64 xl, .int .i64 xt, .int .i64 xr, .int .i64 xb] := by rw [← hW1, ← hb13]; exact Lies.new wr _ _
          have k1 : Below wr.heap.size wr W1 := by rw [← hW1]; exact ba1 _ _
          try rw [hb13]
          have KK := Lib.hid (thru H2.out.2 k1)
          have q1 : W1.cell? ⟨b13, 1, none⟩ = some (.int .i64 xl) := z13.at' 1
          have q2 : W1.cell? ⟨b13, 2, none⟩ = some (.int .i64 xt) := z13.at' 2
          have q3 : W1.cell? ⟨b13, 3, none⟩ = some (.int .i64 xr) := z13.at' 3
          have q4 : W1.cell? ⟨b13, 4, none⟩ = some (.int .i64 xb) := z13.at' 4
          clear hW1 hb13 k1 z13 d0 d1 d2 d3 d4
          cases v with
          | true =>
            go_wp2_with (first
              | (go_at_call 15; refine (smallR_is xl xt xr xb true HVv.out W1).mono ?_; rintro e w3 ⟨rfl, k3⟩; have K3 := Lib.hid (thru KK.out k3); clear k3))
            go_roundw
            case rel => exact ⟨q + 1, by omega, by go_num, Lib.hid ⟨by rw [List.take_add_one, HXx.out, List.all_append, H2.out.1]; simp [HVv.out], K3.out⟩⟩
            case measure => simp [intOf]; omega
          | false =>
            go_wp2_with (first
              | (go_at_call 15; refine (smallR_is xl xt xr xb false HVv.out W1).mono ?_; rintro e w3 ⟨rfl, k3⟩; have K3 := Lib.hid (thru KK.out k3); clear k3))
            exact bodyPost_ret (v := .tuple #[.pointer none, .pointer none]) (by simp [results, Tryz.results4, go_sem]) rfl ⟨rfl, K3.out⟩
        · obtain rfl : q = nF := by omega
          have hall := H2.out.1
          rw [List.take_of_length_le (by rw [← HN.out.2.2.1]; exact Nat.le_refl _)] at hall
          rw [HVf.out] at hall
          cases hall

set_option maxRecDepth 100000 in
set_option maxHeartbeats 1600000 in
theorem hbeg_yes {T : World → Addr → List Bx → Prop} {S : World → (Nat → Prop) → Addr → List Fl → Prop} (hT : TreeOk T) (hS : SpaceOk S) (AL : Option Addr) (nL cL : Nat) (bs : List Bx) (AF : Option Addr) (nF cF : Nat) (fs : List Fl) (y : Int) (A : Option Addr) (n c : Nat) (ms : List Int) (sp l r : Bool) (a e : Int) (w : World) (hnF : nF = fs.length) (hmF : nF ≤ 9223372036854775807) (hF : Floats w w.heap.size AF fs) (hn : n = ms.length) (hM : Nums w w.heap.size A ms)
    (hC : ∀ w', Below w.heap.size w w' → Calls Tryz.prog 13 #[.slice AL nL cL] w' fun r w'' => r = .returned (.tuple #[.int .i64 a, .int .i64 e]) ∧ Below w'.heap.size w' w'') (h0 : e = 0) (h1 : nL ≤ 60) (h2 : nF ≤ 12) (h3 : fs.all sideF = true) (h4 : y ≤ 1125899906842624) (h5 : -1125899906842624 ≤ y) (h6 : n ≤ 20) (hvm : ms.all in28 = true) (hvf : fs.all nearF = true) (hnL : nL = bs.length) (hL : Boxes w w.heap.size AL bs) (hpos : 0 < nL) (hok : ∀ b ∈ bs, OkB b) (hfi : Fine bs nL) :
    Calls Tryz.prog 4 #[.slice AL nL cL, .slice AF nF cF, fromV y A n c sp l r] w fun r w' => (∃ tp p F, r = .returned (.tuple #[.pointer (some tp), .pointer (some p)]) ∧ T w' tp bs ∧ S w' F p fs ∧ ∀ k, F k → w.heap.size ≤ k) ∧ Below w.heap.size w w' := by
  have hb0 : (e != 0) = false := by simp; omega
  have hb1 : ¬ (60 : Int) < (nL : Int) := by omega
  have hb2 : ¬ (12 : Int) < (nF : Int) := by omega
  have hb4 : ¬ (1125899906842624 : Int) < y := by omega
  have hb5 : ¬ y < (-1125899906842624 : Int) := by omega
  have hb6 : ¬ (20 : Int) < (n : Int) := by omega
  have HC := Lib.hid hC
  have HSi := Lib.hid (fun w1 (k : Below w.heap.size w w1) => sides_is AF nF cF fs true w1 hnF (by omega) (hF.thru k) h3)
  have HM := Lib.hid hM
  have HF := Lib.hid hF
  have HN := Lib.hid (⟨hn, h6, hnF, h2⟩ : n = ms.length ∧ n ≤ 20 ∧ nF = fs.length ∧ nF ≤ 12)
  have HVm := Lib.hid hvm
  have HVf := Lib.hid hvf
  have HTb := Lib.hid (fun w1 (k : Below w.heap.size w w1) => begin_some hT AL nL cL bs w1 hnL (by omega) hpos (hL.thru k) hok hfi)
  have HSb := Lib.hid (fun w1 (k : Below w.heap.size w w1) => pbegin_any hS AF nF cF fs w1 hnF (by omega) (hF.thru k) hvf h3)
  have z0 : Lies (w.alloc (.cells #[.int .i64 y, .slice A n c, .bool sp, .bool l, .bool r] 26)) w.heap.size [.int .i64 y, .slice A n c, .bool sp, .bool l, .bool r] := Lies.new w _ _
  have c0 : (w.alloc (.cells #[.int .i64 y, .slice A n c, .bool sp, .bool l, .bool r] 26)).cell? ⟨w.heap.size, 0, none⟩ = some (.int .i64 y) := z0.at' 0
  clear hC hM hF hn hnF h0 h1 h2 h3 h4 h5 h6 hvm hvf hL hok hfi hnL hpos
  go_enter Tryz.func4, Tryz.ntmps4
  go_upto_region 5 with (first
    | (go_at_call 13; refine (HC.out _ (ba1 w _)).mono ?_; rintro r1 w1 ⟨rfl, k1⟩; have K1 := Lib.hid (thru (ba1 w _) k1); have z1 := z0.below (by simp) k1; clear k1 c0; have c0 : w1.cell? ⟨w.heap.size, 0, none⟩ = some (.int .i64 y) := z1.at' 0; have c1 : w1.cell? ⟨w.heap.size, 1, none⟩ = some (.slice A n c) := z1.at' 1)
    | (go_at_call 14; refine (HSi.out w1 K1.out).mono ?_; rintro r2 w2 ⟨rfl, k2⟩; have K2 := Lib.hid (thru K1.out k2); have z2 := z1.below (by simp) k2; clear k2 c0 c1; have c0 : w2.cell? ⟨w.heap.size, 0, none⟩ = some (.int .i64 y) := z2.at' 0; have c1 : w2.cell? ⟨w.heap.size, 1, none⟩ = some (.slice A n c) := z2.at' 1))
  clear c0 c1 z0 z1 z2
  go_loopw [55] (fun i wr => ∃ k : Nat, k ≤ n ∧ i = .int .i64 (k : Int) ∧ Hid ((ms.take k).all in28 = true ∧ Below w.heap.size w wr)) (fun i _ => n - (intOf i).toNat)
  case atStart => exact ⟨0, Nat.zero_le _, rfl, Lib.hid ⟨rfl, K2.out⟩⟩
  case round =>
    obtain ⟨k, hk, rfl, H⟩ := hrel
    by_cases hlt : k < n
    · have hki : (k : Int) < (n : Int) := by omega
      have hk0 : ¬ (k : Int) < 0 := by omega
      have hwk : IntKind.i64.wrap ((k : Int) + 1) = (k : Int) + 1 := by have := HN.out; exact IntWalk.i64_in _ (by omega)
      obtain ⟨ad, hA, -, hcx⟩ := (HM.out.thru H.out.2) k (by rw [← HN.out.1]; exact hlt)
      subst hA
      obtain ⟨z, hz⟩ : ∃ z, z = ms.getD k 0 := ⟨_, rfl⟩
      rw [← hz] at hcx
      have HZz := Lib.hid hz
      clear hz
      cases hin : in28 z with
      | true =>
        have hb := in28_iff.1 hin
        have hz1 : ¬ (268435456 : Int) < z := by omega
        have hz2 : ¬ z < (-268435456 : Int) := by omega
        have HI := Lib.hid hin
        clear hin hb
        go_wp2_with fail
        go_roundw
        case rel => exact ⟨k + 1, by omega, by go_num, Lib.hid ⟨by rw [take_next ms k (by rw [← HN.out.1]; exact hlt), ← HZz.out, List.all_append, H.out.1]; simp [HI.out], H.out.2⟩⟩
        case measure => simp [intOf]; omega
      | false =>
        exact absurd (all28_out ms k (by rw [← HN.out.1]; exact hlt) z HZz.out hin) (by rw [HVm.out]; simp)
    · obtain rfl : k = n := by omega
      have hall := H.out.1
      rw [List.take_of_length_le (by rw [← HN.out.1]; exact Nat.le_refl _)] at hall
      clear hall
      obtain ⟨wo, hwo⟩ : ∃ x, x = wr := ⟨_, rfl⟩
      subst hwo
      go_wp2_with fail
      go_loopw [68] (fun i wr => ∃ q : Nat, q ≤ nF ∧ i = .int .i64 (q : Int) ∧ Hid ((fs.take q).all nearF = true ∧ Below w.heap.size w wr)) (fun i _ => nF - (intOf i).toNat)
      case atStart => exact ⟨0, Nat.zero_le _, rfl, Lib.hid ⟨rfl, H.out.2⟩⟩
      case round =>
        obtain ⟨q, hq, rfl, H2⟩ := hrel
        by_cases hlq : q < nF
        · have hqi : (q : Int) < (nF : Int) := by omega
          have hq0 : ¬ (q : Int) < 0 := by omega
          have hwq : IntKind.i64.wrap ((q : Int) + 1) = (q : Int) + 1 := by have := HN.out; exact IntWalk.i64_in _ (by omega)
          obtain ⟨x, hx⟩ : ∃ x, fs[q]? = some x := ⟨_, List.getElem?_eq_getElem (by have := HN.out; omega)⟩
          obtain ⟨ad, rfl, -, d0, d1, d2, d3, d4⟩ := (HF.out.thru H2.out.2) q x hx
          have HXx := Lib.hid hx
          obtain ⟨v, hv⟩ : ∃ v, nearF x = v := ⟨_, rfl⟩
          have HVv := Lib.hid hv
          clear hx hv
          obtain ⟨xs, xl, xt, xr, xb⟩ := x
          go_upto_region 13 with fail
          generalize hW1 : World.alloc wr _ = W1
          obtain ⟨b13, hb13⟩ : ∃ b, wr.heap.size = b := ⟨_, rfl⟩
          have z13 : Lies W1 b13 [.int .i64 xs, .int .i64 xl, .int .i64 xt, .int .i64 xr, .int .i64 xb] := by rw [← hW1, ← hb13]; exact Lies.new wr _ _
          have k1 : Below wr.heap.size wr W1 := by rw [← hW1]; exact ba1 _ _
          try rw [hb13]
          have KK := Lib.hid (thru H2.out.2 k1)
          have q1 : W1.cell? ⟨b13, 1, none⟩ = some (.int .i64 xl) := z13.at' 1
          have q2 : W1.cell? ⟨b13, 2, none⟩ = some (.int .i64 xt) := z13.at' 2
          have q3 : W1.cell? ⟨b13, 3, none⟩ = some (.int .i64 xr) := z13.at' 3
          have q4 : W1.cell? ⟨b13, 4, none⟩ = some (.int .i64 xb) := z13.at' 4
          clear hW1 hb13 k1 z13 d0 d1 d2 d3 d4
          cases v with
          | true =>
            go_wp2_with (first
              | (go_at_call 15; refine (smallR_is xl xt xr xb true HVv.out W1).mono ?_; rintro e w3 ⟨rfl, k3⟩; have K3 := Lib.hid (thru KK.out k3); clear k3))
            go_roundw
            case rel => exact ⟨q + 1, by omega, by go_num, Lib.hid ⟨by rw [List.take_add_one, HXx.out, List.all_append, H2.out.1]; simp [HVv.out], K3.out⟩⟩
            case measure => simp [intOf]; omega
          | false =>
            exact absurd (List.all_eq_true.1 HVf.out _ (List.mem_of_getElem? HXx.out)) (by rw [HVv.out]; simp)
        · obtain rfl : q = nF := by omega
          have hall := H2.out.1
          rw [List.take_of_length_le (by rw [← HN.out.2.2.1]; exact Nat.le_refl _)] at hall
          clear hall
          go_wp2_with (first
            | (go_at_call 16; refine (HTb.out wr H2.out.2).mono ?_; rintro e w4 ⟨⟨tp, rfl, ht⟩, k4⟩; have K4 := Lib.hid (⟨ht, thru H2.out.2 k4⟩ : T w4 tp bs ∧ Below w.heap.size w w4); clear ht k4)
            | (go_at_call 17; refine (HSb.out w4 K4.out.2).mono ?_; rintro e w5 ⟨⟨p, F, rfl, hs, hFF⟩, k5⟩; have K5 := Lib.hid (⟨hT.keep _ _ _ _ K4.out.1 k5, hs, fun j hj => Nat.le_trans K4.out.2.size (hFF j hj), thru K4.out.2 k5⟩ : T w5 tp bs ∧ S w5 F p fs ∧ (∀ k, F k → w.heap.size ≤ k) ∧ Below w.heap.size w w5); clear hs hFF k5))
          exact bodyPost_ret (v := .tuple #[.pointer (some tp), .pointer (some p)]) (by simp [results, Tryz.results4, go_sem]) rfl ⟨⟨tp, p, F, rfl, K5.out.1, K5.out.2.1, K5.out.2.2.1⟩, K5.out.2.2.2⟩

end Go.Proofs.YtfomhdhiibcdfaaGreat.Ahead
