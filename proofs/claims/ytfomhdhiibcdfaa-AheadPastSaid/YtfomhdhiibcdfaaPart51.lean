/- Texts of this proof that follow each other, in one file. -/
import Derived.Test.YtfomhdhiibcdfaaPart29
import Derived.Test.YtfomhdhiibcdfaaPart50
/-! Begin, of whatever comes in: none, or a tree and a space. -/
namespace Go.Proofs.Ytfomhdhiibcdfaa.Ahead
open Go.RowKit Go.Sort Go.Proofs.Ytfomhdhiibcdfaa.More Go.Proofs.Ytfomhdhiibcdfaa.Record Go.Proofs.Ytfomhdhiibcdfaa.Script Go.Proofs.Ytfomhdhiibcdfaa.Tree Go.Proofs.Ytfomhdhiibcdfaa.Shelf Go.Proofs.Ytfomhdhiibcdfaa.Space Go.Proofs.Ytfomhdhiibcdfaa.Spot
set_option linter.unusedVariables false
set_option linter.unusedSimpArgs false

set_option maxRecDepth 100000 in
set_option maxHeartbeats 800000 in
theorem hbeg_long (AL : Option Addr) (nL cL : Nat) (bs : List Bx) (AF : Option Addr) (nF cF : Nat) (y : Int) (A : Option Addr) (n c : Nat) (sp l r : Bool) (w : World) (hn : nL = bs.length) (hm : nL ≤ 9223372036854775807) (hL : Boxes w w.heap.size AL bs) (h60 : 60 < nL) :
    Calls Try.prog 9 #[.slice AL nL cL, .slice AF nF cF, fromV y A n c sp l r] w fun r w' => r = .returned (.tuple #[.pointer none, .pointer none]) ∧ Below w.heap.size w w' := by
  have hb1 : (60 : Int) < (nL : Int) := by omega
  have HC := Lib.hid (fun w' (j : Below w.heap.size w w') => refchk_some AL nL cL bs w' hn hm (hL.thru j))
  clear hn hm hL h60
  go_enter Try.func9, Try.ntmps9
  go_upto_region 2 with (first
    | (go_at_call 19; refine (HC.out _ (ba1 w _)).mono ?_; rintro r1 w1 ⟨⟨a, e, rfl⟩, k1⟩; have K1 := Lib.hid (thru (ba1 w _) k1); clear k1))
  by_cases he : e = 0
  · have hb0 : (e != 0) = false := by simp; omega
    clear he
    go_wp2_with fail
    exact bodyPost_ret (v := .tuple #[.pointer none, .pointer none]) (by simp [results, Try.results9, go_sem]) rfl ⟨rfl, K1.out⟩
  · have hb0 : (e != 0) = true := by simp; omega
    clear he
    go_wp2_with fail
    exact bodyPost_ret (v := .tuple #[.pointer none, .pointer none]) (by simp [results, Try.results9, go_sem]) rfl ⟨rfl, K1.out⟩

/-- What holds where begin gives a tree and a space. -/
structure Begun (bs : List Bx) (fs : List Fl) (y : Int) (ms : List Int) : Prop where
  fine : Fine bs bs.length
  pos : 0 < bs.length
  len : bs.length ≤ 60
  few : fs.length ≤ 12
  near : fs.all nearF = true
  side : fs.all sideF = true
  y1 : -1125899906842624 ≤ y
  y2 : y ≤ 1125899906842624
  lm : ms.length ≤ 20
  marg : ms.all in28 = true

theorem Begun.wood {bs : List Bx} {fs : List Fl} {y : Int} {ms : List Int} (h : Begun bs fs y ms) : Wood bs := wood_of h.fine (by have := h.len; omega)
theorem Begun.slim {bs : List Bx} {fs : List Fl} {y : Int} {ms : List Int} (h : Begun bs fs y ms) (hd sp l r e : Bool) : Slim 20 (⟨⟨y, ms, hd, sp⟩, l, r, e⟩ : Rl) :=
  ⟨by show _ ≤ y ∧ y ≤ _; have := h.y1; have := h.y2; omega, in28_50 h.marg, h.lm⟩

theorem begin_cases {T : World → Addr → List Bx → Prop} {S : World → (Nat → Prop) → Addr → List Fl → Prop} (hT : TreeOk T) (hS : SpaceOk S) (AL : Option Addr) (nL cL : Nat) (bs : List Bx) (AF : Option Addr) (nF cF : Nat) (fs : List Fl) (y : Int) (A : Option Addr) (n c : Nat) (ms : List Int) (sp l r : Bool) (w : World)
    (hnL : nL = bs.length) (hmL : nL ≤ 9223372036854775807) (hL : Boxes w w.heap.size AL bs) (hok : ∀ b ∈ bs, OkB b) (hnF : nF = fs.length) (hmF : nF ≤ 9223372036854775807) (hF : Floats w w.heap.size AF fs) (hn : n = ms.length) (hM : Nums w w.heap.size A ms) :
    (∀ w', Below w.heap.size w w' → Calls Try.prog 9 #[.slice AL nL cL, .slice AF nF cF, fromV y A n c sp l r] w' fun r w'' => r = .returned (.tuple #[.pointer none, .pointer none]) ∧ Below w'.heap.size w' w'') ∨
    (Begun bs fs y ms ∧ ∀ w', Below w.heap.size w w' → Calls Try.prog 9 #[.slice AL nL cL, .slice AF nF cF, fromV y A n c sp l r] w' fun r w'' => (∃ tp p F, r = .returned (.tuple #[.pointer (some tp), .pointer (some p)]) ∧ T w'' tp bs ∧ S w'' F p fs ∧ ∀ k, F k → w'.heap.size ≤ k) ∧ Below w'.heap.size w' w'') := by
  by_cases h60 : nL ≤ 60
  case neg => exact .inl fun w' j => hbeg_long AL nL cL bs AF nF cF y A n c sp l r w' hnL hmL (hL.thru j) (by omega)
  obtain ⟨a, e, hc⟩ : ∃ a e, chk bs = (a, e) := ⟨_, _, rfl⟩
  have hC : ∀ w1, Below w.heap.size w w1 → ∀ w', Below w1.heap.size w1 w' → Calls Try.prog 19 #[.slice AL nL cL] w' fun r w'' => r = .returned (.tuple #[.int .i64 a, .int .i64 e]) ∧ Below w'.heap.size w' w'' := fun w1 j1 w' j => refchk_any AL nL cL bs a e w' hnL (by omega) ((hL.thru j1).thru j) hc
  by_cases hall : e = 0 ∧ nL ≤ 60 ∧ nF ≤ 12 ∧ fs.all sideF = true ∧ y ≤ 1125899906842624 ∧ -1125899906842624 ≤ y ∧ n ≤ 20
  case neg => exact .inl fun w' j => hbeg_few AL nL cL bs AF nF cF fs y A n c ms sp l r a e w' hnF hmF (hF.thru j) hn (hM.thru j) (hC w' j) hall
  obtain ⟨h0, h1, h2, h3, h4, h5, h6⟩ := hall
  cases hvm : ms.all in28 with
  | false => exact .inl fun w' j => hbeg_marg AL nL cL bs AF nF cF fs y A n c ms sp l r a e w' hnF hmF (hF.thru j) hn (hM.thru j) (hC w' j) h0 h1 h2 h3 h4 h5 h6 hvm
  | true =>
    cases hvf : fs.all nearF with
    | false => exact .inl fun w' j => hbeg_far AL nL cL bs AF nF cF fs y A n c ms sp l r a e w' hnF hmF (hF.thru j) hn (hM.thru j) (hC w' j) h0 h1 h2 h3 h4 h5 h6 hvm hvf
    | true =>
      subst h0
      obtain ⟨-, hpos, hfi⟩ := chk_ok (n := bs.length) rfl hc
      refine .inr ⟨⟨hfi, hpos, by omega, by omega, hvf, h3, h5, h4, by omega, hvm⟩, fun w' j => ?_⟩
      exact hbeg_yes hT hS AL nL cL bs AF nF cF fs y A n c ms sp l r a 0 w' hnF hmF (hF.thru j) hn (hM.thru j) (hC w' j) rfl h1 h2 h3 h4 h5 h6 hvm hvf hnL (hL.thru j) (by omega) hok (by rw [hnL]; exact hfi)

end Go.Proofs.Ytfomhdhiibcdfaa.Ahead

/-! The law of what is past a box, of whatever comes in. -/
namespace Go.Proofs.Ytfomhdhiibcdfaa.Ahead
open Go.RowKit Go.Sort Go.Proofs.Ytfomhdhiibcdfaa.More Go.Proofs.Ytfomhdhiibcdfaa.Record Go.Proofs.Ytfomhdhiibcdfaa.Script Go.Proofs.Ytfomhdhiibcdfaa.Tree Go.Proofs.Ytfomhdhiibcdfaa.Shelf Go.Proofs.Ytfomhdhiibcdfaa.Space Go.Proofs.Ytfomhdhiibcdfaa.Spot
set_option linter.unusedVariables false
set_option linter.unusedSimpArgs false

theorem past_law {T : World → Addr → List Bx → Prop} {S : World → (Nat → Prop) → Addr → List Fl → Prop} (hT : TreeOk T) (hS : SpaceOk S) (hA : AheadOk T S) (AL : Option Addr) (nL cL : Nat) (bs : List Bx) (AF : Option Addr) (nF cF : Nat) (fs : List Fl) (y : Int) (A : Option Addr) (n c : Nat) (ms : List Int) (spn l r : Bool) (at8 : Int) (w : World) (ha8 : 0 ≤ at8 ∧ at8 ≤ 255)
    (hnL : nL = bs.length) (hmL : nL ≤ 9223372036854775807) (hL : Boxes w w.heap.size AL bs) (hok : ∀ b ∈ bs, OkB b) (hnF : nF = fs.length) (hmF : nF ≤ 9223372036854775807) (hF : Floats w w.heap.size AF fs) (hn : n = ms.length) (hz : A = none → c = 0) (hM : Nums w w.heap.size A ms) :
    Calls Try.prog 4 #[.slice AL nL cL, .slice AF nF cF, fromV y A n c spn l r, .int .u8 at8] w fun e w' => e = .returned (.bool true) ∧ Below w.heap.size w w' := by
  rcases begin_cases hT hS AL nL cL bs AF nF cF fs y A n c ms spn l r w hnL hmL hL hok hnF hmF hF hn hM with h | ⟨hb, h⟩
  · exact past_no hT hS hA AL nL cL bs AF nF cF fs y A n c ms spn l r at8 w h
  · obtain ⟨ad0, hA0, -⟩ := hL 0 hb.pos
    subst hA0
    exact past_yes hT hS hA ad0 nL cL bs AF nF cF fs y A n c ms spn l r at8 w ha8 h hb.wood hb.near hb.pos hb.len (hb.slim false spn l r false) ⟨hn, hz, hM⟩ hL hnL

end Go.Proofs.Ytfomhdhiibcdfaa.Ahead
