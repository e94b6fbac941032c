/- Texts of this proof that follow each other, in one file. -/
import Derived.Test.YtfomhdhiibcdfaaGreatPart31
import Derived.Test.YtfomhdhiibcdfaaGreatPart32
import Derived.Test.YtfomhdhiibcdfaaGreatPart12
import Derived.Test.YtfomhdhiibcdfaaGreatPart23
import Derived.RangeFuncBox
import Derived.Deep.MidRow
import Derived.Laws.CopyOwn
import Derived.Deep.DeepCutAuto
/-! Begin, of whatever comes in: none, or a tree and a space. -/
namespace Go.Proofs.YtfomhdhiibcdfaaGreat.Ahead
open Go.RowKit Go.Sort Go.Proofs.YtfomhdhiibcdfaaGreat.More Go.Proofs.YtfomhdhiibcdfaaGreat.Record Go.Proofs.YtfomhdhiibcdfaaGreat.Script Go.Proofs.YtfomhdhiibcdfaaGreat.Tree Go.Proofs.YtfomhdhiibcdfaaGreat.Shelf Go.Proofs.YtfomhdhiibcdfaaGreat.Space Go.Proofs.YtfomhdhiibcdfaaGreat.Spot
set_option linter.unusedVariables false
set_option linter.unusedSimpArgs false

set_option maxRecDepth 100000 in
set_option maxHeartbeats 800000 in
theorem hbeg_long (AL : Option Addr) (nL cL : Nat) (bs : List Bx) (AF : Option Addr) (nF cF : Nat) (y : Int) (A : Option Addr) (n c : Nat) (sp l r : Bool) (w : World) (hn : nL = bs.length) (hm : nL ≤ 9223372036854775807) (hL : Boxes w w.heap.size AL bs) (h60 : 60 < nL) :
    Calls Tryz.prog 4 #[.slice AL nL cL, .slice AF nF cF, fromV y A n c sp l r] w fun r w' => r = .returned (.tuple #[.pointer none, .pointer none]) ∧ Below w.heap.size w w' := by
  have hb1 : (60 : Int) < (nL : Int) := by omega
  have HC := Lib.hid (fun w' (j : Below w.heap.size w w') => refchk_some AL nL cL bs w' hn hm (hL.thru j))
  clear hn hm hL h60
  go_enter Tryz.func4, Tryz.ntmps4
  go_upto_region 2 with (first
    | (go_at_call 13; refine (HC.out _ (ba1 w _)).mono ?_; rintro r1 w1 ⟨⟨a, e, rfl⟩, k1⟩; have K1 := Lib.hid (thru (ba1 w _) k1); clear k1))
  by_cases he : e = 0
  · have hb0 : (e != 0) = false := by simp; omega
    clear he
    go_wp2_with fail
    exact bodyPost_ret (v := .tuple #[.pointer none, .pointer none]) (by simp [results, Tryz.results4, go_sem]) rfl ⟨rfl, K1.out⟩
  · have hb0 : (e != 0) = true := by simp; omega
    clear he
    go_wp2_with fail
    exact bodyPost_ret (v := .tuple #[.pointer none, .pointer none]) (by simp [results, Tryz.results4, go_sem]) rfl ⟨rfl, K1.out⟩

/-- What holds where begin gives a tree and a space. -/
structure Begun (bs : List Bx) (fs : List Fl) (y : Int) (ms : List Int) : Prop where
  fine : Fine bs bs.length
  pos : 0 < bs.length
  len : bs.length ≤ 60
  few : fs.length ≤ 12
  near : fs.all nearF = true
  side : fs.all sideF = true
  y1 : -1125899906842624 ≤ y
  y2 : y ≤ 1125899906842624
  lm : ms.length ≤ 20
  marg : ms.all in28 = true

theorem Begun.wood {bs : List Bx} {fs : List Fl} {y : Int} {ms : List Int} (h : Begun bs fs y ms) : Wood bs := wood_of h.fine (by have := h.len; omega)
theorem Begun.slim {bs : List Bx} {fs : List Fl} {y : Int} {ms : List Int} (h : Begun bs fs y ms) (hd sp l r e : Bool) : Slim 20 (⟨⟨y, ms, hd, sp⟩, l, r, e⟩ : Rl) :=
  ⟨by show _ ≤ y ∧ y ≤ _; have := h.y1; have := h.y2; omega, in28_50 h.marg, h.lm⟩

theorem begin_cases {T : World → Addr → List Bx → Prop} {S : World → (Nat → Prop) → Addr → List Fl → Prop} (hT : TreeOk T) (hS : SpaceOk S) (AL : Option Addr) (nL cL : Nat) (bs : List Bx) (AF : Option Addr) (nF cF : Nat) (fs : List Fl) (y : Int) (A : Option Addr) (n c : Nat) (ms : List Int) (sp l r : Bool) (w : World)
    (hnL : nL = bs.length) (hmL : nL ≤ 9223372036854775807) (hL : Boxes w w.heap.size AL bs) (hok : ∀ b ∈ bs, OkB b) (hnF : nF = fs.length) (hmF : nF ≤ 9223372036854775807) (hF : Floats w w.heap.size AF fs) (hn : n = ms.length) (hM : Nums w w.heap.size A ms) :
    (∀ w', Below w.heap.size w w' → Calls Tryz.prog 4 #[.slice AL nL cL, .slice AF nF cF, fromV y A n c sp l r] w' fun r w'' => r = .returned (.tuple #[.pointer none, .pointer none]) ∧ Below w'.heap.size w' w'') ∨
    (Begun bs fs y ms ∧ ∀ w', Below w.heap.size w w' → Calls Tryz.prog 4 #[.slice AL nL cL, .slice AF nF cF, fromV y A n c sp l r] w' fun r w'' => (∃ tp p F, r = .returned (.tuple #[.pointer (some tp), .pointer (some p)]) ∧ T w'' tp bs ∧ S w'' F p fs ∧ ∀ k, F k → w'.heap.size ≤ k) ∧ Below w'.heap.size w' w'') := by
  by_cases h60 : nL ≤ 60
  case neg => exact .inl fun w' j => hbeg_long AL nL cL bs AF nF cF y A n c sp l r w' hnL hmL (hL.thru j) (by omega)
  obtain ⟨a, e, hc⟩ : ∃ a e, chk bs = (a, e) := ⟨_, _, rfl⟩
  have hC : ∀ w1, Below w.heap.size w w1 → ∀ w', Below w1.heap.size w1 w' → Calls Tryz.prog 13 #[.slice AL nL cL] w' fun r w'' => r = .returned (.tuple #[.int .i64 a, .int .i64 e]) ∧ Below w'.heap.size w' w'' := fun w1 j1 w' j => refchk_any AL nL cL bs a e w' hnL (by omega) ((hL.thru j1).thru j) hc
  by_cases hall : e = 0 ∧ nL ≤ 60 ∧ nF ≤ 12 ∧ fs.all sideF = true ∧ y ≤ 1125899906842624 ∧ -1125899906842624 ≤ y ∧ n ≤ 20
  case neg => exact .inl fun w' j => hbeg_few AL nL cL bs AF nF cF fs y A n c ms sp l r a e w' hnF hmF (hF.thru j) hn (hM.thru j) (hC w' j) hall
  obtain ⟨h0, h1, h2, h3, h4, h5, h6⟩ := hall
  cases hvm : ms.all in28 with
  | false => exact .inl fun w' j => hbeg_marg AL nL cL bs AF nF cF fs y A n c ms sp l r a e w' hnF hmF (hF.thru j) hn (hM.thru j) (hC w' j) h0 h1 h2 h3 h4 h5 h6 hvm
  | true =>
    cases hvf : fs.all nearF with
    | false => exact .inl fun w' j => hbeg_far AL nL cL bs AF nF cF fs y A n c ms sp l r a e w' hnF hmF (hF.thru j) hn (hM.thru j) (hC w' j) h0 h1 h2 h3 h4 h5 h6 hvm hvf
    | true =>
      subst h0
      obtain ⟨-, hpos, hfi⟩ := chk_ok (n := bs.length) rfl hc
      refine .inr ⟨⟨hfi, hpos, by omega, by omega, hvf, h3, h5, h4, by omega, hvm⟩, fun w' j => ?_⟩
      exact hbeg_yes hT hS AL nL cL bs AF nF cF fs y A n c ms sp l r a 0 w' hnF hmF (hF.thru j) hn (hM.thru j) (hC w' j) rfl h1 h2 h3 h4 h5 h6 hvm hvf hnL (hL.thru j) (by omega) hok (by rw [hnL]; exact hfi)

end Go.Proofs.YtfomhdhiibcdfaaGreat.Ahead

/-! The law of looks, of whatever comes in. -/
namespace Go.Proofs.YtfomhdhiibcdfaaGreat.Ahead
open Go.RowKit Go.Sort Go.Proofs.YtfomhdhiibcdfaaGreat.More Go.Proofs.YtfomhdhiibcdfaaGreat.Record Go.Proofs.YtfomhdhiibcdfaaGreat.Script Go.Proofs.YtfomhdhiibcdfaaGreat.Tree Go.Proofs.YtfomhdhiibcdfaaGreat.Shelf Go.Proofs.YtfomhdhiibcdfaaGreat.Space Go.Proofs.YtfomhdhiibcdfaaGreat.Spot
set_option linter.unusedVariables false
set_option linter.unusedSimpArgs false

theorem looks_any {T : World → Addr → List Bx → Prop} {S : World → (Nat → Prop) → Addr → List Fl → Prop} (hT : TreeOk T) (hS : SpaceOk S) (hA : AheadOk T S) (AL : Option Addr) (nL cL : Nat) (bs : List Bx) (AF : Option Addr) (nF cF : Nat) (fs : List Fl) (y : Int) (A : Option Addr) (n c : Nat) (ms : List Int) (spn l r : Bool) (ot : Int) (w : World)
    (hnL : nL = bs.length) (hmL : nL ≤ 9223372036854775807) (hL : Boxes w w.heap.size AL bs) (hok : ∀ b ∈ bs, OkB b) (hnF : nF = fs.length) (hmF : nF ≤ 9223372036854775807) (hF : Floats w w.heap.size AF fs) (hn : n = ms.length) (hz : A = none → c = 0) (hM : Nums w w.heap.size A ms) :
    Calls Tryz.prog 3 #[.slice AL nL cL, .slice AF nF cF, fromV y A n c spn l r, .int .i64 ot] w fun e w' => e = .returned (.bool true) ∧ Below w.heap.size w w' := by
  rcases begin_cases hT hS AL nL cL bs AF nF cF fs y A n c ms spn l r w hnL hmL hL hok hnF hmF hF hn hM with h | ⟨hb, h⟩
  · exact looks_no hT hS hA AL nL cL bs AF nF cF fs y A n c ms spn l r ot w h
  · obtain ⟨ad0, hA0, -⟩ := hL 0 hb.pos
    subst hA0
    exact looks_yes hT hS hA ad0 nL cL bs AF nF cF fs y A n c ms spn l r ot w h hb.wood hb.near hb.len (hb.slim false spn l r false) ⟨hn, hz, hM⟩ hL hF hnL hnF hb.few

end Go.Proofs.YtfomhdhiibcdfaaGreat.Ahead

/-! The program's nodes as they lie in memory; the contracts of at, Len, Box, Parent, End and Context. -/
namespace Go.Proofs.YtfomhdhiibcdfaaGreat.Tree
open Go.RowKit Go.Sort Go.Proofs.YtfomhdhiibcdfaaGreat.Record Go.Proofs.YtfomhdhiibcdfaaGreat.Script Go.Proofs.YtfomhdhiibcdfaaGreat.More

/-- A node: its box, its parent, where it ends, and its context. -/
structure Nd where
  b : Bx
  p : Int
  e : Int
  c : Int

abbrev Nd.v (x : Nd) : Value :=
  .agg #[.int .i64 x.b.d, .int .i64 x.b.k, .int .i64 x.b.s, .int .i64 x.b.c, .int .i64 x.b.w, .int .i64 x.b.h, .int .i64 x.b.m0, .int .i64 x.b.m1, .int .i64 x.b.m2, .int .i64 x.b.m3, .int .i64 x.b.e0, .int .i64 x.b.e1, .int .i64 x.b.e2, .int .i64 x.b.e3, .int .i64 x.p, .int .i64 x.e, .int .i64 x.c]

def cellsOfN (x : Nd) : List Value :=
  [.int .i64 x.b.d, .int .i64 x.b.k, .int .i64 x.b.s, .int .i64 x.b.c, .int .i64 x.b.w, .int .i64 x.b.h, .int .i64 x.b.m0, .int .i64 x.b.m1, .int .i64 x.b.m2, .int .i64 x.b.m3, .int .i64 x.b.e0, .int .i64 x.b.e1, .int .i64 x.b.e2, .int .i64 x.b.e3, .int .i64 x.p, .int .i64 x.e, .int .i64 x.c]

theorem cellsOfN_one (x : Nd) : ∀ u ∈ cellsOfN x, u.oneCell' = true := by
  intro u h
  simp only [cellsOfN, List.mem_cons, List.not_mem_nil, or_false] at h
  rcases h with h | h | h | h | h | h | h | h | h | h | h | h | h | h | h | h | h <;> (subst h; rfl)

def encN : Enc Nd := ⟨17, cellsOfN, fun _ => rfl, cellsOfN_one, by omega⟩

theorem infoN : InfoE encN 114 97 136 :=
  ⟨Tryz.underlying97, .agg #[.int .i64 0, .int .i64 0, .int .i64 0, .int .i64 0, .int .i64 0, .int .i64 0, .int .i64 0, .int .i64 0, .int .i64 0, .int .i64 0, .int .i64 0, .int .i64 0, .int .i64 0, .int .i64 0, .int .i64 0, .int .i64 0, .int .i64 0], rfl, by kernel_rfl⟩

abbrev MineN (w : World) (B : Nat) (A : Option Addr) (n c : Nat) (xs : List Nd) : Prop := MineE encN 114 w B A n c xs

/-- A node that lies at an address. -/
def AtN (w : World) (p : Addr) (x : Nd) : Prop :=
  AtP w p x.b ∧ w.cell? ⟨p.block, p.off + 14, none⟩ = some (.int .i64 x.p) ∧ w.cell? ⟨p.block, p.off + 15, none⟩ = some (.int .i64 x.e) ∧ w.cell? ⟨p.block, p.off + 16, none⟩ = some (.int .i64 x.c)

theorem AtN.of_mine {w : World} {B g n c : Nat} {xs : List Nd} (h : MineN w B (some ⟨g, 0, none⟩) n c xs) (k : Nat) (x : Nd) (hx : xs[k]? = some x) : AtN w ⟨g, k * 17, none⟩ x := by
  have e : ∀ j u, (cellsOfN x)[j]? = some u → w.cell? ⟨g, k * 17 + j, none⟩ = some u := fun j u hu => by
    have hj : j < 17 := (List.getElem?_eq_some_iff.1 hu).1
    exact (h.at k x hx j hj).trans hu
  have e0 := e 0 _ rfl
  exact ⟨⟨e0, e 1 _ rfl, e 2 _ rfl, e 3 _ rfl, e 4 _ rfl, e 5 _ rfl, e 6 _ rfl, e 7 _ rfl, e 8 _ rfl, e 9 _ rfl, e 10 _ rfl, e 11 _ rfl, e 12 _ rfl, e 13 _ rfl⟩, e 14 _ rfl, e 15 _ rfl, e 16 _ rfl⟩

theorem add_g0 (g k : Nat) : (⟨g, 0, none⟩ : Addr).add k = ⟨g, k, none⟩ := by
  rw [add_flat]; simp

def noN : Nd := ⟨noB, -1, -1, -1⟩

/-- The node of a place. -/
def nodeAt (ns : List Nd) (i : Int) : Nd := if 0 ≤ i ∧ i < ns.length then ns.getD i.toNat noN else noN

/-- The nodes of a tree lie in a slice, of which a box of one cell tells. -/
structure InT (w : World) (B g : Nat) (A : Option Addr) (c : Nat) (ns : List Nd) : Prop where
  box : Boxed w g 99 (.slice A ns.length c)
  mine : MineN w B A ns.length c ns

theorem InT.below {w w' : World} {B g : Nat} {A : Option Addr} {c : Nat} {ns : List Nd} (h : InT w B g A c ns) (k : Below w.heap.size w w') : InT w' B g A c ns :=
  ⟨h.box.kept (grown_of_below k) (by simp), h.mine.below k⟩

theorem InT.alloc {w : World} {B g : Nat} {A : Option Addr} {c : Nat} {ns : List Nd} (h : InT w B g A c ns) (o : Obj) : InT (w.alloc o) B g A c ns := ⟨h.box.alloc o, h.mine.alloc o⟩

theorem InT.at {w : World} {B g : Nat} {A : Option Addr} {c : Nat} {ns : List Nd} (h : InT w B g A c ns) (k : Nat) (hk : k < ns.length) : ∃ a, A = some ⟨a, 0, none⟩ ∧ a < w.heap.size ∧ ns.length ≤ c ∧ AtN w ⟨a, k * 17, none⟩ (ns.getD k noN) := by
  obtain ⟨a, rfl, _, ha, hc, _⟩ := h.mine.form (by omega)
  exact ⟨a, rfl, ha, hc, AtN.of_mine h.mine k _ (by simp [List.getD, hk])⟩

theorem AtN.range {w : World} {a o : Nat} {x : Nd} (h : AtN w ⟨a, o, none⟩ x) : w.rangeAt a o (cellsOfN x) := by
  obtain ⟨⟨c0, c1, c2, c3, c4, c5, c6, c7, c8, c9, c10, c11, c12, c13⟩, c14, c15, c16⟩ := h
  intro j v hj
  have hlt : j < 17 := (List.getElem?_eq_some_iff.1 hj).1
  obtain rfl | rfl | rfl | rfl | rfl | rfl | rfl | rfl | rfl | rfl | rfl | rfl | rfl | rfl | rfl | rfl | rfl : j = 0 ∨ j = 1 ∨ j = 2 ∨ j = 3 ∨ j = 4 ∨ j = 5 ∨ j = 6 ∨ j = 7 ∨ j = 8 ∨ j = 9 ∨ j = 10 ∨ j = 11 ∨ j = 12 ∨ j = 13 ∨ j = 14 ∨ j = 15 ∨ j = 16 := by omega
  all_goals (injection hj with hj; subst hj; assumption)

theorem AtN.below {w w' : World} {B : Nat} {p : Addr} {x : Nd} (h : AtN w p x) (hp : p.block < B) (k : Below B w w') : AtN w' p x := by
  have e : ∀ o, w'.cell? ⟨p.block, o, none⟩ = w.cell? ⟨p.block, o, none⟩ := fun o => k.cell (p := ⟨p.block, o, none⟩) hp
  obtain ⟨h0, h1, h2, h3⟩ := h
  exact ⟨h0.below hp k, (e _).trans h1, (e _).trans h2, (e _).trans h3⟩

def zeroN : Array Value := #[.int .i64 0, .int .i64 0, .int .i64 0, .int .i64 0, .int .i64 0, .int .i64 0, .int .i64 0, .int .i64 0, .int .i64 0, .int .i64 0, .int .i64 0, .int .i64 0, .int .i64 0, .int .i64 0, .int .i64 0, .int .i64 0, .int .i64 0]

theorem sizeN : (Tryz.prog.info? 114).map (·.size) = some 17 := by kernel_rfl

set_option maxRecDepth 100000 in
set_option maxHeartbeats 1000000 in
theorem at_in (w : World) (B g : Nat) (A : Option Addr) (c : Nat) (ns : List Nd) (k : Nat) (hk : k < ns.length) (hT : InT w B g A c ns) :
    Calls Tryz.prog 60 #[.pointer (some ⟨g, 0, none⟩), .int .i64 (k : Int)] w fun e w' => e = .returned (ns.getD k noN).v ∧ Below w.heap.size w w' := by
  have hc := hT.box.cell
  have hlt := hT.box.lt
  obtain ⟨a, rfl, ha, hcap, hx⟩ := hT.at k hk
  generalize ns.getD k noN = x at hx
  have hg1 : ¬ (k : Int) < 0 := by omega
  have hg2 : ¬ (ns.length : Int) ≤ (k : Int) := by omega
  generalize ns.length = n at *
  clear hT
  go_enter Tryz.func60, Tryz.ntmps60
  go_upto_region 1 with fail
  generalize hW : w.alloc _ = W
  have hb : Below w.heap.size w W := by subst hW; exact ba1 _ _
  have hz : W.heap[w.heap.size]? = some (.cells zeroN 114) := by subst hW; exact heap_alloc_new _ _
  have hc1 : W.cell? ⟨g, 0, none⟩ = some (.slice (some ⟨a, 0, none⟩) n c) := (hb.cell (p := ⟨g, 0, none⟩) hlt).trans hc
  have hR := (hx.below ha hb).range
  clear hc hlt hx hW
  go_wp2_with (first
    | (refine wpList_load_mid rfl 114 (.tmp 22) rfl a (k * 17) rfl (cellsOfN x) _ hR Tryz.underlying114 rfl sizeN ?_)
    | (refine wpList_store_row rfl 114 (.tmp 4) (.tmp 23) rfl w.heap.size (cellsOfN x).toArray rfl rfl 114 zeroN hz sizeN rfl (all_oneCell_toArray (cellsOfN_one x)) ?_))
  have hz2 := setRow_heap W w.heap.size zeroN (cellsOfN x).toArray _ _ hz
  exact bodyPost_ret (v := x.v) (results_cell_row (p := 4) (ty := 114) rfl _ _ w.heap.size _ (cellsOfN x).toArray _ _ rfl hz2 Tryz.underlying114 rfl sizeN) rfl ⟨rfl, below_setRow hb (Nat.le_refl _) _⟩

set_option maxRecDepth 100000 in
set_option maxHeartbeats 1000000 in
theorem at_out (w : World) (B g : Nat) (A : Option Addr) (c : Nat) (ns : List Nd) (i : Int) (hi : ¬ (0 ≤ i ∧ i < ns.length)) (hT : InT w B g A c ns) :
    Calls Tryz.prog 60 #[.pointer (some ⟨g, 0, none⟩), .int .i64 i] w fun e w' => e = .returned noN.v ∧ Below w.heap.size w w' := by
  have hc := hT.box.cell
  have hlt := hT.box.lt
  generalize ns.length = n at *
  clear hT
  go_enter Tryz.func60, Tryz.ntmps60
  go_upto_region 1 with fail
  generalize hW : w.alloc _ = W
  have hb : Below w.heap.size w W := by subst hW; exact ba1 _ _
  have hz : W.heap[w.heap.size]? = some (.cells zeroN 114) := by subst hW; exact heap_alloc_new _ _
  have hc1 : W.cell? ⟨g, 0, none⟩ = some (.slice A n c) := (hb.cell (p := ⟨g, 0, none⟩) hlt).trans hc
  clear hc hlt hW
  by_cases h : i < 0
  · go_wp2_with (first | (refine wpList_store_row rfl 114 (.tmp 4) (.tmp 16) rfl w.heap.size (cellsOfN noN).toArray rfl rfl 114 zeroN hz sizeN rfl (all_oneCell_toArray (cellsOfN_one noN)) ?_))
    have hz2 := setRow_heap W w.heap.size zeroN (cellsOfN noN).toArray _ _ hz
    exact bodyPost_ret (v := noN.v) (results_cell_row (p := 4) (ty := 114) rfl _ _ w.heap.size _ (cellsOfN noN).toArray _ _ rfl hz2 Tryz.underlying114 rfl sizeN) rfl ⟨rfl, below_setRow hb (Nat.le_refl _) _⟩
  · have h2 : (n : Int) ≤ i := by omega
    go_wp2_with (first | (refine wpList_store_row rfl 114 (.tmp 4) (.tmp 16) rfl w.heap.size (cellsOfN noN).toArray rfl rfl 114 zeroN hz sizeN rfl (all_oneCell_toArray (cellsOfN_one noN)) ?_))
    have hz2 := setRow_heap W w.heap.size zeroN (cellsOfN noN).toArray _ _ hz
    exact bodyPost_ret (v := noN.v) (results_cell_row (p := 4) (ty := 114) rfl _ _ w.heap.size _ (cellsOfN noN).toArray _ _ rfl hz2 Tryz.underlying114 rfl sizeN) rfl ⟨rfl, below_setRow hb (Nat.le_refl _) _⟩

theorem at_any (w : World) (B g : Nat) (A : Option Addr) (c : Nat) (ns : List Nd) (i : Int) (hT : InT w B g A c ns) :
    Calls Tryz.prog 60 #[.pointer (some ⟨g, 0, none⟩), .int .i64 i] w fun e w' => e = .returned (nodeAt ns i).v ∧ Below w.heap.size w w' := by
  unfold nodeAt
  by_cases h : 0 ≤ i ∧ i < ns.length
  · rw [if_pos h]
    obtain ⟨k, rfl⟩ : ∃ k : Nat, i = k := ⟨i.toNat, by omega⟩
    exact at_in w B g A c ns k (by omega) hT
  · rw [if_neg h]
    exact at_out w B g A c ns i h hT

theorem fieldN0 (x : Nd) (w : World) : (Instr.field 114 x.v 0).run Tryz.prog w = .ok x.b.v w := by kernel_rfl
theorem fieldN1 (x : Nd) (w : World) : (Instr.field 114 x.v 1).run Tryz.prog w = .ok (.int .i64 x.p) w := by kernel_rfl
theorem fieldN2 (x : Nd) (w : World) : (Instr.field 114 x.v 2).run Tryz.prog w = .ok (.int .i64 x.e) w := by kernel_rfl
theorem fieldN3 (x : Nd) (w : World) : (Instr.field 114 x.v 3).run Tryz.prog w = .ok (.int .i64 x.c) w := by kernel_rfl

def zeroB : Array Value := #[.int .i64 0, .int .i64 0, .int .i64 0, .int .i64 0, .int .i64 0, .int .i64 0, .int .i64 0, .int .i64 0, .int .i64 0, .int .i64 0, .int .i64 0, .int .i64 0, .int .i64 0, .int .i64 0]

theorem sizeB : (Tryz.prog.info? 64).map (·.size) = some 14 := by kernel_rfl

theorem cellsOfB_one (x : Bx) : ∀ u ∈ cellsOfB x, u.oneCell' = true := by
  intro u h
  simp only [cellsOfB, List.mem_cons, List.not_mem_nil, or_false] at h
  rcases h with h | h | h | h | h | h | h | h | h | h | h | h | h | h <;> (subst h; rfl)

set_option maxHeartbeats 1000000 in
theorem tbox_any (w : World) (B g : Nat) (A : Option Addr) (c : Nat) (ns : List Nd) (i : Int) (hT : InT w B g A c ns) :
    Calls Tryz.prog 43 #[.pointer (some ⟨g, 0, none⟩), .int .i64 i] w fun e w' => e = .returned (nodeAt ns i).b.v ∧ Below w.heap.size w w' := by
  obtain ⟨x, hx⟩ : ∃ x, nodeAt ns i = x := ⟨_, rfl⟩
  rw [hx]
  go_enter Tryz.func43, Tryz.ntmps43
  go_upto_region 1 with fail
  generalize hW : w.alloc _ = W
  have hb : Below w.heap.size w W := by subst hW; exact ba1 _ _
  have hz : W.heap[w.heap.size]? = some (.cells zeroB 64) := by subst hW; exact heap_alloc_new _ _
  have hA := at_any _ B g A c ns i (hT.below hb)
  rw [hx] at hA
  have hf := fieldN0 x
  clear hW hT hx
  have hlt : w.heap.size < W.heap.size := (Array.getElem?_eq_some_iff.1 hz).1
  go_wp2_with (first
    | (go_at_call 60; refine hA.mono ?_; rintro e w1 ⟨rfl, k1⟩; have hz1 := (k1.block _ hlt).trans hz)
    | (refine wpList_store_row rfl 64 (.tmp 4) (.tmp 8) rfl w.heap.size (cellsOfB x.b).toArray rfl rfl 64 zeroB hz1 sizeB rfl (all_oneCell_toArray (cellsOfB_one x.b)) ?_))
  have hz2 := setRow_heap w1 w.heap.size zeroB (cellsOfB x.b).toArray _ _ hz1
  exact bodyPost_ret (v := x.b.v) (results_cell_row (p := 4) (ty := 64) rfl _ _ w.heap.size _ (cellsOfB x.b).toArray _ _ rfl hz2 Tryz.underlying64 rfl sizeB) rfl ⟨rfl, below_setRow (thru hb k1) (Nat.le_refl _) _⟩

set_option maxHeartbeats 1000000 in
theorem tend_any (w : World) (B g : Nat) (A : Option Addr) (c : Nat) (ns : List Nd) (i : Int) (hT : InT w B g A c ns) :
    Calls Tryz.prog 62 #[.pointer (some ⟨g, 0, none⟩), .int .i64 i] w fun e w' => e = .returned (.int .i64 (nodeAt ns i).e) ∧ Below w.heap.size w w' := by
  have hA := at_any _ B g A c ns i hT
  have hf := fieldN2 (nodeAt ns i)
  generalize nodeAt ns i = x at *
  clear hT
  go_enter Tryz.func62, Tryz.ntmps62
  go_wp2_with (first
    | (go_at_call 60; refine hA.mono ?_; rintro e w1 ⟨rfl, k1⟩))
  go_ret
  exact ⟨rfl, k1⟩

end Go.Proofs.YtfomhdhiibcdfaaGreat.Tree
