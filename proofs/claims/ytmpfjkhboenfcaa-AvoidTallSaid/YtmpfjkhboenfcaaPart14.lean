/- Texts of this proof that follow each other, in one file. -/
import Derived.Test.YtmpfjkhboenfcaaPart13
import Derived.Test.YtmpfjkhboenfcaaPart4
import Derived.Test.YtmpfjkhboenfcaaPart12
/-! The contracts of the document's looks at wants and floats, and of the law's own conversion. -/
namespace Go.Proofs.Ytmpfjkhboenfcaa.Place
open Go.RowKit Go.Sort Go.Proofs.Ytmpfjkhboenfcaa.Rect Go.Proofs.Ytmpfjkhboenfcaa.More Go.Proofs.Ytmpfjkhboenfcaa.Shelf Go.Proofs.Ytmpfjkhboenfcaa.Space
set_option linter.unusedVariables false
set_option linter.unusedSimpArgs false

abbrev Wt.v (x : Wt) : Value := .agg #[.int .i64 x.s, .int .i64 x.c, .int .i64 x.f, .int .i64 x.t, .int .i64 x.wd, .int .i64 x.ht, .int .i64 x.y]

/-- The seven numbers of a want that lies at a block. -/
def AtW (w : World) (b : Nat) (x : Wt) : Prop :=
  w.cell? ⟨b, 0, none⟩ = some (.int .i64 x.s) ∧ w.cell? ⟨b, 1, none⟩ = some (.int .i64 x.c) ∧ w.cell? ⟨b, 2, none⟩ = some (.int .i64 x.f) ∧ w.cell? ⟨b, 3, none⟩ = some (.int .i64 x.t) ∧ w.cell? ⟨b, 4, none⟩ = some (.int .i64 x.wd) ∧ w.cell? ⟨b, 5, none⟩ = some (.int .i64 x.ht) ∧ w.cell? ⟨b, 6, none⟩ = some (.int .i64 x.y)

theorem AtW.below {w w' : World} {b : Nat} {x : Wt} (h : AtW w b x) (k : Below w.heap.size w w') : AtW w' b x := by
  obtain ⟨h0, h1, h2, h3, h4, h5, h6⟩ := h
  have hb := block_lt_of_cell h0
  exact ⟨(k.cell (p := ⟨b, 0, none⟩) hb).trans h0, (k.cell (p := ⟨b, 1, none⟩) hb).trans h1, (k.cell (p := ⟨b, 2, none⟩) hb).trans h2, (k.cell (p := ⟨b, 3, none⟩) hb).trans h3, (k.cell (p := ⟨b, 4, none⟩) hb).trans h4, (k.cell (p := ⟨b, 5, none⟩) hb).trans h5, (k.cell (p := ⟨b, 6, none⟩) hb).trans h6⟩

theorem AtW.block {w : World} {b : Nat} {x : Wt} (h : AtW w b x) : b < w.heap.size := block_lt_of_cell h.1

theorem atW_boxed (w : World) (x : Wt) (T : TypeId) : AtW (w.alloc (.cells #[.int .i64 x.s, .int .i64 x.c, .int .i64 x.f, .int .i64 x.t, .int .i64 x.wd, .int .i64 x.ht, .int .i64 x.y] T)) w.heap.size x := by
  refine ⟨?_, ?_, ?_, ?_, ?_, ?_, ?_⟩ <;> simp [go_sem]

theorem thruS {S : World → (Nat → Prop) → Addr → List Fl → Prop} (hO : SpaceOk S) {w w' : World} {F : Nat → Prop} {p : Addr} {fs : List Fl} (h : S w F p fs) (k : Below w.heap.size w w') : S w' F p fs :=
  hO.keep _ _ _ (fun _ => False) _ _ h (But.of_below k) (fun _ _ h => h)

/-! Is a want right? -/

theorem all_w (xs : List Int) (k : Nat) (h : k < xs.length) (y : Int) (hy : xs.getD k 0 = y) (hb : inW y = false) : xs.all inW = false := by
  rw [List.all_eq_false]
  refine ⟨y, ?_, by rw [hb]; simp⟩
  rw [← hy]; simp [List.getD, h]

end Go.Proofs.Ytmpfjkhboenfcaa.Place

/-! The contracts of the document's look at floats, and of the law's begin. -/
namespace Go.Proofs.Ytmpfjkhboenfcaa.Place
open Go.RowKit Go.Sort Go.Proofs.Ytmpfjkhboenfcaa.Rect Go.Proofs.Ytmpfjkhboenfcaa.More Go.Proofs.Ytmpfjkhboenfcaa.Shelf Go.Proofs.Ytmpfjkhboenfcaa.Space
set_option linter.unusedVariables false
set_option linter.unusedSimpArgs false

theorem near_take {fs : List Fl} {k : Nat} {f : Fl} (h : fs[k]? = some f) (ha : (fs.take k).all near49 = true) (hf : near49 f = true) : (fs.take (k + 1)).all near49 = true := by
  rw [List.take_add_one, h, List.all_append, ha]
  simp [hf]
theorem near_not {fs : List Fl} {k : Nat} {f : Fl} (h : fs[k]? = some f) (hf : near49 f = false) : fs.all near49 = false := by
  rw [List.all_eq_false]
  exact ⟨f, List.mem_of_getElem? h, by rw [hf]; simp⟩

def numsF (f : Fl) : List Int := [f.l, f.t, f.r, f.b]
theorem near_num {f : Fl} {j : Nat} (hj : j < 4) {x : Int} (hx : (numsF f).getD j 0 = x) (h : in49 x = false) : near49 f = false := by
  unfold near49
  rw [show [f.l, f.t, f.r, f.b].all in49 = false by
    rw [List.all_eq_false]
    refine ⟨x, ?_, by rw [h]; simp⟩
    rw [← hx]
    show (numsF f).getD j 0 ∈ numsF f
    rw [List.getD_eq_getElem?_getD, List.getElem?_eq_getElem (show j < (numsF f).length from hj)]
    exact List.getElem_mem _]
  rfl
theorem near_side {f : Fl} (h : sideF f = false) : near49 f = false := by unfold near49; rw [h]; simp
theorem near_yes {f : Fl} (h : ∀ j, j < 4 → in49 ((numsF f).getD j 0) = true) (hs : sideF f = true) : near49 f = true := by
  unfold near49
  rw [hs]
  have h0 : in49 f.l = true := h 0 (by omega)
  have h1 : in49 f.t = true := h 1 (by omega)
  have h2 : in49 f.r = true := h 2 (by omega)
  have h3 : in49 f.b = true := h 3 (by omega)
  simp [h0, h1, h2, h3]

theorem atF_num {w : World} {p : Addr} {f : Fl} (h : AtF w p f) (j : Nat) (hj : j < 4) {x : Int} (hx : (numsF f).getD j 0 = x) : w.cell? ⟨p.block, p.off + 1 + j, none⟩ = some (.int .i64 x) := by
  obtain ⟨d0, d1, d2, d3, d4⟩ := h
  rw [← hx]
  match j, hj with
  | 0, _ => exact d1
  | 1, _ => exact d2
  | 2, _ => exact d3
  | 3, _ => exact d4
  | j + 4, h => omega

set_option maxRecDepth 100000 in
set_option maxHeartbeats 2000000 in
theorem pnear_is (A : Option Addr) (n c : Nat) (fs : List Fl) (v : Bool) (w : World) (hn : n = fs.length) (hlen : n ≤ 9223372036854775807) (hx : Floats w w.heap.size A fs) (hv : fs.all near49 = v) :
    Calls Try.prog 21 #[.slice A n c] w fun e w' => e = .returned (.bool v) ∧ Below w.heap.size w w' := by
  have HX := Lib.hid hx
  have HN := Lib.hid hn
  have HV := Lib.hid hv
  clear hx hn hv
  go_enter Try.func21, Try.ntmps21
  go_wp2_with fail
  go_loopw [3] (fun i wr => ∃ k : Nat, k ≤ n ∧ i = .int .i64 (k : Int) ∧ Hid ((fs.take k).all near49 = true ∧ Below w.heap.size w wr)) (fun i _ => n - (intOf i).toNat)
  case atStart => exact ⟨0, Nat.zero_le _, rfl, Lib.hid ⟨by simp, Below.refl _ _⟩⟩
  case round =>
    obtain ⟨k, hk, rfl, H⟩ := hrel
    by_cases hlt : k < n
    · have hki : (k : Int) < (n : Int) := by omega
      have hk0 : ¬ (k : Int) < 0 := by omega
      have hdd : decide ((k : Int) < (n : Int)) = true := decide_eq_true hki
      obtain ⟨f, hf⟩ : ∃ f, fs[k]? = some f := ⟨_, List.getElem?_eq_getElem (by rw [← HN.out]; exact hlt)⟩
      have HK := Lib.hid hf
      obtain ⟨ad0, hA0, -⟩ := HX.out k f hf
      subst hA0
      have HXX := Lib.hid (show ∀ w', Below w.heap.size w w' → AtF w' (ad0.add (k * 5)) f from fun w' kk => by
        obtain ⟨ad, e, hab, h⟩ := (HX.out.thru kk) k f hf
        injection e with e
        rw [e]
        exact h)
      clear hf
      obtain ⟨wo, hwo⟩ : ∃ x, x = wr := ⟨_, rfl⟩
      subst hwo
      go_wp2_with fail
      go_loopw [4] (fun i wr => ∃ j : Nat, j ≤ 4 ∧ i = .int .i64 (j : Int) ∧ Hid ((∀ q, q < j → in49 ((numsF f).getD q 0) = true) ∧ Below w.heap.size w wr)) (fun i _ => 4 - (intOf i).toNat)
      case atStart => exact ⟨0, by omega, rfl, Lib.hid ⟨fun q hq => by omega, H.out.2⟩⟩
      case round =>
        obtain ⟨j, hj, rfl, G⟩ := hrel
        by_cases hlj : j < 4
        · have hji : (j : Int) < 4 := by omega
          have hj0 : ¬ (j : Int) < 0 := by omega
          obtain ⟨x, hxj⟩ : ∃ x, (numsF f).getD j 0 = x := ⟨_, rfl⟩
          have hcell := atF_num (HXX.out _ G.out.2) j hlj hxj
          have HXJ := Lib.hid hxj
          clear hxj
          by_cases d1 : x > 562949953421312
          · have hvf : v = false := by rw [← HV.out, near_not HK.out (near_num hlj HXJ.out (by rw [← Bool.not_eq_true, in49_iff]; omega))]
            subst hvf
            go_wp2_with fail
            go_ret
            exact ⟨rfl, G.out.2⟩
          · by_cases d2 : x < -562949953421312
            · have hvf : v = false := by rw [← HV.out, near_not HK.out (near_num hlj HXJ.out (by rw [← Bool.not_eq_true, in49_iff]; omega))]
              subst hvf
              go_wp2_with fail
              go_ret
              exact ⟨rfl, G.out.2⟩
            · have HJ := Lib.hid (show ∀ q, q < j + 1 → in49 ((numsF f).getD q 0) = true from fun q hq => by
                rcases (show q < j ∨ q = j by omega) with e | e
                · exact G.out.1 q e
                · rw [e, HXJ.out, in49_iff]; omega)
              go_wp2_with fail
              go_roundw
              case rel => exact ⟨j + 1, by omega, by go_num, Lib.hid ⟨HJ.out, G.out.2⟩⟩
              case measure => simp [intOf]; omega
        · obtain rfl : j = 4 := by omega
          obtain ⟨d0, -⟩ := HXX.out _ G.out.2
          obtain ⟨s, hs⟩ : ∃ s, f.s = s := ⟨_, rfl⟩
          rw [hs] at d0
          by_cases h1 : s = 1
          · have hb : (s != 1) = false := by simp [h1]
            have HS := Lib.hid (show sideF f = true from sideF_iff.2 (.inl (hs.trans h1)))
            clear h1 hs
            go_wp2_with fail
            go_roundw
            case rel => exact ⟨k + 1, by omega, by go_num, Lib.hid ⟨near_take HK.out H.out.1 (near_yes G.out.1 HS.out), G.out.2⟩⟩
            case measure => simp [intOf]; omega
          · have hb : (s != 1) = true := by simp [h1]
            by_cases h2 : s = 2
            · have hb2 : (s != 2) = false := by simp [h2]
              have HS := Lib.hid (show sideF f = true from sideF_iff.2 (.inr (hs.trans h2)))
              clear h1 h2 hs
              go_wp2_with fail
              go_roundw
              case rel => exact ⟨k + 1, by omega, by go_num, Lib.hid ⟨near_take HK.out H.out.1 (near_yes G.out.1 HS.out), G.out.2⟩⟩
              case measure => simp [intOf]; omega
            · have hb2 : (s != 2) = true := by simp [h2]
              have hvf : v = false := by rw [← HV.out, near_not HK.out (near_side (by unfold sideF; rw [hs]; simp [h1, h2]))]
              subst hvf
              clear h1 h2 hs
              go_wp2_with fail
              go_ret
              exact ⟨rfl, G.out.2⟩
    · obtain rfl : k = n := by omega
      have hall : v = true := by rw [← HV.out]; have := H.out.1; rwa [List.take_of_length_le (by rw [← HN.out]; omega)] at this
      subst hall
      go_wp2_with fail
      go_ret
      exact ⟨rfl, H.out.2⟩

section
variable {S : World → (Nat → Prop) → Addr → List Fl → Prop}

end

end Go.Proofs.Ytmpfjkhboenfcaa.Place

/-! The contracts of the document's look at a want, of the law's own conversion and of its begin. -/
namespace Go.Proofs.Ytmpfjkhboenfcaa.Avoid
open Go.RowKit Go.Sort Go.Proofs.Ytmpfjkhboenfcaa.Rect Go.Proofs.Ytmpfjkhboenfcaa.More Go.Proofs.Ytmpfjkhboenfcaa.Shelf Go.Proofs.Ytmpfjkhboenfcaa.Space Go.Proofs.Ytmpfjkhboenfcaa.Place
set_option linter.unusedVariables false
set_option linter.unusedSimpArgs false

abbrev Vt.v (x : Vt) : Value := .agg #[.int .i64 x.f, .int .i64 x.t, .int .i64 x.wd, .int .i64 x.ht, .int .i64 x.y]

/-- The five numbers of a want that lies at a block. -/
def AtV (w : World) (b : Nat) (x : Vt) : Prop :=
  w.cell? ⟨b, 0, none⟩ = some (.int .i64 x.f) ∧ w.cell? ⟨b, 1, none⟩ = some (.int .i64 x.t) ∧ w.cell? ⟨b, 2, none⟩ = some (.int .i64 x.wd) ∧ w.cell? ⟨b, 3, none⟩ = some (.int .i64 x.ht) ∧ w.cell? ⟨b, 4, none⟩ = some (.int .i64 x.y)

theorem AtV.below {w w' : World} {b : Nat} {x : Vt} (h : AtV w b x) (k : Below w.heap.size w w') : AtV w' b x := by
  obtain ⟨h0, h1, h2, h3, h4⟩ := h
  have hb := block_lt_of_cell h0
  exact ⟨(k.cell (p := ⟨b, 0, none⟩) hb).trans h0, (k.cell (p := ⟨b, 1, none⟩) hb).trans h1, (k.cell (p := ⟨b, 2, none⟩) hb).trans h2, (k.cell (p := ⟨b, 3, none⟩) hb).trans h3, (k.cell (p := ⟨b, 4, none⟩) hb).trans h4⟩

theorem AtV.block {w : World} {b : Nat} {x : Vt} (h : AtV w b x) : b < w.heap.size := block_lt_of_cell h.1

theorem atV_boxed (w : World) (x : Vt) (T : TypeId) : AtV (w.alloc (.cells #[.int .i64 x.f, .int .i64 x.t, .int .i64 x.wd, .int .i64 x.ht, .int .i64 x.y] T)) w.heap.size x := by
  refine ⟨?_, ?_, ?_, ?_, ?_⟩ <;> simp [go_sem]

set_option maxHeartbeats 400000 in
theorem vwantOf_any (x : Vt) (w : World) :
    Calls Try.prog 13 #[x.v] w fun e w' => e = .returned x.v ∧ Below w.heap.size w w' := by
  go_enter Try.func13, Try.ntmps13
  go_wp2
  all_goals exact bodyPost_ret (v := x.v) (by simp [results, Try.results13, go_sem]) rfl ⟨rfl, by first | exact ba1 _ _ | exact ba2 _ _ _⟩

set_option maxRecDepth 100000 in
set_option maxHeartbeats 1000000 in
theorem vright_is (x : Vt) (v : Bool) (hv : rightV x = v) (w : World) :
    Calls Try.prog 11 #[x.v] w fun e w' => e = .returned (.bool v) ∧ Below w.heap.size w w' := by
  obtain ⟨xs, hxs⟩ : ∃ xs : List Int, x.nums = xs := ⟨_, rfl⟩
  obtain ⟨c, hc⟩ : ∃ c : Bool, decide (0 ≤ x.wd) = c := ⟨_, rfl⟩
  have HXS := Lib.hid hxs
  have HC := Lib.hid hc
  have HV := Lib.hid (show (xs.all inW && c) = v by rw [← hv, ← hc, ← hxs]; rfl)
  clear hv hxs hc
  go_enter Try.func11, Try.ntmps11
  go_upto_region 1 with fail
  generalize hW : World.alloc w _ = W
  obtain ⟨b0, hb0⟩ : ∃ b0, w.heap.size = b0 := ⟨_, rfl⟩
  have KW := Lib.hid (show Below w.heap.size w W by rw [← hW]; exact ba1 _ _)
  have AW := Lib.hid (show AtV W b0 x by rw [← hW, ← hb0]; exact atV_boxed _ _ _)
  rw [hb0]
  clear hW hb0
  obtain ⟨c0, c1, c2, c3, c4⟩ := AW.out
  go_wp2_with fail
  generalize hV : World.alloc W _ = V
  obtain ⟨rb, hrb⟩ : ∃ rb, W.heap.size = rb := ⟨_, rfl⟩
  have hkV : Below W.heap.size W V := by rw [← hV]; exact ba1 _ _
  have hcs : ∀ k : Nat, k < 5 → V.cell? ⟨rb, k, none⟩ = some (.int .i64 (xs.getD k 0)) := by
    intro k hk
    rw [← hV, ← hrb, ← HXS.out]
    match k, hk with
    | 0, _ => simp [go_sem, Vt.nums]
    | 1, _ => simp [go_sem, Vt.nums]
    | 2, _ => simp [go_sem, Vt.nums]
    | 3, _ => simp [go_sem, Vt.nums]
    | 4, _ => simp [go_sem, Vt.nums]
    | k + 5, h => omega
  rw [hrb]
  have HCS := Lib.hid hcs
  have AV := Lib.hid (AW.out.below hkV)
  have KV := Lib.hid (thru KW.out hkV)
  have hlx := Lib.hid (show xs.length = 5 by rw [← HXS.out]; rfl)
  clear hV hkV hrb hcs c0 c1 c2 c3 c4 AW KW
  go_loop [17] (fun i => ∃ k : Nat, k ≤ 5 ∧ i = .int .i64 (k : Int) ∧ Hid (∀ j, j < k → inW (xs.getD j 0) = true)) (fun i => 5 - (intOf i).toNat)
  case atStart => exact ⟨0, by omega, rfl, Lib.hid fun j hj => by omega⟩
  case round =>
    obtain ⟨k, hk, rfl, H⟩ := hrel
    by_cases hlt : k < 5
    · have hki : (k : Int) < 5 := by omega
      have hk0 : ¬ (k : Int) < 0 := by omega
      have hcell := HCS.out k hlt
      obtain ⟨y, hxk⟩ : ∃ y, xs.getD k 0 = y := ⟨_, rfl⟩
      rw [hxk] at hcell
      have HXK := Lib.hid hxk
      clear hxk
      by_cases d1 : y > 281474976710656
      · have hvf : v = false := by rw [← HV.out, all_w xs k (by rw [hlx.out]; exact hlt) y HXK.out (by rw [← Bool.not_eq_true, inW_iff]; omega)]; rfl
        subst hvf
        go_wp2_with fail
        go_ret
        exact ⟨rfl, KV.out⟩
      · by_cases d2 : y < -281474976710656
        · have hvf : v = false := by rw [← HV.out, all_w xs k (by rw [hlx.out]; exact hlt) y HXK.out (by rw [← Bool.not_eq_true, inW_iff]; omega)]; rfl
          subst hvf
          go_wp2_with fail
          go_ret
          exact ⟨rfl, KV.out⟩
        · have HJ := Lib.hid (show ∀ j, j < k + 1 → inW (xs.getD j 0) = true from fun j hj => by
            rcases (show j < k ∨ j = k by omega) with e | e
            · exact H.out j e
            · rw [e, HXK.out, inW_iff]; omega)
          go_wp2_with fail
          go_round
          case rel => exact ⟨k + 1, by omega, by go_num, HJ⟩
          case measure => simp [intOf]; omega
    · obtain rfl : k = 5 := by omega
      have hall : xs.all inW = true := by
        rw [List.all_eq_true]
        intro y hy
        obtain ⟨j, hj, rfl⟩ := List.getElem_of_mem hy
        have := H.out j (by rw [hlx.out] at hj; exact hj)
        rwa [List.getD_eq_getElem?_getD, List.getElem?_eq_getElem hj] at this
      have hcv : c = v := by rw [← HV.out, hall]; rfl
      subst hcv
      clear H hlt hk hall
      obtain ⟨c0, c1, c2, c3, c4⟩ := AV.out
      go_wp2_with fail
      exact bodyPost_ret (v := .bool c) (by rw [← HC.out]; simp [results, Try.results11, go_sem]) rfl ⟨rfl, KV.out⟩

section
variable {S : World → (Nat → Prop) → Addr → List Fl → Prop}

set_option maxRecDepth 100000 in
set_option maxHeartbeats 600000 in
theorem vbegin_no (A : Option Addr) (n c : Nat) (fs : List Fl) (m : Int) (w : World) (hn : n = fs.length) (hlen : n ≤ 9223372036854775807) (hx : Floats w w.heap.size A fs) (hv : (fs.all near49 && decide ((n : Int) ≤ m)) = false) :
    Calls Try.prog 9 #[.slice A n c, .int .i64 m] w fun r w' => r = .returned (.pointer none) ∧ Below w.heap.size w w' := by
  obtain ⟨v, hvv⟩ : ∃ v, fs.all near49 = v := ⟨_, rfl⟩
  have HNe := Lib.hid (pnear_is A n c fs v w hn hlen hx hvv)
  rw [hvv] at hv
  clear hx hn hvv
  cases v
  · clear hv
    go_enter Try.func9, Try.ntmps9
    go_wp2_with (first
      | (go_at_call 21; refine HNe.out.mono ?_; rintro e w1 ⟨rfl, k1⟩; have K1 := Lib.hid k1; clear k1))
    go_ret
    exact ⟨rfl, K1.out⟩
  · have hm : m < (n : Int) := by simpa using hv
    clear hv
    go_enter Try.func9, Try.ntmps9
    go_wp2_with (first
      | (go_at_call 21; refine HNe.out.mono ?_; rintro e w1 ⟨rfl, k1⟩; have K1 := Lib.hid k1; clear k1))
    go_ret
    exact ⟨rfl, K1.out⟩

set_option maxRecDepth 100000 in
set_option maxHeartbeats 600000 in
theorem vbegin_any (hO : SpaceOk S) (A : Option Addr) (n c : Nat) (fs : List Fl) (m : Int) (w : World) (hn : n = fs.length) (hlen : n ≤ 1000) (hm : (n : Int) ≤ m) (hx : Floats w w.heap.size A fs) (hs : fs.all near49 = true) :
    Calls Try.prog 9 #[.slice A n c, .int .i64 m] w fun r w' => (∃ p F, r = .returned (.pointer (some p)) ∧ S w' F p fs ∧ ∀ k, F k → w.heap.size ≤ k) ∧ Below w.heap.size w w' := by
  have HNe := Lib.hid (pnear_is A n c fs true w hn (by omega) hx hs)
  have HBe := Lib.hid (fun w1 (k : Below w.heap.size w w1) => pbegin_any hO A n c fs w1 hn hlen (hx.thru k) (near49_near hs) (near49_side hs))
  have hm2 : ¬ m < (n : Int) := by omega
  clear hx hn hs hm
  go_enter Try.func9, Try.ntmps9
  go_wp2_with (first
    | (go_at_call 21; refine HNe.out.mono ?_; rintro e w1 ⟨rfl, k1⟩; have K1 := Lib.hid k1; clear k1)
    | (go_at_call 22; refine (HBe.out _ K1.out).mono ?_; rintro e w2 ⟨⟨p, F, rfl, hL, hF⟩, k2⟩; have HL := Lib.hid (⟨hL, (fun k q => Nat.le_trans K1.out.size (hF k q)), thru K1.out k2⟩ : S w2 F p fs ∧ (∀ k, F k → w.heap.size ≤ k) ∧ Below w.heap.size w w2); clear hL hF k2))
  go_ret
  exact ⟨⟨p, F, rfl, HL.out.1, HL.out.2.1⟩, HL.out.2.2⟩

end

end Go.Proofs.Ytmpfjkhboenfcaa.Avoid

/-! A want that came in. -/
namespace Go.Proofs.Ytmpfjkhboenfcaa.Avoid
open Go.ChangeShapes Go.WideShapes Go.ChangeAt Go.RowKit Go.Proofs.Ytmpfjkhboenfcaa.Rect Go.Proofs.Ytmpfjkhboenfcaa.Shelf
set_option linter.unusedVariables false
set_option maxRecDepth 100000

theorem cellsV : Try.prog.cellsOf 24 = 5 := by kernel_rfl

def cellsVt (x : Vt) : List Value := [.int .i64 x.f, .int .i64 x.t, .int .i64 x.wd, .int .i64 x.ht, .int .i64 x.y]

section
variable {H : Type} {enc : TypeId × Value → H} {w : World} {base : Nat} {spare : Nat → Bool} {held : Bool}

theorem list5 {α : Type} {l : List α} (h : l.length = 5) : ∃ c0 c1 c2 c3 c4, l = [c0, c1, c2, c3, c4] := by
  match l, h with
  | [c0, c1, c2, c3, c4], _ => exact ⟨c0, c1, c2, c3, c4, rfl⟩

/-- The cells of a want that is read. -/
theorem cells_vant {n : Nat} {cs : List Value} {y : DataW H × List MemPlace} (hl : cs.length = 5) (h : DataW.trod enc Try.prog w base spare held n 24 cs = some y) : ∃ x : Vt, cs = cellsVt x := by
  obtain ⟨c0, c1, c2, c3, c4, rfl⟩ := list5 hl
  obtain ⟨xs, n, _, _, _, hlen, hf⟩ := DataW.trod_struct Try.underlying24 h
  match xs, hlen with
  | [y0, y1, y2, y3, y4], _ =>
    have f0 : DataW.trod enc Try.prog w base spare held n 3 ((([c0, c1, c2, c3, c4] : List Value).drop 0).take (Try.prog.cellsOf 3)) = some y0 := hf 0 _ rfl
    have f1 : DataW.trod enc Try.prog w base spare held n 3 ((([c0, c1, c2, c3, c4] : List Value).drop 1).take (Try.prog.cellsOf 3)) = some y1 := hf 1 _ rfl
    have f2 : DataW.trod enc Try.prog w base spare held n 3 ((([c0, c1, c2, c3, c4] : List Value).drop 2).take (Try.prog.cellsOf 3)) = some y2 := hf 2 _ rfl
    have f3 : DataW.trod enc Try.prog w base spare held n 3 ((([c0, c1, c2, c3, c4] : List Value).drop 3).take (Try.prog.cellsOf 3)) = some y3 := hf 3 _ rfl
    have f4 : DataW.trod enc Try.prog w base spare held n 3 ((([c0, c1, c2, c3, c4] : List Value).drop 4).take (Try.prog.cellsOf 3)) = some y4 := hf 4 _ rfl
    rw [cellsI] at f0 f1 f2 f3 f4
    simp only [List.drop_succ_cons, List.drop_zero, List.take_succ_cons, List.take_zero] at f0 f1 f2 f3 f4
    obtain ⟨x0, e0, -, -⟩ := DataW.trod_int Try.underlying3 f0
    obtain ⟨x1, e1, -, -⟩ := DataW.trod_int Try.underlying3 f1
    obtain ⟨x2, e2, -, -⟩ := DataW.trod_int Try.underlying3 f2
    obtain ⟨x3, e3, -, -⟩ := DataW.trod_int Try.underlying3 f3
    obtain ⟨x4, e4, -, -⟩ := DataW.trod_int Try.underlying3 f4
    simp only [List.cons.injEq, and_true] at e0 e1 e2 e3 e4
    subst e0 e1 e2 e3 e4
    exact ⟨⟨x0, x1, x2, x3, x4⟩, rfl⟩

/-- One want that came in. -/
theorem open_vant {r : Reach} {b0 : Nat} {v : Value} {d : DataW H} {p : List MemPlace} (hv : Value.okWide Try.prog w r b0 24 v) (h : DataW.Trod enc Try.prog w base spare held 24 v d p) :
    ∃ x : Vt, v = x.v := by
  obtain ⟨cs, rfl, hsz⟩ := okWide_struct Try.underlying24 hv
  obtain ⟨fuel, hf⟩ := h
  obtain ⟨f, hf2⟩ := cells_vant (by rw [show (Value.agg cs).cells.toList = cs.toList by simp [Value.cells], Array.length_toList]; exact hsz.trans cellsV) hf
  refine ⟨f, ?_⟩
  have e : cs.toList = cellsVt f := by simpa [Value.cells] using hf2
  have e2 : cs = (cellsVt f).toArray := by rw [← e]
  rw [e2]
  rfl

end

end Go.Proofs.Ytmpfjkhboenfcaa.Avoid

/-! The contracts of alike and of slices.CompactFunc, on a part of a row. -/
namespace Go.Proofs.Ytmpfjkhboenfcaa.Shelf
open Go.RowKit Go.Sort Go.Proofs.Ytmpfjkhboenfcaa.Rect Go.Proofs.Ytmpfjkhboenfcaa.More
set_option linter.unusedVariables false

set_option maxHeartbeats 400000 in
theorem alike_any (a b : Sh) (w : World) :
    Calls Try.prog 65 #[.agg #[.int .i64 a.1, .int .i64 a.2.1, .int .i64 a.2.2], .agg #[.int .i64 b.1, .int .i64 b.2.1, .int .i64 b.2.2]] w fun e w' => e = .returned (.bool (decide (a.2 = b.2))) ∧ Below w.heap.size w w' := by
  obtain ⟨a1, a2, a3⟩ := a
  obtain ⟨b1, b2, b3⟩ := b
  have hv : decide (((a2, a3) : Int × Int) = (b2, b3)) = (decide (a2 = b2) && decide (a3 = b3)) := by simp [Prod.mk.injEq]
  dsimp only
  rw [hv]
  clear hv
  by_cases h1 : a2 = b2
  · subst h1
    by_cases h2 : a3 = b3
    · subst h2
      go_enter Try.func65, Try.ntmps65
      go_wp2
      go_ret
      exact ⟨by simp, ba2 _ _ _⟩
    · go_enter Try.func65, Try.ntmps65
      go_wp2
      go_ret
      exact ⟨by simp [h2], ba2 _ _ _⟩
  · go_enter Try.func65, Try.ntmps65
    go_wp2
    go_ret
    exact ⟨by simp [h1], ba2 _ _ _⟩

/-! Lists without what is like the one ahead. -/

def compL : List Sh → List Sh
  | [] => []
  | x :: r => x :: compR x r

theorem compR_snoc : ∀ (l : List Sh) (q y z : Sh), (q :: l).getLast? = some z → compR q (l ++ [y]) = compR q l ++ (if y.2 = z.2 then [] else [y])
  | [], q, y, z, h => by
    have h' : q = z := by simpa using h
    subst h'
    simp [compR]
  | x :: l, q, y, z, h => by
    rw [List.getLast?_cons_cons] at h
    rw [List.cons_append, compR, compR, compR_snoc l x y z h, List.append_assoc]

theorem compL_snoc (l : List Sh) (y z : Sh) (h : l.getLast? = some z) : compL (l ++ [y]) = compL l ++ (if y.2 = z.2 then [] else [y]) := by
  cases l with
  | nil => simp at h
  | cons x r =>
    rw [List.cons_append]
    show x :: compR x (r ++ [y]) = x :: compR x r ++ _
    rw [compR_snoc r x y z h, List.cons_append]

/-- One more is looked at. -/
theorem compL_next {mid : List Sh} {k : Nat} {y z : Sh} (hy : mid[k + 1]? = some y) (hz : mid[k]? = some z) : compL (mid.take (k + 2)) = compL (mid.take (k + 1)) ++ (if y.2 = z.2 then [] else [y]) := by
  rw [show k + 2 = (k + 1) + 1 by omega, List.take_add_one, hy]
  refine compL_snoc _ y z ?_
  rw [List.take_add_one, hz]
  simp

theorem compL_one {mid : List Sh} (h : 1 ≤ mid.length) : compL (mid.take 1) = mid.take 1 := by
  cases mid with
  | nil => simp at h
  | cons x r => rfl

/-- The numbers of one of a row. -/
theorem row_at {w : World} {B g n c : Nat} {xs : List Sh} (h : MineE encSh 93 w B (some ⟨g, 0, none⟩) n c xs) {k j : Nat} {x : Sh} (hx : xs[k]? = some x) (hj : k * 3 = j) :
    w.cell? ⟨g, j, none⟩ = some (.int .i64 x.1) ∧ w.cell? ⟨g, j + 1, none⟩ = some (.int .i64 x.2.1) ∧ w.cell? ⟨g, j + 2, none⟩ = some (.int .i64 x.2.2) := by
  subst hj
  exact ⟨MineE.at h k x hx 0 (by decide), MineE.at h k x hx 1 (by decide), MineE.at h k x hx 2 (by decide)⟩

/-- One of a row is written. -/
theorem row_put {w : World} {B g n c : Nat} {xs : List Sh} (h : MineE encSh 93 w B (some ⟨g, 0, none⟩) n c xs) {k j : Nat} {x : Sh} (hx : xs[k]? = some x) (hj : k * 3 = j) (y : Sh) :
    MineE encSh 93 (((w.setCell ⟨g, j, none⟩ (.int .i64 y.1)).setCell ⟨g, j + 1, none⟩ (.int .i64 y.2.1)).setCell ⟨g, j + 2, none⟩ (.int .i64 y.2.2)) B (some ⟨g, 0, none⟩) n c (xs.set k y) ∧
      w.grownBy (((w.setCell ⟨g, j, none⟩ (.int .i64 y.1)).setCell ⟨g, j + 1, none⟩ (.int .i64 y.2.1)).setCell ⟨g, j + 2, none⟩ (.int .i64 y.2.2)) (some g) := by
  subst hj
  have hk := (List.getElem?_eq_some_iff.1 hx).1
  obtain ⟨h1, g1⟩ := MineE.stored h k x (y.1, x.2) hx 0 (by decide) (.int .i64 y.1) rfl
  obtain ⟨h2, g2⟩ := MineE.stored h1 k (y.1, x.2) (y.1, (y.2.1, x.2.2)) (List.getElem?_set_self hk) 1 (by decide) (.int .i64 y.2.1) rfl
  rw [List.set_set] at h2
  obtain ⟨h3, g3⟩ := MineE.stored h2 k (y.1, (y.2.1, x.2.2)) y (List.getElem?_set_self hk) 2 (by decide) (.int .i64 y.2.2) rfl
  rw [List.set_set] at h3
  exact ⟨h3, (g1.trans g2).trans g3⟩

theorem zeroSh (w : World) : (zeroValue 93).run Try.prog w = .ok (.agg #[.int .i64 0, .int .i64 0, .int .i64 0]) w := by kernel_rfl

/-- What CompactFunc leaves. -/
def Compacted (w : World) (B g n c b0 cc : Nat) (pre mid post : List Sh) (r : Ending) (w' : World) : Prop :=
  r = .returned (.slice (some ⟨g, b0, none⟩) (compL mid).length cc) ∧ (∃ tl : List Sh, (compL mid).length + tl.length = mid.length ∧ MineE encSh 93 w' B (some ⟨g, 0, none⟩) n c (pre ++ (compL mid ++ tl) ++ post)) ∧ w.grownBy w' (some g)

/-- While it looks for two that are alike, and what it has when it goes on. -/
structure Comp2 (B g n c : Nat) (pre mid post : List Sh) (w wr : World) (k j : Nat) : Prop where
  len : (compL (mid.take (j + 1))).length = k
  lt : k ≤ j
  row : MineE encSh 93 wr B (some ⟨g, 0, none⟩) n c (pre ++ (compL (mid.take (j + 1)) ++ mid.drop k) ++ post)
  grown : w.grownBy wr (some g)

theorem comp_at {pre A D post : List Sh} {k i : Nat} {mid : List Sh} (hA : A.length = k) (hD : D = mid.drop k) (hki : k ≤ i) {x : Sh} (hx : mid[i]? = some x) : (pre ++ (A ++ D) ++ post)[pre.length + i]? = some x := by
  have hi := (List.getElem?_eq_some_iff.1 hx).1
  have hdl : D.length = mid.length - k := by rw [hD, List.length_drop]
  rw [List.append_assoc, List.getElem?_append_right (by omega), Nat.add_sub_cancel_left, List.getElem?_append_left (by rw [List.length_append]; omega), List.getElem?_append_right (by omega), hD, List.getElem?_drop, show k + (i - A.length) = i by omega]
  exact hx

theorem comp_set {pre A post mid : List Sh} {k : Nat} (hA : A.length = k) (hk : k < mid.length) (y : Sh) : (pre ++ (A ++ mid.drop k) ++ post).set (pre.length + k) y = pre ++ ((A ++ [y]) ++ mid.drop (k + 1)) ++ post := by
  rw [List.append_assoc, List.set_append_right _ _ (by omega), Nat.add_sub_cancel_left, List.set_append_left _ _ (by rw [List.length_append, List.length_drop]; omega), List.set_append_right _ _ (by omega), hA, Nat.sub_self, List.drop_eq_getElem_cons hk, List.set_cons_zero]
  simp [List.append_assoc]

end Go.Proofs.Ytmpfjkhboenfcaa.Shelf
