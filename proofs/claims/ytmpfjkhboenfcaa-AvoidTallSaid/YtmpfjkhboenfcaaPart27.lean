/- One who looks for a place: what is barred below it, and what is so at a height. -/
import Derived.Test.YtmpfjkhboenfcaaPart26
import Derived.Test.YtmpfjkhboenfcaaPart25
import Derived.Test.YtmpfjkhboenfcaaPart6
import Derived.Test.YtmpfjkhboenfcaaPart9
namespace Go.Proofs.Ytmpfjkhboenfcaa.Avoid
open Go.RowKit Go.Sort Go.Proofs.Ytmpfjkhboenfcaa.Rect Go.Proofs.Ytmpfjkhboenfcaa.More Go.Proofs.Ytmpfjkhboenfcaa.Shelf Go.Proofs.Ytmpfjkhboenfcaa.Space Go.Proofs.Ytmpfjkhboenfcaa.Place
set_option linter.unusedVariables false
set_option linter.unusedSimpArgs false

section
variable {S : World → (Nat → Prop) → Addr → List Fl → Prop}

/-! One who looks. -/

abbrev skcells (x : Vt) (p : Addr) (l r : Int) : Array Value := #[.int .i64 x.f, .int .i64 x.t, .int .i64 x.wd, .int .i64 x.ht, .int .i64 x.y, .pointer (some p), .int .i64 l, .int .i64 r]

/-- A block that is one who looks. -/
def SkB (T : TypeId) (w : World) (b : Nat) (x : Vt) (p : Addr) (l r : Int) : Prop := w.heap[b]? = some (.cells (skcells x p l r) T)

theorem SkB.lt {T : TypeId} {w : World} {b : Nat} {x : Vt} {p : Addr} {l r : Int} (h : SkB T w b x p l r) : b < w.heap.size := lt_of_block h
theorem SkB.below {T : TypeId} {w w' : World} {b : Nat} {x : Vt} {p : Addr} {l r : Int} (h : SkB T w b x p l r) (k : Below w.heap.size w w') : SkB T w' b x p l r := (k.block b (lt_of_block h)).trans h
theorem SkB.at' {T : TypeId} {w : World} {b : Nat} {x : Vt} {p : Addr} {l r : Int} (h : SkB T w b x p l r) : AtV w b x ∧ w.cell? ⟨b, 5, none⟩ = some (.pointer (some p)) ∧ w.cell? ⟨b, 6, none⟩ = some (.int .i64 l) ∧ w.cell? ⟨b, 7, none⟩ = some (.int .i64 r) := by
  have h' : w.heap[b]? = some (.cells (skcells x p l r) T) := h
  refine ⟨⟨?_, ?_, ?_, ?_, ?_⟩, ?_, ?_, ?_⟩ <;> simp [World.cell?, h']
theorem SkB.free {T : TypeId} {w : World} {b : Nat} {x : Vt} {p : Addr} {l r : Int} (h : SkB T w b x p l r) : w.frozen? ⟨b, 6, none⟩ = false ∧ w.frozen? ⟨b, 7, none⟩ = false := by
  have h' : w.heap[b]? = some (.cells (skcells x p l r) T) := h
  refine ⟨?_, ?_⟩ <;> simp [World.frozen?, h']
theorem SkB.set6 {T : TypeId} {w : World} {b : Nat} {x : Vt} {p : Addr} {l r : Int} (h : SkB T w b x p l r) (v : Int) : SkB T (w.setCell ⟨b, 6, none⟩ (.int .i64 v)) b x p v r := by
  have h' : w.heap[b]? = some (.cells (skcells x p l r) T) := h
  unfold SkB
  simp [World.setCell, Array.getElem?_modify, h']
theorem SkB.set7 {T : TypeId} {w : World} {b : Nat} {x : Vt} {p : Addr} {l r : Int} (h : SkB T w b x p l r) (v : Int) : SkB T (w.setCell ⟨b, 7, none⟩ (.int .i64 v)) b x p l v := by
  have h' : w.heap[b]? = some (.cells (skcells x p l r) T) := h
  unfold SkB
  simp [World.setCell, Array.getElem?_modify, h']

set_option maxRecDepth 100000 in
set_option maxHeartbeats 1000000 in
theorem vrest_any (hO : SpaceOk S) (b bk br : Nat) (F : Nat → Prop) (p : Addr) (fs : List Fl) (x : Vt) (y yh l r : Int) (i : Nat) (w : World) (h : S w F p fs) (h49 : fs.all near49 = true) (hr : RightV x) (hy : inS y = true) (hyh : y + highZ x.ht = yh) (hi : (i : Int) < highZ x.ht)
    (ek : w.cell? ⟨bk, 0, none⟩ = some (.pointer (some ⟨b, 0, none⟩))) (er : R2 w br y yh) (hk : SkB 67 w b x p l r) :
    Calls Try.prog 58 (#[.int .i64 (i : Int)] ++ #[.pointer (some ⟨bk, 0, none⟩), .pointer (some ⟨br, 0, none⟩)]) w fun e w' => e = .returned (.bool (okV fs (tailV x i) (y + i))) ∧ Below w.heap.size w w' := by
  have hy2 := inS_iff.1 hy
  have hht1 := hr.ht1
  have hht2 := hr.ht2
  have hh2 : highZ x.ht ≤ 281474976710656 := by unfold highZ; split <;> omega
  have HAt := Lib.hid (fun w1 (k : S w1 F p fs) => vat_any hO w1 F p fs (tailV x i) (y + i) k h49 (tail_right hr i hi) ⟨by omega, by omega⟩)
  obtain ⟨k, hk'⟩ : ∃ k, highZ x.ht = k := ⟨_, rfl⟩
  have HLe := Lib.hid (fun w => vlen_is y yh k (by rw [IntWalk.i64_in _ (by omega)]; omega) w)
  obtain ⟨xt, hxt⟩ : ∃ xt, tailV x i = xt := ⟨_, rfl⟩
  have hx1 : ({ x with ht := k - (i : Int) } : Vt) = xt := by rw [← hxt, ← hk']; rfl
  rw [hxt] at HAt
  rw [hxt]
  have hw1 : IntKind.i64.wrap (k - (i : Int)) = k - (i : Int) := IntWalk.i64_in _ (by omega)
  have hw2 : IntKind.i64.wrap (y + (i : Int)) = y + (i : Int) := IntWalk.i64_in _ (by omega)
  generalize okV fs xt (y + i) = v at *
  generalize atV fs xt (y + i) = at' at *
  have HS := Lib.hid h
  have HK := Lib.hid hk
  have HE := Lib.hid ek
  have HR := Lib.hid er
  have HX := Lib.hid hx1
  have HW := Lib.hid (⟨hw1, hw2⟩ : IntKind.i64.wrap (k - (i : Int)) = k - (i : Int) ∧ IntKind.i64.wrap (y + (i : Int)) = y + (i : Int))
  clear h h49 hr hy hyh hi ek er hk hy2 hht1 hht2 hh2 hk' hxt hx1 hw1 hw2
  go_enter Try.func58, Try.ntmps58
  have ek := HE.out
  obtain ⟨⟨c0, c1, c2, c3, c4⟩, c5, c6, c7⟩ := HK.out.at'
  go_upto_region 2 with fail
  clear ek c0 c1 c2 c3 c4 c5 c6 c7
  generalize hW1 : World.alloc w _ = W1
  obtain ⟨b0, hb0⟩ : ∃ b0, w.heap.size = b0 := ⟨_, rfl⟩
  have k1 : Below w.heap.size w W1 := by rw [← hW1]; exact ba1 _ _
  have a1 : Wv 34 W1 b0 x := by rw [← hW1, ← hb0]; exact heap_alloc_new w _
  have S1 := Lib.hid (⟨k1, a1, HK.out.below k1, HR.out.below k1, (k1.cell (p := ⟨bk, 0, none⟩) (block_lt_of_cell HE.out)).trans HE.out, thruS hO HS.out k1, by omega⟩ : Below w.heap.size w W1 ∧ Wv 34 W1 b0 x ∧ SkB 67 W1 b x p l r ∧ R2 W1 br y yh ∧ W1.cell? ⟨bk, 0, none⟩ = some (.pointer (some ⟨b, 0, none⟩)) ∧ S W1 F p fs ∧ w.heap.size ≤ b0)
  have HB := Lib.hid (show b < b0 ∧ br < b0 ∧ bk < b0 by have h1 : b < w.heap.size := HK.out.lt; have h2 : bk < w.heap.size := block_lt_of_cell HE.out; have h3 : br < w.heap.size := block_lt_of_cell HR.out.1; omega)
  rw [hb0]
  clear hW1 hb0 k1 a1
  obtain ⟨r0, r1⟩ := S1.out.2.2.2.1
  obtain ⟨f0, f1, f2, f3, f4⟩ := S1.out.2.1.free
  obtain ⟨c0, c1, c2, c3, c4⟩ := S1.out.2.1.at'
  have hw1 := HW.out.1
  go_upto_region 3 with (first
    | (go_at_call 27; refine (HLe.out _).mono ?_; rintro e w2 ⟨rfl, k2⟩; have S2 := Lib.hid (⟨thru S1.out.1 k2, S1.out.2.1.below k2, S1.out.2.2.1.below k2, S1.out.2.2.2.1.below k2, (k2.cell (p := ⟨bk, 0, none⟩) (block_lt_of_cell S1.out.2.2.2.2.1)).trans S1.out.2.2.2.2.1, thruS hO S1.out.2.2.2.2.2.1 k2, S1.out.2.2.2.2.2.2⟩ : Below w.heap.size w w2 ∧ Wv 34 w2 b0 x ∧ SkB 67 w2 b x p l r ∧ R2 w2 br y yh ∧ w2.cell? ⟨bk, 0, none⟩ = some (.pointer (some ⟨b, 0, none⟩)) ∧ S w2 F p fs ∧ w.heap.size ≤ b0); obtain ⟨f0, f1, f2, f3, f4⟩ := S2.out.2.1.free; obtain ⟨c0, c1, c2, c3, c4⟩ := S2.out.2.1.at'; clear k2))
  clear r0 r1 f0 f1 f2 f3 f4 c0 c1 c2 c3 c4
  generalize hW3 : World.setCell w2 _ _ = W3
  have hne : ∀ g, g < b0 → ∀ o, W3.cell? ⟨g, o, none⟩ = w2.cell? ⟨g, o, none⟩ := fun g hg o => by rw [← hW3]; exact World.cell?_of_block (a := ⟨g, o, none⟩) (Below.heap_setCell _ _ _ _ (show g ≠ b0 by omega))
  have bu : But (fun j => j = b0) w2 W3 := by rw [← hW3]; exact But.set b0 3 _ rfl
  have hF0 : ¬ F b0 := fun q => by have := hO.lt _ _ _ _ HS.out b0 q; have := S2.out.2.2.2.2.2.2; omega
  have s3 : S W3 F p fs := hO.keep _ _ _ _ _ _ S2.out.2.2.2.2.2.1 bu (fun j hj e => hF0 (by rw [← e]; exact hj))
  have a3 : Wv 34 W3 b0 xt := by rw [← hW3, ← HX.out]; exact S2.out.2.1.set3 _
  have k3 : Below w.heap.size w W3 := by rw [← hW3]; exact S2.out.1.setCell (p := ⟨b0, 3, none⟩) S2.out.2.2.2.2.2.2 _
  have sk3 : SkB 67 W3 b x p l r := by rw [← hW3]; exact (Below.heap_setCell _ _ _ _ (show b ≠ b0 by have := HB.out.1; omega)).trans S2.out.2.2.1
  have r3 : R2 W3 br y yh := ⟨(hne br HB.out.2.1 0).trans S2.out.2.2.2.1.1, (hne br HB.out.2.1 1).trans S2.out.2.2.2.1.2⟩
  have e3 : W3.cell? ⟨bk, 0, none⟩ = some (.pointer (some ⟨b, 0, none⟩)) := (hne bk HB.out.2.2 0).trans S2.out.2.2.2.2.1
  have HA := Lib.hid (fun w' (j : Below W3.heap.size W3 w') => (⟨a3.below j, sk3.below j, r3.below j, (j.cell (p := ⟨bk, 0, none⟩) (block_lt_of_cell e3)).trans e3, thruS hO s3 j⟩ : Wv 34 w' b0 xt ∧ SkB 67 w' b x p l r ∧ R2 w' br y yh ∧ w'.cell? ⟨bk, 0, none⟩ = some (.pointer (some ⟨b, 0, none⟩)) ∧ S w' F p fs))
  have K3 := Lib.hid k3
  clear hW3 hne bu hF0 s3 a3 k3 sk3 r3 e3 S1 S2 HB HS HK HE HR hw1
  refine HoldAll.wp_region_hold_all [.val (.pointer (some ⟨b, 0, none⟩)), .val (.pointer (some ⟨b, 0, none⟩)), .val (.pointer (some ⟨b, 5, none⟩)), .val (.pointer (some p)), .val (xt.v), .val (.pointer (some ⟨br, 0, none⟩)), .val (.int .i64 y), .val (.int .i64 (i : Int)), .val (.int .i64 (y + (i : Int))), .val (.tuple #[.int .i64 at', .bool v]), .val (.tuple #[.int .i64 at', .bool v]), .val (.int .i64 at'), .val (.bool v), .val (.int .i64 at'), .val (.bool v)] (by kernel_rfl) (by kernel_rfl) (by kernel_rfl) ?_ ?_
  · simp only [Hold.fill, Hold.Leave.value]
    refine ⟨?_, ?_, ?_, ?_, ?_, ?_, ?_, ?_, ?_, ?_, ?_, ?_, ?_, ?_, ?_, trivial⟩
    · intro gg w' hw hk
      have q := (HA.out w' hw).2.2.2.1
      go_simp
      exact ⟨rfl, rfl⟩
    · intro gg w' hw hk
      go_simp
      exact ⟨rfl, rfl⟩
    · intro gg w' hw hk
      go_simp
      exact ⟨rfl, rfl⟩
    · intro gg w' hw hk
      have q := (HA.out w' hw).2.1.at'.2.1
      go_simp
      exact ⟨rfl, rfl⟩
    · intro gg w' hw hk
      have q0 := ((HA.out w' hw).1.at').1
      have q1 := ((HA.out w' hw).1.at').2.1
      have q2 := ((HA.out w' hw).1.at').2.2.1
      have q3 := ((HA.out w' hw).1.at').2.2.2.1
      have q4 := ((HA.out w' hw).1.at').2.2.2.2
      go_simp
      exact ⟨rfl, rfl⟩
    · intro gg w' hw hk
      go_simp
      exact ⟨rfl, rfl⟩
    · intro gg w' hw hk
      have q := (HA.out w' hw).2.2.1.1
      go_simp
      exact ⟨rfl, rfl⟩
    · intro gg w' hw hk
      go_simp
      exact ⟨rfl, rfl⟩
    · intro gg w' hw hk
      have q := HW.out.2
      go_simp
      exact ⟨rfl, rfl⟩
    · intro gg w' hw hk
      go_simp
      exact Hold.stays_call (HAt.out w' (HA.out w' hw).2.2.2.2)
    · intro gg w' hw hk
      go_simp
      exact ⟨rfl, rfl⟩
    · intro gg w' hw hk
      go_simp
      exact ⟨rfl, rfl⟩
    · intro gg w' hw hk
      go_simp
      exact ⟨rfl, rfl⟩
    · intro gg w' hw hk
      go_simp
      exact ⟨rfl, rfl⟩
    · intro gg w' hw hk
      go_simp
      exact ⟨rfl, rfl⟩
  intro gg w4 k4 hgg
  clear hgg
  simp only [Hold.fill, Hold.Leave.value]
  go_simp
  go_wp2_with fail
  go_ret
  exact ⟨rfl, thru K3.out k4⟩

set_option maxRecDepth 100000 in
set_option maxHeartbeats 1000000 in
theorem vlow_any (hO : SpaceOk S) (b : Nat) (F : Nat → Prop) (p : Addr) (fs : List Fl) (x : Vt) (y yh l r : Int) (w : World) (h : S w F p fs) (h49 : fs.all near49 = true) (hr : RightV x) (hy : inS y = true) (hyh : y + highZ x.ht = yh) (hk : SkB 67 w b x p l r) :
    Calls Try.prog 45 #[.pointer (some ⟨b, 0, none⟩), .agg #[.int .i64 y, .int .i64 yh]] w fun e w' => (∃ r', e = .returned (.int .i64 r') ∧ ∀ z, y ≤ z → z ≤ r' → okV fs x z = false) ∧ Below w.heap.size w w' := by
  obtain ⟨n, hn, hq⟩ := tail_thr fs x y
  have HB := Lib.hid (tail_bars hn hq)
  have hy2 := inS_iff.1 hy
  have hht1 := hr.ht1
  have hht2 := hr.ht2
  have hz := highZ_pos x.ht
  have hh2 : highZ x.ht ≤ 281474976710656 := by unfold highZ; split <;> omega
  obtain ⟨k, hkk⟩ : ∃ k : Nat, (k : Int) = highZ x.ht := ⟨(highZ x.ht).toNat, by omega⟩
  have hnk : n ≤ k := by omega
  have HSe := Lib.hid (fun (bk br : Nat) (w1 : World) (s1 : S w1 F p fs) (ek : w1.cell? ⟨bk, 0, none⟩ = some (.pointer (some ⟨b, 0, none⟩))) (er : R2 w1 br y yh) (sk : SkB 67 w1 b x p l r) =>
    search_far 58 #[.pointer (some ⟨bk, 0, none⟩), .pointer (some ⟨br, 0, none⟩)] k n w1 (enters_of Try.func58 (by kernel_rfl) rfl) hnk (by omega) (fun w2 i k2 hi => by
      have := vrest_any hO b bk br F p fs x y yh l r i w2 (thruS hO s1 k2) h49 hr hy hyh (by omega) ((k2.cell (p := ⟨bk, 0, none⟩) (block_lt_of_cell ek)).trans ek) (er.below k2) (sk.below k2)
      rw [hq i (by omega)] at this
      exact this))
  have HLe := Lib.hid (fun w => vlen_is y yh (k : Int) (by rw [IntWalk.i64_in _ (by omega)]; omega) w)
  have hw1 : IntKind.i64.wrap (y - 1) = y - 1 := IntWalk.i64_in _ (by omega)
  have hw2 : IntKind.i64.wrap (y - 1 + (n : Int)) = y - 1 + (n : Int) := IntWalk.i64_in _ (by omega)
  have HW := Lib.hid (⟨hw1, hw2⟩ : IntKind.i64.wrap (y - 1) = y - 1 ∧ IntKind.i64.wrap (y - 1 + (n : Int)) = y - 1 + (n : Int))
  have HS := Lib.hid h
  have HK := Lib.hid hk
  clear h h49 hr hy hyh hk hn hq hy2 hht1 hht2 hz hh2 hkk hnk hw1 hw2
  go_enter Try.func45, Try.ntmps45
  go_upto_region 1 with fail
  generalize hW : World.alloc (World.alloc w _) _ = W
  obtain ⟨bk, hbk⟩ : ∃ bk, w.heap.size = bk := ⟨_, rfl⟩
  have kW : Below w.heap.size w W := by rw [← hW]; exact ba2 _ _ _
  have e1 : W.cell? ⟨bk, 0, none⟩ = some (.pointer (some ⟨b, 0, none⟩)) := by rw [← hW, ← hbk]; simp [go_sem]
  have e2 : R2 W (bk + 1) y yh := by rw [← hW, ← hbk]; refine ⟨?_, ?_⟩ <;> simp [go_sem]
  rw [hbk]
  generalize bk + 1 = br at *
  have K3 := Lib.hid kW
  have HA := Lib.hid (fun w' (j : Below W.heap.size W w') => (⟨(j.cell (p := ⟨bk, 0, none⟩) (block_lt_of_cell e1)).trans e1, e2.below j, (HK.out.below kW).below j, thruS hO (thruS hO HS.out kW) j⟩ : w'.cell? ⟨bk, 0, none⟩ = some (.pointer (some ⟨b, 0, none⟩)) ∧ R2 w' br y yh ∧ SkB 67 w' b x p l r ∧ S w' F p fs))
  clear hW hbk kW e1 e2 HS HK
  refine HoldAll.wp_region_hold_all [.val (.pointer (some ⟨br, 0, none⟩)), .val (.int .i64 y), .val (.int .i64 (y - 1)), .val (.agg #[.int .i64 y, .int .i64 yh]), .val (.int .i64 (k : Int)), .val (.func (.func 58) #[] #[.pointer (some ⟨bk, 0, none⟩), .pointer (some ⟨br, 0, none⟩)]), .val (.int .i64 (n : Int)), .val (.int .i64 (y - 1 + (n : Int))), .val (.int .i64 (y - 1 + (n : Int)))] (by kernel_rfl) (by kernel_rfl) (by kernel_rfl) ?_ ?_
  · simp only [Hold.fill, Hold.Leave.value]
    refine ⟨?_, ?_, ?_, ?_, ?_, ?_, ?_, ?_, ?_, trivial⟩
    · intro gg w' hw hk
      go_simp
      exact ⟨rfl, rfl⟩
    · intro gg w' hw hk
      have q := (HA.out w' hw).2.1.1
      go_simp
      exact ⟨rfl, rfl⟩
    · intro gg w' hw hk
      have q := HW.out.1
      go_simp
      exact ⟨rfl, rfl⟩
    · intro gg w' hw hk
      have q0 := (HA.out w' hw).2.1.1
      have q1 := (HA.out w' hw).2.1.2
      go_simp
      exact ⟨rfl, rfl⟩
    · intro gg w' hw hk
      go_simp
      exact Hold.stays_call (HLe.out w')
    · intro gg w' hw hk
      go_simp
      exact ⟨rfl, rfl⟩
    · intro gg w' hw hk
      go_simp
      exact Hold.stays_call (HSe.out bk br w' (HA.out w' hw).2.2.2 (HA.out w' hw).1 (HA.out w' hw).2.1 (HA.out w' hw).2.2.1)
    · intro gg w' hw hk
      have q := HW.out.2
      go_simp
      exact ⟨rfl, rfl⟩
    · intro gg w' hw hk
      go_simp
      exact ⟨rfl, rfl⟩
  intro gg w4 k4 hgg
  clear hgg
  simp only [Hold.fill, Hold.Leave.value]
  go_simp
  go_wp2_with fail
  go_ret
  exact ⟨⟨_, rfl, HB.out⟩, thru K3.out k4⟩

set_option maxRecDepth 100000 in
set_option maxHeartbeats 1000000 in
theorem vstands_any (hO : SpaceOk S) (b : Nat) (F : Nat → Prop) (p : Addr) (fs : List Fl) (x : Vt) (z l r : Int) (pre : List Int) (w : World) (h : S w F p fs) (h49 : fs.all near49 = true) (hr : RightV x) (hz : inS z = true) (hF : ¬ F b) (hk : SkB 67 w b x p l r) (hB : BarV fs x pre l r) (hord : (∀ u ∈ pre, u < z) ∧ x.y ≤ z) :
    Calls Try.prog 32 #[.pointer (some ⟨b, 0, none⟩), .int .i64 z] w fun e w' => e = .returned (.bool (okV fs x z)) ∧ But (fun j => j = b) w w' ∧ ∃ l' r', SkB 67 w' b x p l' r' ∧ BarV fs x (pre ++ [z]) l' r' := by
  by_cases hzr : z ≤ r
  · obtain ⟨hno, hB2⟩ := barV_held hB hord hzr
    rw [hno]
    have HB := Lib.hid hB2
    have HK := Lib.hid hk
    clear h h49 hr hz hF hk hB hord hno hB2
    obtain ⟨⟨c0, c1, c2, c3, c4⟩, c5, c6, c7⟩ := HK.out.at'
    go_enter Try.func32, Try.ntmps32
    go_wp2_with fail
    go_ret
    exact ⟨rfl, But.of_below (Below.refl _ _), l, r, HK.out, HB.out⟩
  · have hz2 := inS_iff.1 hz
    have hht1 := hr.ht1
    have hht2 := hr.ht2
    have HAt := Lib.hid (fun w1 (k : S w1 F p fs) => vat_any hO w1 F p fs x z k h49 hr ⟨by omega, by omega⟩)
    have HRo := Lib.hid (fun w1 => hO.rows z x.ht w1 ⟨by omega, by omega⟩ (by omega))
    have HLo := Lib.hid (fun w1 l (k : S w1 F p fs) sk => vlow_any hO b F p fs x z (z + highZ x.ht) l r w1 k h49 hr hz rfl sk)
    have HY := Lib.hid (fun r' (q : ∀ y, z ≤ y → y ≤ r' → okV fs x y = false) => barV_no (pre := pre) q)
    have HN := Lib.hid (barV_yes (fs := fs) (x := x) (pre := pre) (l := l) (show r < z by omega))
    have HNot := Lib.hid hzr
    have HS := Lib.hid h
    have HK := Lib.hid hk
    have HF := Lib.hid hF
    generalize okV fs x z = v at *
    generalize atV fs x z = at' at *
    generalize z + highZ x.ht = zh at *
    clear h h49 hr hz hF hk hB hord hzr hz2 hht1 hht2
    go_enter Try.func32, Try.ntmps32
    obtain ⟨⟨c0, c1, c2, c3, c4⟩, c5, c6, c7⟩ := HK.out.at'
    have hnot := HNot.out
    go_upto_region 3 with fail
    clear c0 c1 c2 c3 c4 c5 c6 c7 hnot
    have HA := Lib.hid (fun w' (j : Below w.heap.size w w') => (⟨HK.out.below j, thruS hO HS.out j⟩ : SkB 67 w' b x p l r ∧ S w' F p fs))
    refine HoldAll.wp_region_hold_all [.val (.pointer (some ⟨b, 0, none⟩)), .val (.pointer (some ⟨b, 0, none⟩)), .val (.pointer (some ⟨b, 5, none⟩)), .val (.pointer (some p)), .val (.pointer (some ⟨b, 0, none⟩)), .val (.pointer (some ⟨b, 0, none⟩)), .val (.pointer (some ⟨b, 0, none⟩)), .val (x.v), .val (.int .i64 z), .val (.tuple #[.int .i64 at', .bool v]), .val (.tuple #[.int .i64 at', .bool v]), .val (.int .i64 at'), .val (.bool v), .val (.int .i64 at'), .val (.bool v)] (by kernel_rfl) (by kernel_rfl) (by kernel_rfl) ?_ ?_
    · simp only [Hold.fill, Hold.Leave.value]
      refine ⟨?_, ?_, ?_, ?_, ?_, ?_, ?_, ?_, ?_, ?_, ?_, ?_, ?_, ?_, ?_, trivial⟩
      · intro gg w' hw hk
        go_simp
        exact ⟨rfl, rfl⟩
      · intro gg w' hw hk
        go_simp
        exact ⟨rfl, rfl⟩
      · intro gg w' hw hk
        go_simp
        exact ⟨rfl, rfl⟩
      · intro gg w' hw hk
        have q := (HA.out w' hw).1.at'.2.1
        go_simp
        exact ⟨rfl, rfl⟩
      · intro gg w' hw hk
        go_simp
        exact ⟨rfl, rfl⟩
      · intro gg w' hw hk
        go_simp
        exact ⟨rfl, rfl⟩
      · intro gg w' hw hk
        go_simp
        exact ⟨rfl, rfl⟩
      · intro gg w' hw hk
        have q0 := ((HA.out w' hw).1.at'.1).1
        have q1 := ((HA.out w' hw).1.at'.1).2.1
        have q2 := ((HA.out w' hw).1.at'.1).2.2.1
        have q3 := ((HA.out w' hw).1.at'.1).2.2.2.1
        have q4 := ((HA.out w' hw).1.at'.1).2.2.2.2
        go_simp
        exact ⟨rfl, rfl⟩
      · intro gg w' hw hk
        go_simp
        exact ⟨rfl, rfl⟩
      · intro gg w' hw hk
        go_simp
        exact Hold.stays_call (HAt.out w' (HA.out w' hw).2)
      · intro gg w' hw hk
        go_simp
        exact ⟨rfl, rfl⟩
      · intro gg w' hw hk
        go_simp
        exact ⟨rfl, rfl⟩
      · intro gg w' hw hk
        go_simp
        exact ⟨rfl, rfl⟩
      · intro gg w' hw hk
        go_simp
        exact ⟨rfl, rfl⟩
      · intro gg w' hw hk
        go_simp
        exact ⟨rfl, rfl⟩
    intro gg w4 k4 hgg
    clear hgg
    simp only [Hold.fill, Hold.Leave.value]
    have S4 := Lib.hid (⟨k4, (HA.out _ k4).1, (HA.out _ k4).2⟩ : Below w.heap.size w w4 ∧ SkB 67 w4 b x p l r ∧ S w4 F p fs)
    clear k4 HA
    cases v
    · go_simp
      obtain ⟨⟨c0, c1, c2, c3, c4⟩, c5, c6, c7⟩ := S4.out.2.1.at'
      go_upto_region 6 with (first
        | (go_at_call 25; refine (HRo.out _).mono ?_; rintro e w5 ⟨rfl, k5⟩; have S5 := Lib.hid (⟨thru S4.out.1 k5, S4.out.2.1.below k5, thruS hO S4.out.2.2 k5⟩ : Below w.heap.size w w5 ∧ SkB 67 w5 b x p l r ∧ S w5 F p fs); clear k5)
        | (go_at_call 45; refine (HLo.out _ _ S5.out.2.2 S5.out.2.1).mono ?_; rintro e w6 ⟨⟨r', rfl, hb6⟩, k6⟩; have S6 := Lib.hid (⟨thru S5.out.1 k6, S5.out.2.1.below k6, hb6⟩ : Below w.heap.size w w6 ∧ SkB 67 w6 b x p l r ∧ ∀ y, z ≤ y → y ≤ r' → okV fs x y = false); obtain ⟨f6, f7⟩ := S6.out.2.1.free; obtain ⟨⟨d0, d1, d2, d3, d4⟩, d5, d6, d7⟩ := S6.out.2.1.at'; clear hb6 k6))
      clear c0 c1 c2 c3 c4 c5 c6 c7 d0 d1 d2 d3 d4 d5 d6 d7 f6 f7
      generalize hW7 : World.setCell w6 _ _ = W7
      have s7 : SkB 67 W7 b x p l r' := by rw [← hW7]; exact S6.out.2.1.set7 r'
      have b7 : But (fun j => j = b) w6 W7 := by rw [← hW7]; exact But.set b 7 _ rfl
      have S7 := Lib.hid (⟨s7, (But.of_below S6.out.1 : But (fun j => j = b) w w6).trans b7 (fun _ _ e => e)⟩ : SkB 67 W7 b x p l r' ∧ But (fun j => j = b) w W7)
      clear hW7 s7 b7
      obtain ⟨f6, f7⟩ := S7.out.1.free
      obtain ⟨⟨d0, d1, d2, d3, d4⟩, d5, d6, d7⟩ := S7.out.1.at'
      go_wp2_with fail
      go_ret
      exact ⟨rfl, S7.out.2.trans (But.set b 6 _ rfl) (fun _ _ e => e.symm), at', r', S7.out.1.set6 at', HY.out r' S6.out.2.2⟩
    · go_simp
      obtain ⟨f6, f7⟩ := S4.out.2.1.free
      obtain ⟨⟨d0, d1, d2, d3, d4⟩, d5, d6, d7⟩ := S4.out.2.1.at'
      go_wp2_with fail
      go_ret
      exact ⟨rfl, (But.of_below S4.out.1 : But (fun j => j = b) w w4).trans (But.set b 6 _ rfl) (fun _ _ e => e.symm), at', r, S4.out.2.1.set6 at', HN.out⟩

end

end Go.Proofs.Ytmpfjkhboenfcaa.Avoid
