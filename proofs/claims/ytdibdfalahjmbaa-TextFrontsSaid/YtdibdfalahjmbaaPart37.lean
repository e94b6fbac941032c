/- The program's one who lays items lets a line's atoms stand side by side. -/
import Derived.Test.YtdibdfalahjmbaaPart35
namespace Go.Proofs.Ytdibdfalahjmbaa.Text
open Go.RowKit Go.Sort Go.Proofs.Ytdibdfalahjmbaa.Rect Go.Proofs.Ytdibdfalahjmbaa.More Go.Proofs.Ytdibdfalahjmbaa.Shelf Go.Proofs.Ytdibdfalahjmbaa.Space Go.Proofs.Ytdibdfalahjmbaa.Place Go.Proofs.Ytdibdfalahjmbaa.Line
set_option linter.unusedVariables false
set_option linter.unusedSimpArgs false

theorem offs_snoc (its : List It) (l : List Nat) (k : Nat) : offs its (l ++ [k]) = offs its l + (itAt its k).wd := by
  unfold offs
  rw [List.map_append, List.sum_append]
  simp
theorem setRow_snoc (its : List It) (top : Int) (l : List Nat) (k : Nat) : ∀ (x : Int) (bs : List Bx), setRow its top x (l ++ [k]) bs = (setRow its top x l bs).set k ⟨x + offs its l, top, x + offs its l + (itAt its k).wd, top + (itAt its k).ht⟩ := by
  induction l with
  | nil =>
    intro x bs
    show setRow its top (x + (itAt its k).wd) [] (bs.set k ⟨x, top, x + (itAt its k).wd, top + (itAt its k).ht⟩) = _
    have e : offs its [] = 0 := rfl
    rw [e, Int.add_zero]
    rfl
  | cons j l ih =>
    intro x bs
    show setRow its top (x + (itAt its j).wd) (l ++ [k]) _ = _
    rw [ih]
    have e : offs its (j :: l) = (itAt its j).wd + offs its l := by unfold offs; rw [List.map_cons, List.sum_cons]
    rw [e, ← Int.add_assoc]
    rfl
theorem offs_b (its : List It) (l : List Nat) (h : ∀ i ∈ l, RightS (itAt its i).z) : 0 ≤ offs its l ∧ offs its l ≤ l.length * 2147483648 := by
  induction l with
  | nil => exact ⟨Int.le_refl _, Int.le_refl _⟩
  | cons j l ih =>
    have h1 := h j List.mem_cons_self
    have h2 := ih fun i hi => h i (List.mem_cons_of_mem _ hi)
    have e : offs its (j :: l) = (itAt its j).wd + offs its l := by unfold offs; rw [List.map_cons, List.sum_cons]
    have w1 : 0 ≤ (itAt its j).wd := h1.w1
    have w2 : (itAt its j).wd ≤ 2147483648 := h1.w2
    rw [e, List.length_cons]
    omega
/-- A place's cell. -/
theorem place_cell {T : TypeId} {w : World} {B g n c k i : Nat} {xs : List Nat} (h : MineE encN T w B (some ⟨g, 0, none⟩) n c xs) (hk : xs[k]? = some i) : w.cell? ⟨g, k, none⟩ = some (.int .i64 (i : Int)) := by
  have := h.at k i hk 0 (by show 0 < 1; omega)
  rw [show k * encN.size + 0 = k from Nat.mul_one k] at this
  exact this

section
variable {S : World → (Nat → Prop) → Addr → List Fl → Prop}

set_option maxRecDepth 100000 in
set_option maxHeartbeats 2000000 in
theorem kfill_any (hO : SpaceOk S) {w : World} {P : Fast} {q : Loose} {its : List It} {s : Ly} (h : Kat S w P q its s) (l t r b : Int) (hb : s.box.length = its.length) (hrow : ∀ i ∈ s.row, i < its.length ∧ RightS (itAt its i).z) (hlen : s.row.length ≤ 100000) (hl : -4503599627370496 ≤ l ∧ l ≤ 4503599627370496) (ht : -4503599627370496 ≤ t ∧ t ≤ 4503599627370496) :
    Calls Try.prog 36 #[.pointer (some ⟨P.kb, 0, none⟩), .agg #[.int .i64 l, .int .i64 t, .int .i64 r, .int .i64 b]] w fun e w' => (∃ v, e = .returned v) ∧ Kat S w' P q its { s with box := setRow its t l s.row s.box } ∧ Grew P q q w w' := by
  have HK := Lib.hid h
  have HL := Lib.hid (⟨hb, hrow, hlen, hl, ht⟩ : s.box.length = its.length ∧ (∀ i ∈ s.row, i < its.length ∧ RightS (itAt its i).z) ∧ s.row.length ≤ 100000 ∧ (-4503599627370496 ≤ l ∧ l ≤ 4503599627370496) ∧ (-4503599627370496 ≤ t ∧ t ≤ 4503599627370496))
  clear h hb hrow hlen hl ht
  go_enter Try.func36, Try.ntmps36
  go_upto_region 1 with fail
  generalize hW1 : World.alloc w _ = W
  obtain ⟨b0, hb0⟩ : ∃ b0, w.heap.size = b0 := ⟨_, rfl⟩
  have k1 : Below w.heap.size w W := by rw [← hW1]; exact ba1 _ _
  have z1 : RowAt W b0 [.int .i64 l, .int .i64 t, .int .i64 r, .int .i64 b] := by rw [← hW1, ← hb0]; exact RowAt.new w _ _
  have hno : ∀ i j, part P q i j → ¬ j = b0 := fun i j e g => by have := HK.out.low hO i j e; omega
  rw [hb0]
  have S1 := Lib.hid (⟨k1, HK.out.below hO k1, z1, hno⟩ : Below w.heap.size w W ∧ Kat S W P q its s ∧ RowAt W b0 [.int .i64 l, .int .i64 t, .int .i64 r, .int .i64 b] ∧ ∀ i j, part P q i j → ¬ j = b0)
  have d0 : W.cell? ⟨b0, 0, none⟩ = some (.int .i64 l) := z1.at' 0
  clear hW1 hb0 k1 z1 hno HK
  obtain ⟨c0, c1, c2, c3, c4, c5, -⟩ := S1.out.2.1.cells
  obtain ⟨n, hn⟩ : ∃ n, s.row.length = n := ⟨_, rfl⟩
  rw [hn] at c5
  have HN := Lib.hid hn
  clear hn c0 c1 c2 c3
  go_wp2_with fail
  go_loopw [4, 16] (fun u i wr => ∃ j : Nat, j ≤ n ∧ i = .int .i64 (j : Int) ∧ u = .int .i64 (l + offs its (s.row.take j)) ∧ Hid (Kat S wr P q its { s with box := setRow its t l (s.row.take j) s.box } ∧ Grew P q q w wr ∧ RowAt wr b0 [.int .i64 l, .int .i64 t, .int .i64 r, .int .i64 b])) (fun _ i _ => n - (intOf i).toNat)
  case atStart => exact ⟨0, Nat.zero_le _, rfl, by rw [List.take_zero]; show Value.int .i64 l = .int .i64 (l + 0); rw [Int.add_zero], Lib.hid ⟨S1.out.2.1, Grew.of_below S1.out.1, S1.out.2.2.1⟩⟩
  case round =>
    obtain ⟨j, hj, rfl, rfl, H⟩ := hrel
    clear d0 c4 c5
    by_cases hlt : j < n
    · have hji : (j : Int) < (n : Int) := by omega
      have hj0 : ¬ (j : Int) < 0 := by omega
      have hwj : IntKind.i64.wrap ((j : Int) + 1) = (j : Int) + 1 := by have := HN.out; have := HL.out.2.2.1; exact IntWalk.i64_in _ (by omega)
      obtain ⟨k, hk⟩ : ∃ k, s.row[j]? = some k := ⟨_, List.getElem?_eq_getElem (by rw [HN.out]; exact hlt)⟩
      have hkr := HL.out.2.1 k (List.mem_of_getElem? hk)
      have hki : (k : Int) < (its.length : Int) := by omega
      have hk0 : ¬ (k : Int) < 0 := by omega
      have hkb : (k : Int) < (s.box.length : Int) := by have := HL.out.1; omega
      have ht1 : s.row.take (j + 1) = s.row.take j ++ [k] := by rw [List.take_add_one, hk]; rfl
      have hof := offs_b its (s.row.take j) (fun i hi => (HL.out.2.1 i (List.mem_of_mem_take hi)).2)
      have hw1 : 0 ≤ (itAt its k).wd := hkr.2.w1
      have hw2 : (itAt its k).wd ≤ 2147483648 := hkr.2.w2
      have hh1 : 0 ≤ (itAt its k).ht := hkr.2.h1
      have hh2 : (itAt its k).ht ≤ 2147483648 := hkr.2.h2
      have htl : (s.row.take j).length ≤ 100000 := by rw [List.length_take]; have := HL.out.2.2.1; omega
      have hA : ∃ g1, q.A1 = some ⟨g1, 0, none⟩ := by
        obtain ⟨g1, e, -⟩ := H.out.1.ro.form (by show 0 < s.row.length; rw [HN.out]; omega)
        exact ⟨g1, e⟩
      obtain ⟨g1, hA⟩ := hA
      have hro := H.out.1.ro
      rw [hA] at hro
      have p1 := place_cell hro hk
      obtain ⟨g0, hA0, d0, d1, d2, d3⟩ := H.out.1.item hkr.1
      obtain ⟨c0, c1, c2, c3, c4, c5, c6, c7, -⟩ := H.out.1.cells
      rw [hA0] at c4
      dsimp only at c7
      rw [setRow_len] at c7
      obtain ⟨x, hx⟩ : ∃ x, itAt its k = x := ⟨_, rfl⟩
      obtain ⟨u, hu⟩ : ∃ u, l + offs its (s.row.take j) = u := ⟨_, rfl⟩
      rw [hx] at d0 d1 d2 d3 hw1 hw2 hh1 hh2
      rw [hu]
      have hwu : IntKind.i64.wrap (u + x.wd) = u + x.wd := IntWalk.i64_in _ (by have := HL.out.2.2.2.1; omega)
      have HWt := Lib.hid (show IntKind.i64.wrap (t + x.ht) = t + x.ht from IntWalk.i64_in _ (by have := HL.out.2.2.2.2; omega))
      have hset : setRow its t l (s.row.take (j + 1)) s.box = (setRow its t l (s.row.take j) s.box).set k ⟨u, t, u + x.wd, t + x.ht⟩ := by rw [ht1, setRow_snoc, hu, hx]
      have hoff : l + offs its (s.row.take (j + 1)) = u + x.wd := by rw [ht1, offs_snoc, hx, ← hu]; omega
      have HS := Lib.hid (⟨hset, hoff, hkr.1⟩ : setRow its t l (s.row.take (j + 1)) s.box = (setRow its t l (s.row.take j) s.box).set k ⟨u, t, u + x.wd, t + x.ht⟩ ∧ l + offs its (s.row.take (j + 1)) = u + x.wd ∧ k < its.length)
      rw [hA]
      clear hk hkr ht1 hof hw1 hw2 hh1 hh2 htl hA hro hA0 hx hu hset hoff c1 c2 c3 c5 c6
      go_upto_region 6 with fail
      generalize hW2 : World.alloc wr _ = W2
      obtain ⟨b7, hb7⟩ : ∃ b7, wr.heap.size = b7 := ⟨_, rfl⟩
      have k2 : Below wr.heap.size wr W2 := by rw [← hW2]; exact ba1 _ _
      have z2 : RowAt W2 b7 (Line.two x.wd x.ht) := by rw [← hW2, ← hb7]; exact RowAt.new wr _ _
      rw [hb7]
      have S2 := Lib.hid (⟨k2, z2⟩ : Below wr.heap.size wr W2 ∧ RowAt W2 b7 (Line.two x.wd x.ht))
      obtain ⟨e0, e1, -, -⟩ := two_of z2
      clear hW2 hb7 k2 z2 d0 d1 d2 d3 c0 c4 c7 p1
      go_upto_region 7 with fail
      generalize hW3 : World.alloc W2 _ = W3
      obtain ⟨b8, hb8⟩ : ∃ b8, W2.heap.size = b8 := ⟨_, rfl⟩
      have k3 : Below W2.heap.size W2 W3 := by rw [← hW3]; exact ba1 _ _
      have z3 : RowAt W3 b8 (Line.two u (u + x.wd)) := by rw [← hW3, ← hb8]; exact RowAt.new W2 _ _
      have kk := thru S2.out.1 k3
      have hno8 : ∀ i j, part P q i j → ¬ j = b8 := fun i j e g => by have := H.out.1.low hO i j e; have := S2.out.1.size; omega
      rw [hb8]
      have S3 := Lib.hid (⟨kk, S2.out.2.below (by simp) k3, z3, H.out.1.below hO kk, H.out.2.2.below (by simp) kk, hno8⟩ : Below wr.heap.size wr W3 ∧ RowAt W3 b7 (Line.two x.wd x.ht) ∧ RowAt W3 b8 (Line.two u (u + x.wd)) ∧ Kat S W3 P q its { s with box := setRow its t l (s.row.take j) s.box } ∧ RowAt W3 b0 [.int .i64 l, .int .i64 t, .int .i64 r, .int .i64 b] ∧ ∀ i j, part P q i j → ¬ j = b8)
      clear hW3 hb8 k3 z3 kk hno8 e0 e1 S2
      have hlb : (setRow its t l (s.row.take j) s.box).length = s.box.length := setRow_len ..
      have HKr := Lib.hid (fun w' (i : Below W3.heap.size W3 w') => show w'.cell? ⟨P.kb, 7, none⟩ = some (.slice (some ⟨P.bx, 0, none⟩) s.box.length s.box.length) by
        have := (S3.out.2.2.2.1.below hO i).kr.at' 7
        rw [this]
        show some (Value.slice (some ⟨P.bx, 0, none⟩) (setRow its t l (s.row.take j) s.box).length (setRow its t l (s.row.take j) s.box).length) = _
        rw [hlb])
      have HB0 := Lib.hid (fun w' (i : Below W3.heap.size W3 w') => S3.out.2.2.2.2.1.below (by simp) i)
      have HB7 := Lib.hid (fun w' (i : Below W3.heap.size W3 w') => S3.out.2.1.below (by simp) i)
      have HB8 := Lib.hid (fun w' (i : Below W3.heap.size W3 w') => S3.out.2.2.1.below (by simp) i)
      refine Hold.wp_region_hold [.val (.pointer (some ⟨P.kb, 0, none⟩)), .val (.pointer (some ⟨P.kb, 0, none⟩)), .val (.pointer (some ⟨P.kb, 7, none⟩)), .val (.pointer (some ⟨P.kb, 7, none⟩)), .val (.slice (some ⟨P.bx, 0, none⟩) s.box.length s.box.length), .val (.int .i64 (k : Int)), .val (.agg #[.int .i64 u, .int .i64 (u + x.wd)]), .val (.pointer (some ⟨b0, 1, none⟩)), .val (.int .i64 t), .val (.pointer (some ⟨b0, 1, none⟩)), .val (.int .i64 t), .val (.pointer (some ⟨b7, 1, none⟩)), .val (.int .i64 x.ht), .val (.int .i64 (t + x.ht)), .val (.agg #[.int .i64 t, .int .i64 (t + x.ht)]), .val (.agg #[.int .i64 u, .int .i64 t, .int .i64 (u + x.wd), .int .i64 (t + x.ht)])] (by kernel_rfl) (by kernel_rfl) (by kernel_rfl) ?_ ?_
      · simp only [Hold.fill, Hold.Leave.value]
        refine ⟨?_, ?_, ?_, ?_, ?_, ?_, ?_, ?_, ?_, ?_, ?_, ?_, ?_, ?_, ?_, ?_, trivial⟩
        · intro gg w' hw hk
          go_simp
          exact ⟨rfl, rfl⟩
        · intro gg w' hw hk
          go_simp
          exact ⟨rfl, rfl⟩
        · intro gg w' hw hk
          go_simp
          exact ⟨rfl, rfl⟩
        · intro gg w' hw hk
          go_simp
          exact ⟨rfl, rfl⟩
        · intro gg w' hw hk
          have q0 : w'.cell? ⟨P.kb, 7, none⟩ = some (.slice (some ⟨P.bx, 0, none⟩) s.box.length s.box.length) := HKr.out w' hw
          go_simp
          exact ⟨rfl, rfl⟩
        · intro gg w' hw hk
          go_simp
          exact ⟨rfl, rfl⟩
        · intro gg w' hw hk
          have q0 : w'.cell? ⟨b8, 0, none⟩ = some (.int .i64 u) := (HB8.out w' hw).at' 0
          have q1 : w'.cell? ⟨b8, 1, none⟩ = some (.int .i64 (u + x.wd)) := (HB8.out w' hw).at' 1
          go_simp
          exact ⟨rfl, rfl⟩
        · intro gg w' hw hk
          go_simp
          exact ⟨rfl, rfl⟩
        · intro gg w' hw hk
          have q0 : w'.cell? ⟨b0, 1, none⟩ = some (.int .i64 t) := (HB0.out w' hw).at' 1
          go_simp
          exact ⟨rfl, rfl⟩
        · intro gg w' hw hk
          go_simp
          exact ⟨rfl, rfl⟩
        · intro gg w' hw hk
          have q0 : w'.cell? ⟨b0, 1, none⟩ = some (.int .i64 t) := (HB0.out w' hw).at' 1
          go_simp
          exact ⟨rfl, rfl⟩
        · intro gg w' hw hk
          go_simp
          exact ⟨rfl, rfl⟩
        · intro gg w' hw hk
          have q0 : w'.cell? ⟨b7, 1, none⟩ = some (.int .i64 x.ht) := (HB7.out w' hw).at' 1
          go_simp
          exact ⟨rfl, rfl⟩
        · intro gg w' hw hk
          have qn := HWt.out
          go_simp
          exact ⟨rfl, rfl⟩
        · intro gg w' hw hk
          go_simp
          exact ⟨rfl, rfl⟩
        · intro gg w' hw hk
          go_simp
          exact Hold.stays_call (rof_any _ _ _ _ w')
      intro gg w4 k4 hgg
      clear hgg
      simp only [Hold.fill, Hold.Leave.value, List.length_cons, List.length_nil, List.drop_succ_cons, List.drop_zero]
      have hK4 := S3.out.2.2.2.1.below hO k4
      have S4 := Lib.hid (⟨thru S3.out.1 k4, hK4, HB0.out w4 k4, HB8.out w4 k4⟩ : Below wr.heap.size wr w4 ∧ Kat S w4 P q its { s with box := setRow its t l (s.row.take j) s.box } ∧ RowAt w4 b0 [.int .i64 l, .int .i64 t, .int .i64 r, .int .i64 b] ∧ RowAt w4 b8 (Line.two u (u + x.wd)))
      have hbo := hK4.bo
      dsimp only at hbo
      rw [hlb] at hbo
      obtain ⟨bo, hbo', d0, d1, d2, d3, fz⟩ := box_cells hbo (k := k) (by omega)
      have f0 := fz (k * 4)
      have f1 := fz (k * 4 + 1)
      have f2 := fz (k * 4 + 2)
      have f3 := fz (k * 4 + 3)
      obtain ⟨c1, c2⟩ := mineB_put hbo (k := k) (by omega) ⟨u, t, u + x.wd, t + x.ht⟩
      obtain ⟨e1, e2⟩ := hK4.boxed hO (bs := (setRow its t l (s.row.take j) s.box).set k ⟨u, t, u + x.wd, t + x.ht⟩) List.length_set (by dsimp only; rw [hlb]; exact c1) c2
      have z0 := S4.out.2.2.1.but (by simp) c2 (fun e => S1.out.2.2.2 3 P.bx rfl e.symm)
      have z8 := S4.out.2.2.2.but (by simp) c2 (fun e => S3.out.2.2.2.2.2 3 P.bx rfl e.symm)
      have S5 := Lib.hid (⟨e1, (Grew.of_below S4.out.1).trans e2, z0, z8⟩ : _ ∧ Grew P q q wr _ ∧ _ ∧ _)
      have q8 : ((((w4.setCell ⟨P.bx, k * 4, none⟩ (.int .i64 u)).setCell ⟨P.bx, k * 4 + 1, none⟩ (.int .i64 t)).setCell ⟨P.bx, k * 4 + 2, none⟩ (.int .i64 (u + x.wd))).setCell ⟨P.bx, k * 4 + 3, none⟩ (.int .i64 (t + x.ht))).cell? ⟨b8, 1, none⟩ = some (.int .i64 (u + x.wd)) := z8.at' 1
      clear k4 hK4 hbo hbo' fz c1 c2 e1 e2 z0 z8 HKr HB0 HB7 HB8
      go_simp
      go_wp2_with fail
      go_roundw
      case rel => exact ⟨j + 1, by omega, by go_num, by rw [HS.out.2.1], Lib.hid ⟨by rw [HS.out.1]; exact S5.out.1, H.out.2.1.trans S5.out.2.1, S5.out.2.2.1⟩⟩
      case measure => simp [intOf]; omega
    · obtain rfl : j = n := by omega
      have he : s.row.take j = s.row := List.take_of_length_le (by rw [HN.out]; exact Nat.le_refl _)
      have hK := H.out.1
      rw [he] at hK
      have HZ := Lib.hid (⟨hK, H.out.2.1⟩ : Kat S wr P q its { s with box := setRow its t l s.row s.box } ∧ Grew P q q w wr)
      clear he hK
      go_wp2_with fail
      go_end0
      exact ⟨⟨_, rfl⟩, HZ.out.1, HZ.out.2⟩

end

end Go.Proofs.Ytdibdfalahjmbaa.Text
