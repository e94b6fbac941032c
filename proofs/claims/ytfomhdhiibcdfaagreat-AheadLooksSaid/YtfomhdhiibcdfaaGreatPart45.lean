/- The contract of change: rows get other bounds. -/
import Derived.Test.YtfomhdhiibcdfaaGreatPart44
namespace Go.Proofs.YtfomhdhiibcdfaaGreat.Shelf
open Go.RowKit Go.Sort Go.Proofs.YtfomhdhiibcdfaaGreat.Rect Go.Proofs.YtfomhdhiibcdfaaGreat.More
set_option linter.unusedVariables false

/-- What is asked of the function that makes one shelf's bounds other ones: seen from a world w0. -/
def Narrows (w0 : World) (B pb g : Nat) (f : Nat) (cap : Array Value) (nar : Int × Int → Int × Int) : Prop :=
  ∀ (w1 : World) (g' n c i : Nat) (xs : List Sh) (x : Sh), But (two g pb) w0 w1 → (g' = g ∨ w0.heap.size ≤ g') → MineE encSh 120 w1 B (some ⟨g', 0, none⟩) n c xs → xs[i]? = some x →
    Calls Tryz.prog f (#[.pointer (some ⟨g', i * 3, none⟩)] ++ cap) w1 fun r w2 => (∃ v, r = .returned v) ∧ MineE encSh 120 w2 B (some ⟨g', 0, none⟩) n c (xs.set i (x.1, nar x.2)) ∧ w1.grownBy w2 (some g')

theorem map_some {P M Q : List Sh} {nar : Int × Int → Int × Int} {k : Nat} (hk : k < M.length) (x : Sh) (hx : M[k]? = some x) :
    (P ++ (M.take k).map (fun x => (x.1, nar x.2)) ++ M.drop k ++ Q)[P.length + k]? = some x ∧
    (P ++ (M.take k).map (fun x => (x.1, nar x.2)) ++ M.drop k ++ Q).set (P.length + k) (x.1, nar x.2) = P ++ (M.take (k + 1)).map (fun x => (x.1, nar x.2)) ++ M.drop (k + 1) ++ Q := by
  have e : (P ++ (M.take k).map (fun x => (x.1, nar x.2))).length = P.length + k := by rw [List.length_append, List.length_map, List.length_take]; omega
  have hd : M.drop k = x :: M.drop (k + 1) := by
    rw [List.drop_eq_getElem_cons hk]; congr 1
    exact (List.getElem?_eq_some_iff.1 hx).2
  constructor
  · rw [List.append_assoc _ (M.drop k), List.getElem?_append_right (by omega), e, Nat.sub_self, hd]; rfl
  · rw [List.append_assoc _ (M.drop k), List.set_append_right _ _ (by omega), e, Nat.sub_self, hd, List.cons_append, List.set_cons_zero, List.take_add_one, hx, List.map_append]
    simp [List.append_assoc]

/-- Behind the first cut, and the second one. -/
structure Gone1 (W : World) (B pb g n tb : Nat) (t b : Int) (ys : List Sh) (g' n' c' : Nat) (w2 : World) : Prop where
  lst : Lst w2 B pb g' n' c' ys
  but : But (two g pb) W w2
  num : n' ≤ n + 1
  at' : g' = g ∨ W.heap.size ≤ g'
  e1 : w2.cell? ⟨tb, 1, none⟩ = some (.int .i64 b)
structure Gone2 (W : World) (B pb g n : Nat) (zs : List Sh) (g' n' c' : Nat) (w2 : World) : Prop where
  lst : Lst w2 B pb g' n' c' zs
  but : But (two g pb) W w2
  num : n' ≤ n + 2
  at' : g' = g ∨ W.heap.size ≤ g'

set_option maxRecDepth 100000 in
set_option maxHeartbeats 1000000 in
theorem change_any (pb g n c B k1 k2 i1 i2 : Nat) (xs ys zs A M C : List Sh) (x : Sh) (t b : Int) (b2 : Int × Int) (f : Nat) (cap : Array Value) (nar : Int × Int → Int × Int) (w : World)
    (eg : ∀ args w, (callFunc f args).run Tryz.prog w = .ok (.enter f args) w)
    (hl : Lst w B pb g n c xs) (hn : n ≤ 10000) (hB : B ≤ w.heap.size) (h1 : 1 ≤ k1) (ht1 : Thr xs t k1) (hc1 : cutL xs t k1 = (ys, i1)) (h2 : 1 ≤ k2) (ht2 : Thr ys b k2) (hc2 : cutL ys b k2 = (zs, i2))
    (hz : zs = A ++ x :: (M ++ (b, b2) :: C)) (hi1 : i1 = A.length + 1) (hi2 : i2 = A.length + 1 + M.length) (hN : Narrows w B pb g f cap nar) :
    Calls Tryz.prog 65 #[.pointer (some ⟨pb, 0, none⟩), .agg #[.int .i64 t, .int .i64 b], .func (.func f) #[] cap] w fun r w' => (∃ v, r = .returned v) ∧ (∃ g' n' c', Lst w' B pb g' n' c' (A ++ compL (x :: (M.map (fun x => (x.1, nar x.2)) ++ [(b, b2)])) ++ C) ∧ (g' = g ∨ w.heap.size ≤ g')) ∧ But (two g pb) w w' := by
  have HL := Lib.hid hl
  have HB := Lib.hid hB
  have HN := Lib.hid hN
  have HC1 := Lib.hid (fun w1 (k : Below w.heap.size w w1) => cut_any pb g n c B k1 i1 xs ys t w1 (hl.below k) (by omega) (by have := k.size; omega) h1 ht1 hc1)
  have HC2 := Lib.hid (fun w1 g' n' c' (h : Lst w1 B pb g' n' c' ys) (hn' : n' ≤ n + 1) (hB' : B ≤ w1.heap.size) => cut_any pb g' n' c' B k2 i2 ys zs b w1 h (by omega) hB' h2 ht2 hc2)
  have HZ := Lib.hid (⟨hz, hi1, hi2, hn⟩ : zs = A ++ x :: (M ++ (b, b2) :: C) ∧ i1 = A.length + 1 ∧ i2 = A.length + 1 + M.length ∧ n ≤ 10000)
  clear hl hB hN h1 ht1 hc1 h2 ht2 hc2 hz hi1 hi2
  go_enter Tryz.func65, Tryz.ntmps65
  go_upto_region 1 with fail
  generalize hW : World.alloc w _ = W
  obtain ⟨tb, htb⟩ : ∃ tb, w.heap.size = tb := ⟨_, rfl⟩
  have hkW : Below w.heap.size w W := by rw [← hW]; exact ba1 _ _
  have e0 : W.cell? ⟨tb, 0, none⟩ = some (.int .i64 t) := by rw [← hW, ← htb]; simp [go_sem]
  have e1 : W.cell? ⟨tb, 1, none⟩ = some (.int .i64 b) := by rw [← hW, ← htb]; simp [go_sem]
  rw [htb]
  have htl : tb < W.heap.size := block_lt_of_cell e0
  have hLW := HL.out.below hkW
  have D1 := Lib.hid (show Calls Tryz.prog 77 #[.pointer (some ⟨pb, 0, none⟩), .int .i64 t] W.drew fun r w2 => ∃ g' n' c', r = .returned (.int .i64 (i1 : Int)) ∧ w2.cell? ⟨tb, 1, none⟩ = some (.int .i64 b) ∧ Gone1 W B pb g n tb t b ys g' n' c' w2 from
    (HC1.out W.drew (thru hkW ⟨rfl, rfl, rfl, Nat.le_refl _, fun _ _ => rfl⟩)).mono fun r w2 ⟨g', n', c', q1, q2, q3, q4, q5⟩ => by
      have q6 : But (two g pb) W w2 := ⟨q3.os, q3.tape, q3.output, q3.size, q3.block⟩
      have q7 : w2.cell? ⟨tb, 1, none⟩ = some (.int .i64 b) := (q6.cell htl (fun q => by
        have h1 := HL.out.lt
        have h2 := HL.out.glt.2
        rcases q with q | q <;> omega)).trans e1
      exact ⟨g', n', c', q1, q7, q2, q6, q4, q5, q7⟩)
  have D2 := Lib.hid (fun w2 g' n' c' (h : Gone1 W B pb g n tb t b ys g' n' c' w2) => show Calls Tryz.prog 77 #[.pointer (some ⟨pb, 0, none⟩), .int .i64 b] w2 fun r w3 => ∃ g3 n3 c3, r = .returned (.int .i64 (i2 : Int)) ∧ Gone2 W B pb g n zs g3 n3 c3 w3 from
    (HC2.out w2 g' n' c' h.lst h.num (by have := h.but.size; have := hkW.size; have := HB.out; omega)).mono fun r w3 ⟨g3, n3, c3, q1, q2, q3, q4, q5⟩ => by
      have hs := h.but.size
      refine ⟨g3, n3, c3, q1, q2, h.but.trans q3 (fun j hj q => ?_), by have := h.num; omega, ?_⟩
      · rcases q with q | q
        · rcases h.at' with e | e
          · exact .inl (q.trans e)
          · omega
        · exact .inr q
      · rcases q5 with e | e
        · rw [e]; exact h.at'
        · exact .inr (by omega))
  have KW := Lib.hid hkW
  have HTB := Lib.hid (⟨htb, htl⟩ : w.heap.size = tb ∧ tb < W.heap.size)
  clear hW hkW htb htl hLW
  go_region_with (first
    | (go_at_call 77; with_reducible refine D1.out.mono ?_; rintro e w2 ⟨g', n', c', rfl, q7, hg1⟩; have G1 := Lib.hid hg1; clear hg1)
    | (go_at_call 77; with_reducible refine (D2.out _ _ _ _ G1.out).mono ?_; rintro e w3 ⟨g3, n3, c3, rfl, hg2⟩; have G2 := Lib.hid hg2; clear hg2))
  all_goals
    clear q7
    obtain ⟨hz, hi1, hi2, hn⟩ := HZ.out
    have hlz := G2.out.lst.len
    have hcap := G2.out.lst.cap.1
    rw [hz, List.length_append, List.length_cons, List.length_append, List.length_cons] at hlz
    have hn3 := G2.out.num
    have G3 := Lib.hid (⟨by omega, by rw [hi1, hi2], (show Lst w3 B pb g3 n3 c3 ((A ++ [x]) ++ (M.take (i1 - i1)).map (fun x => (x.1, nar x.2)) ++ M.drop (i1 - i1) ++ ((b, b2) :: C)) by
      have := G2.out.lst
      rw [hz] at this
      rw [Nat.sub_self, List.take_zero, List.map_nil, List.append_nil, List.drop_zero, List.append_assoc, List.append_assoc]
      simpa using this), G2.out.but⟩ : i2 < n3 ∧ i2 = i1 + M.length ∧ Lst w3 B pb g3 n3 c3 ((A ++ [x]) ++ (M.take (i1 - i1)).map (fun x => (x.1, nar x.2)) ++ M.drop (i1 - i1) ++ ((b, b2) :: C)) ∧ But (two g pb) W w3)
    have hb1 : i1 ≤ i2 := by omega
    have hb2 : 1 ≤ i1 := by omega
    have hb3 : n3 ≤ 20000 := by omega
    have hb4 : i2 < n3 := by omega
    clear hz hi1 hi2 hn hlz hcap hn3
    go_wp2_with fail
    go_loopw [8] (fun i wr => ∃ j : Nat, i1 ≤ j ∧ j ≤ i2 ∧ i = .int .i64 (j : Int) ∧ Hid (Lst wr B pb g3 n3 c3 ((A ++ [x]) ++ (M.take (j - i1)).map (fun x => (x.1, nar x.2)) ++ M.drop (j - i1) ++ ((b, b2) :: C)) ∧ But (two g pb) W wr)) (fun i _ => i2 - (intOf i).toNat)
    case atStart => exact ⟨i1, Nat.le_refl _, hb1, rfl, Lib.hid G3.out.2.2⟩
    case round =>
      obtain ⟨j, hj1, hj2, rfl, H⟩ := hrel
      by_cases hlt : j < i2
      · have hji : (j : Int) < (i2 : Int) := by omega
        have hjn : (j : Int) < (n3 : Int) := by omega
        have hj0 : ¬ (j : Int) < 0 := by omega
        have hM := G3.out.2.1
        have hAl : (A ++ [x]).length = i1 := by rw [List.length_append, HZ.out.2.1]; rfl
        obtain ⟨y, hy⟩ : ∃ y, M[j - i1]? = some y := ⟨_, List.getElem?_eq_getElem (by omega)⟩
        obtain ⟨ms1, ms2⟩ := map_some (P := A ++ [x]) (Q := (b, b2) :: C) (nar := nar) (show j - i1 < M.length by omega) y hy
        rw [hAl, show i1 + (j - i1) = j by omega] at ms1 ms2
        rw [show j - i1 + 1 = j + 1 - i1 by omega] at ms2
        have hp := H.out.1.cell
        have hbw : But (two g pb) w wr := (But.of_below KW.out).trans H.out.2 (fun _ _ q => q)
        have hgo : g3 = g ∨ w.heap.size ≤ g3 := by
          rcases G2.out.at' with e | e
          · exact .inl e
          · exact .inr (by have := KW.out.size; omega)
        have hcall := HN.out wr g3 n3 c3 j _ y hbw hgo H.out.1.row ms1
        rw [ms2] at hcall
        have HCL := Lib.hid hcall
        clear hcall ms1 ms2 hy hAl hM hbw hgo
        go_wp2_with (go_at_fn f; refine HCL.out.mono ?_; rintro e w4 ⟨⟨v, rfl⟩, m4, g4⟩; have H4 := Lib.hid (⟨m4, g4⟩ : MineE encSh 120 w4 B (some ⟨g3, 0, none⟩) n3 c3 ((A ++ [x]) ++ (M.take (j + 1 - i1)).map (fun x => (x.1, nar x.2)) ++ M.drop (j + 1 - i1) ++ ((b, b2) :: C)) ∧ wr.grownBy w4 (some g3)); clear m4 g4)
        go_roundw
        case rel =>
          refine ⟨j + 1, by omega, by omega, by go_num, Lib.hid ⟨H.out.1.rowed (n' := n3) H4.out.2 H4.out.1, H.out.2.trans (But.of_grown (S := fun k => k = g3) H4.out.2 rfl) (fun k hk q => ?_)⟩⟩
          rcases G2.out.at' with e | e
          · exact .inl (Eq.trans q e)
          · exact absurd hk (by rw [show k = g3 from q]; omega)
        case measure => simp [intOf]; omega
      · obtain rfl : j = i2 := by omega
        have hM := G3.out.2.1
        have hl2 := H.out.1
        rw [show j - i1 = M.length by omega, List.take_of_length_le (Nat.le_refl _), List.drop_of_length_le (Nat.le_refl _), List.append_nil] at hl2
        have hl3 : Lst wr B pb g3 n3 c3 (A ++ (x :: (M.map (fun x => (x.1, nar x.2)) ++ [(b, b2)])) ++ C) := by
          simpa [List.append_assoc] using hl2
        have hjo := join_any pb g3 n3 c3 B A.length (j + 1) A (x :: (M.map (fun x => (x.1, nar x.2)) ++ [(b, b2)])) C wr hl3 rfl (by rw [HZ.out.2.2.1]; simp; omega) (by simp) (by omega) (by have := H.out.2.size; have := KW.out.size; have := HB.out; omega)
        have HJ := Lib.hid hjo
        have hw1 : IntKind.i64.wrap ((i1 : Int) - 1) = ((A.length : Nat) : Int) := by rw [IntWalk.i64_in _ (by omega), HZ.out.2.1]; omega
        have hw2 : IntKind.i64.wrap ((j : Int) + 1) = ((j + 1 : Nat) : Int) := by rw [IntWalk.i64_in _ (by omega)]; omega
        obtain ⟨al, hal⟩ : ∃ al, A.length = al := ⟨_, rfl⟩
        obtain ⟨jl, hjl⟩ : ∃ jl, j + 1 = jl := ⟨_, rfl⟩
        rw [hal] at hw1 HJ
        rw [hjl] at hw2 HJ
        clear hjo hl2 hl3 hM hal hjl
        go_wp2_with (first
          | (go_at_call 78; refine HJ.out.mono ?_; rintro e w5 ⟨⟨v, rfl⟩, ⟨n5, hl5⟩, hb5⟩; have H5 := Lib.hid (⟨hl5, hb5⟩ : Lst w5 B pb g3 n5 c3 (A ++ compL (x :: (M.map (fun x => (x.1, nar x.2)) ++ [(b, b2)])) ++ C) ∧ But (two g3 pb) wr w5); clear hl5 hb5))
        go_end0
        have hgo : g3 = g ∨ w.heap.size ≤ g3 := by
          rcases G2.out.at' with e | e
          · exact .inl e
          · exact .inr (by have := KW.out.size; omega)
        refine ⟨⟨_, rfl⟩, ⟨g3, n5, c3, H5.out.1, hgo⟩, (But.of_below KW.out).trans (H.out.2.trans H5.out.2 (fun k hk q => ?_)) (fun _ _ q => q)⟩
        rcases q with q | q
        · rcases G2.out.at' with e | e
          · exact .inl (q.trans e)
          · exact absurd hk (by omega)
        · exact .inr q

end Go.Proofs.YtfomhdhiibcdfaaGreat.Shelf
