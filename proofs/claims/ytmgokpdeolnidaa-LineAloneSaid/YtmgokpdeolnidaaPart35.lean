/- The document's look whether floats, columns and a height are near; the law's begin. -/
import Derived.Test.YtmgokpdeolnidaaPart14
import Derived.Test.YtmgokpdeolnidaaPart6
namespace Go.Proofs.Ytmgokpdeolnidaa.Line
open Go.RowKit Go.Sort Go.Proofs.Ytmgokpdeolnidaa.Rect Go.Proofs.Ytmgokpdeolnidaa.More Go.Proofs.Ytmgokpdeolnidaa.Shelf Go.Proofs.Ytmgokpdeolnidaa.Space Go.Proofs.Ytmgokpdeolnidaa.Place
set_option linter.unusedVariables false
set_option linter.unusedSimpArgs false

def in47 (x : Int) : Bool := decide (-140737488355328 ≤ x) && decide (x ≤ 140737488355328)
theorem in47_iff {x : Int} : in47 x = true ↔ -140737488355328 ≤ x ∧ x ≤ 140737488355328 := by unfold in47; simp
/-- All numbers that are looked at. -/
def numsL (fs : List Fl) : List Int := fs.flatMap numsF
def nearL (fs : List Fl) (f t y : Int) : Bool := fs.all sideF && ([f, t, y] ++ numsL fs).all in47 && decide (f ≤ t)

theorem numsL_take {fs : List Fl} {k : Nat} {f : Fl} (h : fs[k]? = some f) : numsL (fs.take (k + 1)) = numsL (fs.take k) ++ numsF f := by
  unfold numsL
  rw [List.take_add_one, h, List.flatMap_append]
  simp
theorem numsL_len (fs : List Fl) : (numsL fs).length = fs.length * 4 := by
  induction fs with
  | nil => rfl
  | cons f fs ih => unfold numsL at *; simp only [List.flatMap_cons, List.length_append, ih, List.length_cons, numsF]; simp; omega

structure NearL (fs : List Fl) (f t y : Int) : Prop where
  h49 : fs.all near49 = true
  f1 : -140737488355328 ≤ f
  f2 : f ≤ 140737488355328
  t1 : -140737488355328 ≤ t
  t2 : t ≤ 140737488355328
  y1 : -140737488355328 ≤ y
  y2 : y ≤ 140737488355328
  ft : f ≤ t

theorem nearL_so {fs : List Fl} {f t y : Int} (h : nearL fs f t y = true) : NearL fs f t y := by
  unfold nearL at h
  simp only [Bool.and_eq_true, decide_eq_true_eq, List.all_append, List.all_cons, List.all_nil, Bool.and_true] at h
  obtain ⟨⟨hs, ⟨⟨h1, h2, h3⟩, hn⟩⟩, hft⟩ := h
  rw [in47_iff] at h1 h2 h3
  refine ⟨?_, h1.1, h1.2, h2.1, h2.2, h3.1, h3.2, hft⟩
  rw [List.all_eq_true]
  intro x hx
  have q : ∀ v ∈ numsF x, in47 v = true := fun v hv => List.all_eq_true.1 hn v (by unfold numsL; rw [List.mem_flatMap]; exact ⟨x, hx, hv⟩)
  have a1 := in47_iff.1 (q x.l (by simp [numsF]))
  have a2 := in47_iff.1 (q x.t (by simp [numsF]))
  have a3 := in47_iff.1 (q x.r (by simp [numsF]))
  have a4 := in47_iff.1 (q x.b (by simp [numsF]))
  exact near49_iff.2 ⟨by omega, by omega, by omega, by omega, by omega, by omega, by omega, by omega, sideF_iff.1 (List.all_eq_true.1 hs x hx)⟩

theorem all_out47 {xs : List Int} {k : Nat} (h : k < xs.length) {y : Int} (hy : xs.getD k 0 = y) (hb : in47 y = false) : xs.all in47 = false := by
  rw [List.all_eq_false]
  refine ⟨y, ?_, by rw [hb]; simp⟩
  rw [← hy, List.getD_eq_getElem?_getD, List.getElem?_eq_getElem h]
  exact List.getElem_mem _

theorem three_mine (w : World) (B : Nat) (hB : B ≤ w.heap.size) (a b c : Int) : Mine (w.alloc (.cells #[.int .i64 a, .int .i64 b, .int .i64 c] 3)) B (some ⟨w.heap.size, 0, none⟩) 3 3 [a, b, c] :=
  World.ownsRow_lit w #[.int .i64 a, .int .i64 b, .int .i64 c] 3 hB (by unfold maxLen; omega) rfl
theorem four_src {w : World} {g : Nat} {a b c d : Int} (h : w.heap[g]? = some (.cells #[.int .i64 a, .int .i64 b, .int .i64 c, .int .i64 d] 3)) : Src w (some ⟨g, 0, none⟩) 4 4 [a, b, c, d] := by
  obtain ⟨r0, r1, r2, r3⟩ := R4.of_block h
  refine ⟨rfl, fun e => (by cases e), fun k hk => ⟨_, rfl, ?_⟩⟩
  have hk : k < 4 := hk
  match k, hk with
  | 0, _ => exact r0
  | 1, _ => exact r1
  | 2, _ => exact r2
  | 3, _ => exact r3
def FourAt (a b c d : Int) (w : World) (v : Value) : Prop := ∃ g, v = .slice (some ⟨g, 0, none⟩) 4 4 ∧ w.heap[g]? = some (.cells #[.int .i64 a, .int .i64 b, .int .i64 c, .int .i64 d] 3)
theorem four_keeps (a b c d : Int) : Hold.Keeps (FourAt a b c d) := fun w w' u k ⟨g, e, h⟩ => ⟨g, e, (k.block g (lt_of_block h)).trans h⟩

set_option maxRecDepth 100000 in
set_option maxHeartbeats 2000000 in
theorem lnear_is (A : Option Addr) (n c : Nat) (fs : List Fl) (f t y : Int) (v : Bool) (w : World) (hn : n = fs.length) (hlen : n ≤ 1000) (hx : Floats w w.heap.size A fs) (hv : nearL fs f t y = v) :
    Calls Try.prog 27 #[.slice A n c, .int .i64 f, .int .i64 t, .int .i64 y] w fun e w' => e = .returned (.bool v) ∧ Below w.heap.size w w' := by
  have HX := Lib.hid hx
  have HN := Lib.hid (⟨hn, hlen⟩ : n = fs.length ∧ n ≤ 1000)
  have HV := Lib.hid hv
  clear hx hn hv
  go_enter Try.func27, Try.ntmps27
  go_upto_region 2 with fail
  generalize hW1 : World.alloc w _ = W
  obtain ⟨B, hB⟩ : ∃ B, w.heap.size = B := ⟨_, rfl⟩
  have k1 : Below w.heap.size w W := by rw [← hW1]; exact ba1 _ _
  have z1 : Mine W B (some ⟨B, 0, none⟩) 3 3 [f, t, y] := by rw [← hW1, ← hB]; exact three_mine w _ (Nat.le_refl _) _ _ _
  have S1 := Lib.hid (⟨k1, z1⟩ : Below w.heap.size w W ∧ Mine W B (some ⟨B, 0, none⟩) 3 3 [f, t, y])
  have HB := Lib.hid hB
  rw [hB]
  clear hW1 k1 z1 hB
  go_wp2_with fail
  go_loopw [9, 10] (fun u i wr => ∃ k : Nat, k ≤ n ∧ i = .int .i64 (k : Int) ∧ ∃ A9 c9 l9, u = .slice A9 l9 c9 ∧ Hid (l9 = 3 + k * 4 ∧ Mine wr B A9 l9 c9 ([f, t, y] ++ numsL (fs.take k)) ∧ (fs.take k).all sideF = true ∧ Below w.heap.size w wr)) (fun _ i _ => n - (intOf i).toNat)
  case atStart => exact ⟨0, Nat.zero_le _, rfl, _, _, 3, rfl, Lib.hid ⟨rfl, S1.out.2, by simp, S1.out.1⟩⟩
  case round =>
    obtain ⟨k, hk, rfl, A9, c9, l9, rfl, H⟩ := hrel
    by_cases hlt : k < n
    · have hki : (k : Int) < (n : Int) := by omega
      have hk0 : ¬ (k : Int) < 0 := by omega
      have hdd : decide ((k : Int) < (n : Int)) = true := decide_eq_true hki
      have hwk : IntKind.i64.wrap ((k : Int) + 1) = (k : Int) + 1 := IntWalk.i64_in _ (by omega)
      obtain ⟨x, hf⟩ : ∃ f, fs[k]? = some f := ⟨_, List.getElem?_eq_getElem (by rw [← HN.out.1]; exact hlt)⟩
      have HK := Lib.hid hf
      obtain ⟨ad, rfl, hab, d0, d1, d2, d3, d4⟩ := (HX.out.thru H.out.2.2.2) k x hf
      have HAT := Lib.hid (⟨d0, d1, d2, d3, d4⟩ : AtF wr (ad.add (k * 5)) x)
      clear hf
      go_upto_region 5 with fail
      have HAT2 := Lib.hid (fun w' (j : Below wr.heap.size wr w') => AtF.below HAT.out (by rw [block_of_add]; have h := block_lt_of_cell d0; rw [block_of_add] at h; exact h) j)
      clear d0 d1 d2 d3 d4 hab
      refine Hold.wp_region_hold [.val (.slice A9 l9 c9), .val (.slice (some ad) n c), .val (.int .i64 (k : Int)), .val (.pointer (some (ad.add (k * 5)))), .val (.pointer (some ⟨(ad.add (k * 5)).block, (ad.add (k * 5)).off + 1, none⟩)), .val (.pointer (some ⟨(ad.add (k * 5)).block, (ad.add (k * 5)).off + 1, none⟩)), .val (.int .i64 x.l), .val (.slice (some ad) n c), .val (.int .i64 (k : Int)), .val (.pointer (some (ad.add (k * 5)))), .val (.pointer (some ⟨(ad.add (k * 5)).block, (ad.add (k * 5)).off + 1, none⟩)), .val (.pointer (some ⟨(ad.add (k * 5)).block, (ad.add (k * 5)).off + 1 + 1, none⟩)), .val (.int .i64 x.t), .val (.slice (some ad) n c), .val (.int .i64 (k : Int)), .val (.pointer (some (ad.add (k * 5)))), .val (.pointer (some ⟨(ad.add (k * 5)).block, (ad.add (k * 5)).off + 1, none⟩)), .val (.pointer (some ⟨(ad.add (k * 5)).block, (ad.add (k * 5)).off + 1 + 2, none⟩)), .val (.int .i64 x.r), .val (.slice (some ad) n c), .val (.int .i64 (k : Int)), .val (.pointer (some (ad.add (k * 5)))), .val (.pointer (some ⟨(ad.add (k * 5)).block, (ad.add (k * 5)).off + 1, none⟩)), .val (.pointer (some ⟨(ad.add (k * 5)).block, (ad.add (k * 5)).off + 1 + 3, none⟩)), .val (.int .i64 x.b), .some (FourAt x.l x.t x.r x.b)] (by kernel_rfl) (by kernel_rfl) (by kernel_rfl) ?_ ?_
      · simp only [Hold.fill, Hold.Leave.value]
        refine ⟨?_, ?_, ?_, ?_, ?_, ?_, ?_, ?_, ?_, ?_, ?_, ?_, ?_, ?_, ?_, ?_, ?_, ?_, ?_, ?_, ?_, ?_, ?_, ?_, ?_, ?_, trivial⟩
        · intro gg w' hw hk
          go_simp
          exact ⟨rfl, rfl⟩
        · intro gg w' hw hk
          go_simp
          exact ⟨rfl, rfl⟩
        · intro gg w' hw hk
          go_simp
          exact ⟨rfl, rfl⟩
        · intro gg w' hw hk
          go_simp
          exact ⟨rfl, rfl⟩
        · intro gg w' hw hk
          go_simp
          exact ⟨rfl, rfl⟩
        · intro gg w' hw hk
          go_simp
          exact ⟨rfl, rfl⟩
        · intro gg w' hw hk
          have q := (HAT2.out w' hw).2.1
          go_simp
          exact ⟨rfl, rfl⟩
        · intro gg w' hw hk
          go_simp
          exact ⟨rfl, rfl⟩
        · intro gg w' hw hk
          go_simp
          exact ⟨rfl, rfl⟩
        · intro gg w' hw hk
          go_simp
          exact ⟨rfl, rfl⟩
        · intro gg w' hw hk
          go_simp
          exact ⟨rfl, rfl⟩
        · intro gg w' hw hk
          go_simp
          exact ⟨rfl, rfl⟩
        · intro gg w' hw hk
          have q := (HAT2.out w' hw).2.2.1
          go_simp
          exact ⟨rfl, rfl⟩
        · intro gg w' hw hk
          go_simp
          exact ⟨rfl, rfl⟩
        · intro gg w' hw hk
          go_simp
          exact ⟨rfl, rfl⟩
        · intro gg w' hw hk
          go_simp
          exact ⟨rfl, rfl⟩
        · intro gg w' hw hk
          go_simp
          exact ⟨rfl, rfl⟩
        · intro gg w' hw hk
          go_simp
          exact ⟨rfl, rfl⟩
        · intro gg w' hw hk
          have q := (HAT2.out w' hw).2.2.2.1
          go_simp
          exact ⟨rfl, rfl⟩
        · intro gg w' hw hk
          go_simp
          exact ⟨rfl, rfl⟩
        · intro gg w' hw hk
          go_simp
          exact ⟨rfl, rfl⟩
        · intro gg w' hw hk
          go_simp
          exact ⟨rfl, rfl⟩
        · intro gg w' hw hk
          go_simp
          exact ⟨rfl, rfl⟩
        · intro gg w' hw hk
          go_simp
          exact ⟨rfl, rfl⟩
        · intro gg w' hw hk
          have q := (HAT2.out w' hw).2.2.2.2
          go_simp
          exact ⟨rfl, rfl⟩
        · refine ⟨four_keeps _ _ _ _, fun gg w' hw hk => ?_⟩
          go_simp
          exact ⟨ba1 _ _, _, rfl, heap_alloc_new w' _⟩
      intro gg w4 k4 hgg
      simp only [Hold.fill, Hold.Leave.value, List.length_cons, List.length_nil, List.drop_succ_cons, List.drop_zero]
      obtain ⟨g4, q4, hg4⟩ := hgg 25 _ rfl
      rw [q4]
      have S4 := Lib.hid (⟨k4, H.out.2.1.below k4, hg4⟩ : Below wr.heap.size wr w4 ∧ Mine w4 B A9 l9 c9 ([f, t, y] ++ numsL (fs.take k)) ∧ w4.heap[g4]? = some (.cells #[.int .i64 x.l, .int .i64 x.t, .int .i64 x.r, .int .i64 x.b] 3))
      clear hgg q4 hg4 k4
      refine wpList_append_mine _ rfl (.tmp 22) (.tmp 47) rfl B A9 l9 c9 ([f, t, y] ++ numsL (fs.take k)) (by go_simp) S4.out.2.1 (some ⟨g4, 0, none⟩) 4 4 (numsF x) (by go_simp) (four_src S4.out.2.2) (by have := H.out.1; have := HN.out.2; omega) (by have := H.out.2.2.2.size; have := S4.out.1.size; have := HB.out; omega) ?_
      intro A5 c5 w5 hA
      have S5 := Lib.hid (⟨hA.1, hA.below S4.out.2.1 (thru H.out.2.2.2 S4.out.1) (by have := HB.out; omega) (by have := H.out.2.2.2.size; have := S4.out.1.size; omega)⟩ : Mine w5 B A5 (l9 + 4) c5 (([f, t, y] ++ numsL (fs.take k)) ++ numsF x) ∧ Below w.heap.size w w5)
      clear hA S4 HAT2
      obtain ⟨ad2, e2, hab, d0, d1, d2, d3, d4⟩ := (HX.out.thru S5.out.2) k x HK.out
      injection e2 with e2
      subst e2
      have HT := Lib.hid (numsL_take HK.out)
      have HL9 := Lib.hid (show l9 + 4 = 3 + (k + 1) * 4 by have := H.out.1; omega)
      go_simp
      obtain ⟨s, hs⟩ : ∃ s, x.s = s := ⟨_, rfl⟩
      rw [hs] at d0
      by_cases h1 : s = 1
      · have hb : (s != 1) = false := by simp [h1]
        have HS := Lib.hid (show sideF x = true from sideF_iff.2 (.inl (hs.trans h1)))
        clear h1 hs
        go_wp2_with fail
        go_roundw
        case rel => exact ⟨k + 1, by omega, by go_num, A5, c5, l9 + 4, rfl, Lib.hid ⟨HL9.out, by rw [HT.out, ← List.append_assoc]; exact S5.out.1, sides_take HK.out H.out.2.2.1 HS.out, S5.out.2⟩⟩
        case measure => simp [intOf]; omega
      · have hb : (s != 1) = true := by simp [h1]
        by_cases h2 : s = 2
        · have hb2 : (s != 2) = false := by simp [h2]
          have HS := Lib.hid (show sideF x = true from sideF_iff.2 (.inr (hs.trans h2)))
          clear h1 h2 hs
          go_wp2_with fail
          go_roundw
          case rel => exact ⟨k + 1, by omega, by go_num, A5, c5, l9 + 4, rfl, Lib.hid ⟨HL9.out, by rw [HT.out, ← List.append_assoc]; exact S5.out.1, sides_take HK.out H.out.2.2.1 HS.out, S5.out.2⟩⟩
          case measure => simp [intOf]; omega
        · have hb2 : (s != 2) = true := by simp [h2]
          have hvf : v = false := by rw [← HV.out]; unfold nearL; rw [sides_not HK.out (by unfold sideF; rw [hs]; simp [h1, h2])]; rfl
          subst hvf
          clear h1 h2 hs
          go_wp2_with fail
          go_ret
          exact ⟨rfl, S5.out.2⟩
    · obtain rfl : k = n := by omega
      have htk : fs.take k = fs := List.take_of_length_le (by rw [← HN.out.1]; exact Nat.le_refl _)
      have hm := H.out.2.1
      have hsd := H.out.2.2.1
      rw [htk] at hm hsd
      have HM := Lib.hid (⟨hm, hsd, H.out.2.2.2⟩ : Mine wr B A9 l9 c9 ([f, t, y] ++ numsL fs) ∧ fs.all sideF = true ∧ Below w.heap.size w wr)
      have hl9 := H.out.1
      clear htk hm hsd H
      obtain ⟨xs, hxs⟩ : ∃ xs, [f, t, y] ++ numsL fs = xs := ⟨_, rfl⟩
      have hv2 : (xs.all in47 && decide (f ≤ t)) = v := by rw [← HV.out]; unfold nearL; rw [HM.out.2.1, hxs]; rfl
      rw [hxs] at HM
      have HV2 := Lib.hid hv2
      have HX2 := Lib.hid (HM.out.1.nums)
      have HL2 := Lib.hid (HM.out.1.len)
      have hlb : l9 ≤ 5000 := by omega
      clear hv2 hxs hl9 HV
      go_wp2_with fail
      go_loopw [11] (fun i wq => ∃ j : Nat, j ≤ l9 ∧ i = .int .i64 (j : Int) ∧ wq = wr ∧ Hid ((xs.take j).all in47 = true)) (fun i _ => l9 - (intOf i).toNat)
      case atStart => exact ⟨0, Nat.zero_le _, rfl, rfl, Lib.hid (by simp)⟩
      case round =>
        obtain ⟨j, hj, rfl, rfl, G⟩ := hrel
        by_cases hlj : j < l9
        · have hji : (j : Int) < (l9 : Int) := by omega
          have hj0 : ¬ (j : Int) < 0 := by omega
          have hwj : IntKind.i64.wrap ((j : Int) + 1) = (j : Int) + 1 := IntWalk.i64_in _ (by omega)
          have hjx : j < xs.length := by have := HL2.out; omega
          obtain ⟨g, hA, hgl, hc⟩ := HX2.out j hjx
          obtain ⟨z, hz⟩ : ∃ z, xs.getD j 0 = z := ⟨_, rfl⟩
          rw [hz] at hc
          have HZ := Lib.hid (⟨hz, hjx⟩ : xs.getD j 0 = z ∧ j < xs.length)
          subst hA
          clear hz hjx
          by_cases q1 : z > 140737488355328
          · have hvf : v = false := by rw [← HV2.out, all_out47 HZ.out.2 HZ.out.1 (by rw [← Bool.not_eq_true, in47_iff]; omega)]; rfl
            subst hvf
            go_wp2_with fail
            go_ret
            exact ⟨rfl, HM.out.2.2⟩
          · by_cases q2 : z < -140737488355328
            · have hvf : v = false := by rw [← HV2.out, all_out47 HZ.out.2 HZ.out.1 (by rw [← Bool.not_eq_true, in47_iff]; omega)]; rfl
              subst hvf
              go_wp2_with fail
              go_ret
              exact ⟨rfl, HM.out.2.2⟩
            · have HJ := Lib.hid (show (xs.take (j + 1)).all in47 = true by rw [take_next xs j HZ.out.2, List.all_append, G.out, HZ.out.1]; simp [in47_iff]; omega)
              go_wp2_with fail
              go_roundw
              case rel => exact ⟨j + 1, by omega, by go_num, by first | trivial | rfl, HJ⟩
              case measure => simp [intOf]; omega
        · obtain rfl : j = l9 := by omega
          have hall : xs.all in47 = true := by have := G.out; rwa [List.take_of_length_le (by rw [HL2.out]; exact Nat.le_refl _)] at this
          have hvv : decide (f ≤ t) = v := by rw [← HV2.out, hall]; rfl
          have HVV := Lib.hid hvv
          clear hall hvv
          go_wp2_with fail
          go_ret
          exact ⟨by rw [← HVV.out]; congr 2, HM.out.2.2⟩

section
variable {S : World → (Nat → Prop) → Addr → List Fl → Prop}

set_option maxRecDepth 100000 in
set_option maxHeartbeats 600000 in
theorem llbegin_no (A : Option Addr) (n c : Nat) (fs : List Fl) (f t y : Int) (w : World) (hn : n = fs.length) (hx : Floats w w.heap.size A fs) (hv : (nearL fs f t y && decide ((n : Int) ≤ 20)) = false) :
    Calls Try.prog 8 #[.slice A n c, .int .i64 f, .int .i64 t, .int .i64 y] w fun r w' => r = .returned (.pointer none) ∧ Below w.heap.size w w' := by
  by_cases h20 : (n : Int) ≤ 20
  · have hvv : nearL fs f t y = false := by rw [decide_eq_true h20, Bool.and_true] at hv; exact hv
    have HNe := Lib.hid (lnear_is A n c fs f t y false w hn (by omega) hx hvv)
    have hm2 : ¬ (20 : Int) < (n : Int) := by omega
    clear hn hx hv hvv
    go_enter Try.func8, Try.ntmps8
    go_wp2_with (first
      | (go_at_call 27; refine HNe.out.mono ?_; rintro e w1 ⟨rfl, k1⟩; have K1 := Lib.hid k1; clear k1))
    go_ret
    exact ⟨rfl, K1.out⟩
  · have hm2 : (20 : Int) < (n : Int) := by omega
    clear hn hx hv h20
    go_enter Try.func8, Try.ntmps8
    go_wp2_with fail
    go_ret
    exact ⟨rfl, Below.refl _ _⟩

set_option maxRecDepth 100000 in
set_option maxHeartbeats 600000 in
theorem llbegin_any (hO : SpaceOk S) (A : Option Addr) (n c : Nat) (fs : List Fl) (f t y : Int) (w : World) (hn : n = fs.length) (hm : n ≤ 20) (hx : Floats w w.heap.size A fs) (hs : nearL fs f t y = true) :
    Calls Try.prog 8 #[.slice A n c, .int .i64 f, .int .i64 t, .int .i64 y] w fun r w' => (∃ p F, r = .returned (.pointer (some p)) ∧ S w' F p fs ∧ ∀ k, F k → w.heap.size ≤ k) ∧ Below w.heap.size w w' := by
  have HNe := Lib.hid (lnear_is A n c fs f t y true w hn (by omega) hx hs)
  have h49 := (nearL_so hs).h49
  have HBe := Lib.hid (fun w1 (k : Below w.heap.size w w1) => pbegin_any hO A n c fs w1 hn (by omega) (hx.thru k) (near49_near h49) (near49_side h49))
  have hm2 : ¬ (20 : Int) < (n : Int) := by omega
  clear hx hn hs hm h49
  go_enter Try.func8, Try.ntmps8
  go_wp2_with (first
    | (go_at_call 27; refine HNe.out.mono ?_; rintro e w1 ⟨rfl, k1⟩; have K1 := Lib.hid k1; clear k1)
    | (go_at_call 28; refine (HBe.out _ K1.out).mono ?_; rintro e w2 ⟨⟨p, F, rfl, hL, hF⟩, k2⟩; have HL := Lib.hid (⟨hL, (fun k q => Nat.le_trans K1.out.size (hF k q)), thru K1.out k2⟩ : S w2 F p fs ∧ (∀ k, F k → w.heap.size ≤ k) ∧ Below w.heap.size w w2); clear hL hF k2))
  go_ret
  exact ⟨⟨p, F, rfl, HL.out.1, HL.out.2.1⟩, HL.out.2.2⟩

end

end Go.Proofs.Ytmgokpdeolnidaa.Line
