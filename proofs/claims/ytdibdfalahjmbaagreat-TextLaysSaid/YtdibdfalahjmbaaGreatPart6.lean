
import Derived.Test.YtdibdfalahjmbaaGreatPart2
import Derived.Test.YtdibdfalahjmbaaGreatPart5
namespace Go.Proofs.YtdibdfalahjmbaaGreat.Shelf

open Go.RowKit Go.Sort Go.Proofs.YtdibdfalahjmbaaGreat.Rect Go.Proofs.YtdibdfalahjmbaaGreat.More

def Two (x y : Int) (w : World) (u : Value) : Prop := ∃ g : Nat, u = .slice (some ⟨g, 0, none⟩) 2 2 ∧ w.cell? ⟨g, 0, none⟩ = some (.int .i64 x) ∧ w.cell? ⟨g, 1, none⟩ = some (.int .i64 y) ∧ g < w.heap.size

theorem two_keeps (x y : Int) : Hold.Keeps (Two x y) := fun _ _ _ hb ⟨g, e, h1, h2, h3⟩ => ⟨g, e, (hb.cell (p := ⟨g, 0, none⟩) h3).trans h1, (hb.cell (p := ⟨g, 1, none⟩) h3).trans h2, Nat.lt_of_lt_of_le h3 hb.size⟩

def nextK (fs : List Fl) (y : Int) (k : Nat) : Int × Bool := (fs.take k).foldl (fun s f => stepN y (cntF f) (stepN y (cntF f) s f.t) f.b) (0, false)

theorem nextK_next {fs : List Fl} {k : Nat} {f : Fl} (h : fs[k]? = some f) (y : Int) : nextK fs y (k + 1) = stepN y (cntF f) (stepN y (cntF f) (nextK fs y k) f.t) f.b := by
  unfold nextK
  rw [List.take_add_one, h]
  simp [List.foldl_append]

theorem nextK_all (fs : List Fl) (y : Int) : nextK fs y fs.length = nextF fs y := by unfold nextK nextF; rw [List.take_of_length_le (Nat.le_refl _)]

theorem step_no {y e v : Int} {c ok : Bool} (h : c = false ∨ ¬ y < e ∨ (ok = true ∧ ¬ e < v)) : stepN y c (v, ok) e = (v, ok) := by
  unfold stepN
  rcases h with h | h | ⟨h, h2⟩
  · subst h; simp
  · simp [h]
  · subst h; simp [h2]

theorem step_yes {y e v : Int} {ok : Bool} (h : y < e) (h2 : ok = false ∨ e < v) : stepN y true (v, ok) e = (e, true) := by
  unfold stepN
  rcases h2 with h2 | h2
  · subst h2; simp [h]
  · simp [h, h2]

theorem two_is {x y : Int} {w : World} {u : Value} (h : Two x y w u) : ∃ g : Nat, u = .slice (some ⟨g, 0, none⟩) 2 2 := ⟨h.choose, h.choose_spec.1⟩

def stepJ (y : Int) (f : Fl) (s : Int × Bool) : Nat → Int × Bool
  | 0 => s
  | 1 => stepN y (cntF f) s f.t
  | _ => stepN y (cntF f) (stepN y (cntF f) s f.t) f.b

set_option maxRecDepth 100000 in
set_option maxHeartbeats 8000000 in
theorem refnext_any (A : Option Addr) (n c : Nat) (fs : List Fl) (y : Int) (w : World) (hn : n = fs.length) (hlen : n ≤ 1000000) (hx : Floats w w.heap.size A fs) :
    Calls Tryz.prog 36 #[.slice A n c, .int .i64 y] w fun e w' => e = .returned (.tuple #[.int .i64 (nextF fs y).1, .bool (nextF fs y).2]) ∧ Below w.heap.size w w' := by
  have HX := Lib.hid hx
  have HN := Lib.hid hn
  clear hx hn
  go_enter Tryz.func36, Tryz.ntmps36
  go_wp2_with fail
  go_loopw [6, 7, 8] (fun s t i wr => ∃ k : Nat, k ≤ n ∧ i = .int .i64 (k : Int) ∧ s = .int .i64 (nextK fs y k).1 ∧ t = .bool (nextK fs y k).2 ∧ Hid (Below w.heap.size w wr)) (fun _ _ i _ => n - (intOf i).toNat)
  case atStart => exact ⟨0, Nat.zero_le _, rfl, rfl, rfl, Lib.hid (Below.refl _ _)⟩
  case round =>
    obtain ⟨k, hk, rfl, rfl, rfl, H⟩ := hrel
    by_cases hlt : k < n
    · have hki : (k : Int) < (n : Int) := by omega
      have hk0 : ¬ (k : Int) < 0 := by omega
      obtain ⟨f, hf⟩ : ∃ f, fs[k]? = some f := ⟨_, List.getElem?_eq_getElem (by rw [← HN.out]; exact hlt)⟩
      obtain ⟨S, hS⟩ : ∃ S, nextK fs y k = S := ⟨_, rfl⟩
      have HNX := Lib.hid (show nextK fs y (k + 1) = stepJ y f S 2 by rw [nextK_next hf, hS]; rfl)
      rw [hS]
      obtain ⟨ad, rfl, hab, d0, d1, d2, d3, d4⟩ := (HX.out.thru H.out) k f hf
      have hbl : (ad.add (k * 5)).block < wr.heap.size := by rw [block_of_add]; exact hab
      have HAt2 := Lib.hid (fun w' (j : Below wr.heap.size wr w') => (j.cell (p := ⟨(ad.add (k * 5)).block, (ad.add (k * 5)).off + 2, none⟩) hbl).trans d2)
      have HAt4 := Lib.hid (fun w' (j : Below wr.heap.size wr w') => (j.cell (p := ⟨(ad.add (k * 5)).block, (ad.add (k * 5)).off + 4, none⟩) hbl).trans d4)
      have HA := Lib.hid (fun w' (j : Below wr.heap.size wr w') => (show AtF w' (ad.add (k * 5)) f from AtF.below ⟨d0, d1, d2, d3, d4⟩ hbl j))
      obtain ⟨cv, hcv⟩ : ∃ cv, cntF f = cv := ⟨_, rfl⟩
      have HCV := Lib.hid hcv
      have HCT := Lib.hid (fun w => counts_is f cv hcv w)
      have HO := H
      obtain ⟨wo, hwo⟩ : ∃ x, x = wr := ⟨_, rfl⟩
      subst hwo
      clear hf hS hcv d0 d1 d2 d3 d4 H
      go_upto_region 5 with fail
      refine HoldAll.wp_region_hold_all [.val (.slice (some ad) n c), .val (.int .i64 (k : Int)), .val (.pointer (some (ad.add (k * 5)))), .val (.pointer (some ⟨(ad.add (k * 5)).block, (ad.add (k * 5)).off + 1, none⟩)), .val (.pointer (some ⟨(ad.add (k * 5)).block, (ad.add (k * 5)).off + 2, none⟩)), .val (.int .i64 f.t), .val (.slice (some ad) n c), .val (.int .i64 (k : Int)), .val (.pointer (some (ad.add (k * 5)))), .val (.pointer (some ⟨(ad.add (k * 5)).block, (ad.add (k * 5)).off + 1, none⟩)), .val (.pointer (some ⟨(ad.add (k * 5)).block, (ad.add (k * 5)).off + 4, none⟩)), .val (.int .i64 f.b), .some (Two f.t f.b), .val (.int .i64 2), .val (.int .i64 0)] (by kernel_rfl) (by kernel_rfl) (by kernel_rfl) ?_ ?_
      · simp only [Hold.fill, Hold.Leave.value]
        refine ⟨?_, ?_, ?_, ?_, ?_, ?_, ?_, ?_, ?_, ?_, ?_, ?_, ?_, ?_, ?_, trivial⟩
        · intro gg w' hw hk
          go_simp
          exact ⟨rfl, rfl⟩
        · intro gg w' hw hk
          go_simp
          exact ⟨rfl, rfl⟩
        · intro gg w' hw hk
          go_simp
          exact ⟨rfl, rfl⟩
        · intro gg w' hw hk
          go_simp
          exact ⟨rfl, rfl⟩
        · intro gg w' hw hk
          go_simp
          exact ⟨rfl, rfl⟩
        · intro gg w' hw hk
          have q := HAt2.out w' hw
          go_simp
          exact ⟨rfl, rfl⟩
        · intro gg w' hw hk
          go_simp
          exact ⟨rfl, rfl⟩
        · intro gg w' hw hk
          go_simp
          exact ⟨rfl, rfl⟩
        · intro gg w' hw hk
          go_simp
          exact ⟨rfl, rfl⟩
        · intro gg w' hw hk
          go_simp
          exact ⟨rfl, rfl⟩
        · intro gg w' hw hk
          go_simp
          exact ⟨rfl, rfl⟩
        · intro gg w' hw hk
          have q := HAt4.out w' hw
          go_simp
          exact ⟨rfl, rfl⟩
        · refine ⟨two_keeps _ _, fun gg w' hw hk => ?_⟩
          go_simp
          exact ⟨ba1 _ _, _, rfl, by simp [go_sem], by simp [go_sem], by simp⟩
        · intro gg w' hw hk
          have h1 := hk ⟨12, .data⟩ (by simp) rfl _ rfl
          obtain ⟨g13, h13⟩ : ∃ g13 : Nat, gg 12 = .slice (some ⟨g13, 0, none⟩) 2 2 := two_is h1
          clear h1 hk
          go_simp
          exact ⟨rfl, rfl⟩
        · intro gg w' hw hk
          go_simp
          exact ⟨rfl, rfl⟩
      intro gg w2 k2 hgg
      obtain ⟨g, hg0, hg1, hg2, hg3⟩ := hgg 12 _ rfl
      simp only [Hold.fill, Hold.Leave.value]
      rw [hg0]
      clear hgg hg0
      have K2 := Lib.hid k2
      have G0 := Lib.hid (fun w' (j : Below w2.heap.size w2 w') => (j.cell (p := ⟨g, 0, none⟩) hg3).trans hg1)
      have G1 := Lib.hid (fun w' (j : Below w2.heap.size w2 w') => (j.cell (p := ⟨g, 1, none⟩) hg3).trans hg2)
      clear k2 hg1 hg2
      go_wp2_with fail
      go_loopw [31, 6, 7] (fun i s t wr => ∃ j : Nat, j ≤ 2 ∧ i = .int .i64 (j : Int) ∧ s = .int .i64 (stepJ y f S j).1 ∧ t = .bool (stepJ y f S j).2 ∧ Hid (Below w2.heap.size w2 wr)) (fun i _ _ _ => 2 - (intOf i).toNat)
      case atStart => exact ⟨0, by omega, rfl, rfl, rfl, Lib.hid (Below.refl _ _)⟩
      case round =>
        obtain ⟨j, hj, rfl, rfl, rfl, H⟩ := hrel
        by_cases hj2 : j < 2
        · have hji : (j : Int) < 2 := by omega
          have hj0 : ¬ (j : Int) < 0 := by omega
          obtain ⟨e, q, hnx⟩ : ∃ e, wr.cell? ⟨g, j, none⟩ = some (.int .i64 e) ∧ stepJ y f S (j + 1) = stepN y cv (stepJ y f S j) e := by
            rcases (show j = 0 ∨ j = 1 by omega) with h | h
            · subst h; exact ⟨f.t, G0.out _ H.out, by rw [← HCV.out]; rfl⟩
            · subst h; exact ⟨f.b, G1.out _ H.out, by rw [← HCV.out]; rfl⟩
          obtain ⟨v, ok, hvo⟩ : ∃ v ok, stepJ y f S j = (v, ok) := ⟨_, _, rfl⟩
          rw [hvo] at hnx
          rw [hvo]
          have HNJ := Lib.hid hnx
          obtain ⟨a0, a1, a2, a3, a4⟩ := HA.out _ (thru K2.out H.out)
          dsimp only
          clear hnx hvo
          cases cv
          · have HJ := Lib.hid (show stepJ y f S (j + 1) = (v, ok) by rw [HNJ.out]; exact step_no (.inl rfl))
            clear HNJ
            go_wp2_with (first
              | (go_at_call 52; refine (HCT.out _).mono ?_; rintro e w1 ⟨rfl, k1⟩; have K1 := Lib.hid k1; clear k1))
            go_roundw
            case rel => exact ⟨j + 1, by omega, by go_num, by rw [HJ.out], by rw [HJ.out], Lib.hid (thru H.out K1.out)⟩
            case measure => simp [intOf]; omega
          · by_cases h1 : y < e
            · cases ok
              · have HJ := Lib.hid (show stepJ y f S (j + 1) = (e, true) by rw [HNJ.out]; exact step_yes h1 (.inl rfl))
                clear HNJ
                go_wp2_with (first
                  | (go_at_call 52; refine (HCT.out _).mono ?_; rintro e w1 ⟨rfl, k1⟩; have K1 := Lib.hid k1; clear k1))
                go_roundw
                case rel => exact ⟨j + 1, by omega, by go_num, by rw [HJ.out], by rw [HJ.out], Lib.hid (thru H.out K1.out)⟩
                case measure => simp [intOf]; omega
              · by_cases h2 : e < v
                · have HJ := Lib.hid (show stepJ y f S (j + 1) = (e, true) by rw [HNJ.out]; exact step_yes h1 (.inr h2))
                  clear HNJ
                  go_wp2_with (first
                    | (go_at_call 52; refine (HCT.out _).mono ?_; rintro e w1 ⟨rfl, k1⟩; have K1 := Lib.hid k1; clear k1))
                  go_roundw
                  case rel => exact ⟨j + 1, by omega, by go_num, by rw [HJ.out], by rw [HJ.out], Lib.hid (thru H.out K1.out)⟩
                  case measure => simp [intOf]; omega
                · have HJ := Lib.hid (show stepJ y f S (j + 1) = (v, true) by rw [HNJ.out]; exact step_no (.inr (.inr ⟨rfl, h2⟩)))
                  clear HNJ
                  go_wp2_with (first
                    | (go_at_call 52; refine (HCT.out _).mono ?_; rintro e w1 ⟨rfl, k1⟩; have K1 := Lib.hid k1; clear k1))
                  go_roundw
                  case rel => exact ⟨j + 1, by omega, by go_num, by rw [HJ.out], by rw [HJ.out], Lib.hid (thru H.out K1.out)⟩
                  case measure => simp [intOf]; omega
            · have HJ := Lib.hid (show stepJ y f S (j + 1) = (v, ok) by rw [HNJ.out]; exact step_no (.inr (.inl h1)))
              clear HNJ
              go_wp2_with (first
                | (go_at_call 52; refine (HCT.out _).mono ?_; rintro e w1 ⟨rfl, k1⟩; have K1 := Lib.hid k1; clear k1))
              go_roundw
              case rel => exact ⟨j + 1, by omega, by go_num, by rw [HJ.out], by rw [HJ.out], Lib.hid (thru H.out K1.out)⟩
              case measure => simp [intOf]; omega
        · obtain rfl : j = 2 := by omega
          have HRR := Lib.hid (thru HO.out (thru K2.out H.out))
          go_wp2_with fail
          go_roundw
          case rel => exact ⟨k + 1, by omega, by go_num, by rw [HNX.out], by rw [HNX.out], HRR⟩
          case measure => simp [intOf]; omega
    · obtain rfl : k = n := by omega
      have HE := Lib.hid (show nextK fs y k = nextF fs y by rw [HN.out, nextK_all])
      obtain ⟨v, ok, hvo⟩ : ∃ v ok, nextK fs y k = (v, ok) := ⟨_, _, rfl⟩
      have HVO := Lib.hid hvo
      rw [hvo]
      dsimp only
      clear hvo
      go_wp2_with fail
      exact bodyPost_ret (v := .tuple #[.int .i64 v, .bool ok]) (by simp [results, Tryz.results36, go_sem]) rfl ⟨by rw [← HE.out, HVO.out], H.out⟩

end Go.Proofs.YtdibdfalahjmbaaGreat.Shelf
