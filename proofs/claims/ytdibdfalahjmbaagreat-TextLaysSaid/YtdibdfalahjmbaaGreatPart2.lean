
import Derived.Test.YtdibdfalahjmbaaGreatPart1
namespace Go.Proofs.YtdibdfalahjmbaaGreat.Shelf

open Go.RowKit Go.Sort Go.Proofs.YtdibdfalahjmbaaGreat.Rect

def AtF (w : World) (p : Addr) (f : Fl) : Prop :=
  w.cell? p = some (.int .i64 f.s) ∧ w.cell? ⟨p.block, p.off + 1, none⟩ = some (.int .i64 f.l) ∧ w.cell? ⟨p.block, p.off + 2, none⟩ = some (.int .i64 f.t) ∧ w.cell? ⟨p.block, p.off + 3, none⟩ = some (.int .i64 f.r) ∧
  w.cell? ⟨p.block, p.off + 4, none⟩ = some (.int .i64 f.b)

theorem AtF.below {w w' : World} {B : Nat} {p : Addr} {f : Fl} (h : AtF w p f) (hp : p.block < B) (k : Below B w w') : AtF w' p f := by
  have e0 : w'.cell? p = w.cell? p := k.cell hp
  have e : ∀ o, w'.cell? ⟨p.block, o, none⟩ = w.cell? ⟨p.block, o, none⟩ := fun o => k.cell (p := ⟨p.block, o, none⟩) hp
  unfold AtF at *
  simp only [e, e0]
  exact h

def Floats (w : World) (B : Nat) (A : Option Addr) (fs : List Fl) : Prop :=
  ∀ k f, fs[k]? = some f → ∃ ad : Addr, A = some ad ∧ ad.block < B ∧ AtF w (ad.add (k * 5)) f

theorem Floats.below {w w' : World} {B : Nat} {A : Option Addr} {fs : List Fl} (h : Floats w B A fs) (k : Below B w w') : Floats w' B A fs := fun i f hi => by
  obtain ⟨ad, e, hb, hc⟩ := h i f hi
  exact ⟨ad, e, hb, hc.below (by rw [block_of_add]; exact hb) k⟩

theorem Floats.more {w : World} {B C : Nat} {A : Option Addr} {fs : List Fl} (h : Floats w B A fs) (hc : B ≤ C) : Floats w C A fs := fun i f hi => by
  obtain ⟨ad, e, hb, hx⟩ := h i f hi
  exact ⟨ad, e, by omega, hx⟩

theorem Floats.thru {w w' : World} {A : Option Addr} {fs : List Fl} (h : Floats w w.heap.size A fs) (k : Below w.heap.size w w') : Floats w' w'.heap.size A fs := (h.below k).more k.size

theorem bandL_take {fs : List Fl} {k : Nat} {f : Fl} (h : fs[k]? = some f) (a z : Int) : bandL (fs.take (k + 1)) a z = if hitF 1 a z f then max (bandL (fs.take k) a z) f.r else bandL (fs.take k) a z := by
  unfold bandL
  rw [List.take_add_one, h]
  simp [List.foldl_append]

theorem bandR_take {fs : List Fl} {k : Nat} {f : Fl} (h : fs[k]? = some f) (a z : Int) : bandR (fs.take (k + 1)) a z = if hitF 2 a z f then min (bandR (fs.take k) a z) f.l else bandR (fs.take k) a z := by
  unfold bandR
  rw [List.take_add_one, h]
  simp [List.foldl_append]

theorem hit_not {side y : Int} {f : Fl} (h : cntF f = false ∨ y < f.t ∨ f.b ≤ y ∨ f.s ≠ side) : ¬ hitF side y (y + 1) f = true := fun hh => by
  obtain ⟨c, s, h1, h2, -⟩ := hitF_iff.1 hh
  rcases h with h | h | h | h
  · rw [h] at c; cases c
  · omega
  · omega
  · exact h s

theorem hit_yes {side y : Int} {f : Fl} (hc : cntF f = true) (h1 : f.t ≤ y) (h2 : y < f.b) (hs : f.s = side) : hitF side y (y + 1) f = true := hitF_iff.2 ⟨hc, hs, by omega, h2, by omega⟩

set_option maxRecDepth 100000 in
set_option maxHeartbeats 4000000 in
theorem refbounds_any (A : Option Addr) (n c : Nat) (fs : List Fl) (y : Int) (w : World) (hn : n = fs.length) (hlen : n ≤ 1000000) (hx : Floats w w.heap.size A fs) :
    Calls Tryz.prog 81 #[.slice A n c, .int .i64 y] w fun e w' => e = .returned (.tuple #[.int .i64 (bandL fs y (y + 1)), .int .i64 (bandR fs y (y + 1))]) ∧ Below w.heap.size w w' := by
  have HX := Lib.hid hx
  have HN := Lib.hid hn
  clear hx hn
  go_enter Tryz.func81, Tryz.ntmps81
  go_wp2_with fail
  go_loopw [6, 7, 8] (fun s t i wr => ∃ k : Nat, k ≤ n ∧ i = .int .i64 (k : Int) ∧ s = .int .i64 (bandL (fs.take k) y (y + 1)) ∧ t = .int .i64 (bandR (fs.take k) y (y + 1)) ∧ Hid (Below w.heap.size w wr)) (fun _ _ i _ => n - (intOf i).toNat)
  case atStart => exact ⟨0, Nat.zero_le _, rfl, rfl, rfl, Lib.hid (Below.refl _ _)⟩
  case round =>
    obtain ⟨k, hk, rfl, rfl, rfl, H⟩ := hrel
    obtain ⟨lv, hlv⟩ : ∃ lv, bandL (fs.take k) y (y + 1) = lv := ⟨_, rfl⟩
    obtain ⟨rv, hrv⟩ : ∃ rv, bandR (fs.take k) y (y + 1) = rv := ⟨_, rfl⟩
    rw [hlv, hrv]
    have HLV := Lib.hid hlv
    have HRV := Lib.hid hrv
    clear hlv hrv
    by_cases hlt : k < n
    · have hki : (k : Int) < (n : Int) := by omega
      have hk0 : ¬ (k : Int) < 0 := by omega
      obtain ⟨f, hf⟩ : ∃ f, fs[k]? = some f := ⟨_, List.getElem?_eq_getElem (by rw [← HN.out]; exact hlt)⟩
      obtain ⟨ad, rfl, hab, d0, d1, d2, d3, d4⟩ := (HX.out.thru H.out) k f hf
      have hbl : (ad.add (k * 5)).block < wr.heap.size := by rw [block_of_add]; exact hab
      have HA0 := Lib.hid (fun w' (j : Below wr.heap.size wr w') => (j.cell (p := ad.add (k * 5)) hbl).trans d0)
      have HK := Lib.hid hf
      obtain ⟨cv, hcv⟩ : ∃ cv, cntF f = cv := ⟨_, rfl⟩
      have HCV := Lib.hid hcv
      have HCT := Lib.hid (fun w => counts_is f cv hcv w)
      clear hf hcv
      cases cv
      · have HL := Lib.hid (show bandL (fs.take (k + 1)) y (y + 1) = lv by rw [bandL_take HK.out, HLV.out]; exact if_neg (hit_not (.inl HCV.out)))
        have HR := Lib.hid (show bandR (fs.take (k + 1)) y (y + 1) = rv by rw [bandR_take HK.out, HRV.out]; exact if_neg (hit_not (.inl HCV.out)))
        clear HLV HRV HK
        go_wp2_with (first
          | (go_at_call 52; refine (HCT.out _).mono ?_; rintro e w1 ⟨rfl, k1⟩; obtain ⟨hc, -⟩ := bcell k1; have K1 := Lib.hid k1; have d0 := HA0.out _ (thru (ba1 wr _) k1); clear k1))
        go_roundw
        case rel => exact ⟨k + 1, by omega, by go_num, by rw [HL.out], by rw [HR.out], Lib.hid (thru H.out (thru (ba1 wr _) K1.out))⟩
        case measure => simp [intOf]; omega
      · by_cases h1 : y < f.t
        · have HL := Lib.hid (show bandL (fs.take (k + 1)) y (y + 1) = lv by rw [bandL_take HK.out, HLV.out]; exact if_neg (hit_not (.inr (.inl h1))))
          have HR := Lib.hid (show bandR (fs.take (k + 1)) y (y + 1) = rv by rw [bandR_take HK.out, HRV.out]; exact if_neg (hit_not (.inr (.inl h1))))
          clear HLV HRV HK
          go_wp2_with (first
            | (go_at_call 52; refine (HCT.out _).mono ?_; rintro e w1 ⟨rfl, k1⟩; obtain ⟨hc, -⟩ := bcell k1; have K1 := Lib.hid k1; have d0 := HA0.out _ (thru (ba1 wr _) k1); clear k1))
          go_roundw
          case rel => exact ⟨k + 1, by omega, by go_num, by rw [HL.out], by rw [HR.out], Lib.hid (thru H.out (thru (ba1 wr _) K1.out))⟩
          case measure => simp [intOf]; omega
        · by_cases h2 : f.b ≤ y
          · have HL := Lib.hid (show bandL (fs.take (k + 1)) y (y + 1) = lv by rw [bandL_take HK.out, HLV.out]; exact if_neg (hit_not (.inr (.inr (.inl h2)))))
            have HR := Lib.hid (show bandR (fs.take (k + 1)) y (y + 1) = rv by rw [bandR_take HK.out, HRV.out]; exact if_neg (hit_not (.inr (.inr (.inl h2)))))
            clear HLV HRV HK
            go_wp2_with (first
              | (go_at_call 52; refine (HCT.out _).mono ?_; rintro e w1 ⟨rfl, k1⟩; obtain ⟨hc, -⟩ := bcell k1; have K1 := Lib.hid k1; have d0 := HA0.out _ (thru (ba1 wr _) k1); clear k1))
            go_roundw
            case rel => exact ⟨k + 1, by omega, by go_num, by rw [HL.out], by rw [HR.out], Lib.hid (thru H.out (thru (ba1 wr _) K1.out))⟩
            case measure => simp [intOf]; omega
          · have hcs := (cntF_iff.1 HCV.out).2.2
            by_cases hs1 : f.s = 1
            · have e1 : (f.s == 1) = true := by simp [hs1]
              have e2 : (f.s == 2) = false := by simp [hs1]
              have hyes := Lib.hid (hit_yes (side := 1) (y := y) HCV.out (by omega) (by omega) hs1)
              by_cases hm : lv < f.r
              · have HL := Lib.hid (show bandL (fs.take (k + 1)) y (y + 1) = f.r by rw [bandL_take HK.out, HLV.out]; rw [if_pos hyes.out]; omega)
                have HR := Lib.hid (show bandR (fs.take (k + 1)) y (y + 1) = rv by rw [bandR_take HK.out, HRV.out]; exact if_neg (hit_not (.inr (.inr (.inr (by omega))))))
                clear HLV HRV HK hyes hcs hs1
                go_wp2_with (first
                  | (go_at_call 52; refine (HCT.out _).mono ?_; rintro e w1 ⟨rfl, k1⟩; obtain ⟨hc, -⟩ := bcell k1; have K1 := Lib.hid k1; have d0 := HA0.out _ (thru (ba1 wr _) k1); clear k1))
                go_roundw
                case rel => exact ⟨k + 1, by omega, by go_num, by rw [HL.out], by rw [HR.out], Lib.hid (thru H.out (thru (ba1 wr _) K1.out))⟩
                case measure => simp [intOf]; omega
              · have HL := Lib.hid (show bandL (fs.take (k + 1)) y (y + 1) = lv by rw [bandL_take HK.out, HLV.out]; rw [if_pos hyes.out]; omega)
                have HR := Lib.hid (show bandR (fs.take (k + 1)) y (y + 1) = rv by rw [bandR_take HK.out, HRV.out]; exact if_neg (hit_not (.inr (.inr (.inr (by omega))))))
                clear HLV HRV HK hyes hcs hs1
                go_wp2_with (first
                  | (go_at_call 52; refine (HCT.out _).mono ?_; rintro e w1 ⟨rfl, k1⟩; obtain ⟨hc, -⟩ := bcell k1; have K1 := Lib.hid k1; have d0 := HA0.out _ (thru (ba1 wr _) k1); clear k1))
                go_roundw
                case rel => exact ⟨k + 1, by omega, by go_num, by rw [HL.out], by rw [HR.out], Lib.hid (thru H.out (thru (ba1 wr _) K1.out))⟩
                case measure => simp [intOf]; omega
            · have hs2 : f.s = 2 := by rcases hcs with h | h; exact absurd h hs1; exact h
              have e1 : (f.s == 1) = false := by simp [hs2]
              have e2 : (f.s == 2) = true := by simp [hs2]
              have hyes := Lib.hid (hit_yes (side := 2) (y := y) HCV.out (by omega) (by omega) hs2)
              by_cases hm : f.l < rv
              · have HL := Lib.hid (show bandL (fs.take (k + 1)) y (y + 1) = lv by rw [bandL_take HK.out, HLV.out]; exact if_neg (hit_not (.inr (.inr (.inr (by omega))))))
                have HR := Lib.hid (show bandR (fs.take (k + 1)) y (y + 1) = f.l by rw [bandR_take HK.out, HRV.out]; rw [if_pos hyes.out]; omega)
                clear HLV HRV HK hyes hcs hs1 hs2
                go_wp2_with (first
                  | (go_at_call 52; refine (HCT.out _).mono ?_; rintro e w1 ⟨rfl, k1⟩; obtain ⟨hc, -⟩ := bcell k1; have K1 := Lib.hid k1; have d0 := HA0.out _ (thru (ba1 wr _) k1); clear k1))
                go_roundw
                case rel => exact ⟨k + 1, by omega, by go_num, by rw [HL.out], by rw [HR.out], Lib.hid (thru H.out (thru (ba1 wr _) K1.out))⟩
                case measure => simp [intOf]; omega
              · have HL := Lib.hid (show bandL (fs.take (k + 1)) y (y + 1) = lv by rw [bandL_take HK.out, HLV.out]; exact if_neg (hit_not (.inr (.inr (.inr (by omega))))))
                have HR := Lib.hid (show bandR (fs.take (k + 1)) y (y + 1) = rv by rw [bandR_take HK.out, HRV.out]; rw [if_pos hyes.out]; omega)
                clear HLV HRV HK hyes hcs hs1 hs2
                go_wp2_with (first
                  | (go_at_call 52; refine (HCT.out _).mono ?_; rintro e w1 ⟨rfl, k1⟩; obtain ⟨hc, -⟩ := bcell k1; have K1 := Lib.hid k1; have d0 := HA0.out _ (thru (ba1 wr _) k1); clear k1))
                go_roundw
                case rel => exact ⟨k + 1, by omega, by go_num, by rw [HL.out], by rw [HR.out], Lib.hid (thru H.out (thru (ba1 wr _) K1.out))⟩
                case measure => simp [intOf]; omega
    · obtain rfl : k = n := by omega
      rw [List.take_of_length_le (by rw [← HN.out]; omega)] at HLV HRV
      go_wp2_with fail
      exact bodyPost_ret (v := .tuple #[.int .i64 lv, .int .i64 rv]) (by simp [results, Tryz.results81, go_sem]) rfl ⟨by rw [HLV.out, HRV.out], H.out⟩

end Go.Proofs.YtdibdfalahjmbaaGreat.Shelf
