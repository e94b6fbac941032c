
import Derived.Test.YtdibdfalahjmbaaGreatPart2
namespace Go.Proofs.YtdibdfalahjmbaaGreat.Shelf

open Go.RowKit Go.Sort Go.Proofs.YtdibdfalahjmbaaGreat.Rect

def docLk (fs : List Fl) (a z : Int) (k : Nat) : Int := (fs.take k).foldl (fun v f => if decide (a < f.t) && decide (f.t < z) then max v (bandL fs f.t (f.t + 1)) else v) (bandL fs a (a + 1))

def docRk (fs : List Fl) (a z : Int) (k : Nat) : Int := (fs.take k).foldl (fun v f => if decide (a < f.t) && decide (f.t < z) then min v (bandR fs f.t (f.t + 1)) else v) (bandR fs a (a + 1))

theorem docLk_next {fs : List Fl} {k : Nat} {f : Fl} (h : fs[k]? = some f) {a z : Int} : docLk fs a z (k + 1) = if decide (a < f.t) && decide (f.t < z) then max (docLk fs a z k) (bandL fs f.t (f.t + 1)) else docLk fs a z k := by
  unfold docLk
  rw [List.take_add_one, h]
  simp [List.foldl_append]

theorem docRk_next {fs : List Fl} {k : Nat} {f : Fl} (h : fs[k]? = some f) {a z : Int} : docRk fs a z (k + 1) = if decide (a < f.t) && decide (f.t < z) then min (docRk fs a z k) (bandR fs f.t (f.t + 1)) else docRk fs a z k := by
  unfold docRk
  rw [List.take_add_one, h]
  simp [List.foldl_append]

set_option maxRecDepth 100000 in
set_option maxHeartbeats 4000000 in
theorem refband_any (A : Option Addr) (n c : Nat) (fs : List Fl) (a z : Int) (w : World) (hn : n = fs.length) (hlen : n ≤ 1000000) (hx : Floats w w.heap.size A fs) :
    Calls Tryz.prog 68 #[.slice A n c, .int .i64 a, .int .i64 z] w fun e w' => e = .returned (.tuple #[.int .i64 (bandL fs a z), .int .i64 (bandR fs a z)]) ∧ Below w.heap.size w w' := by
  by_cases hza : z ≤ a
  · rw [bandL_none fs hza, bandR_none fs hza]
    clear hx hn
    go_enter Tryz.func68, Tryz.ntmps68
    go_wp2_with fail
    exact bodyPost_ret (v := .tuple #[.int .i64 (-4503599627370496), .int .i64 4503599627370496]) (by simp [results, Tryz.results68, go_sem]) rfl ⟨rfl, Below.refl _ _⟩
  · have HX := Lib.hid hx
    have HN := Lib.hid hn
    have HB0 := Lib.hid (refbounds_any A n c fs a w hn hlen hx)
    have HBa := Lib.hid (fun y w1 (k : Below w.heap.size w w1) => refbounds_any A n c fs y w1 hn hlen (hx.thru k))
    clear hx hn
    go_enter Tryz.func68, Tryz.ntmps68
    go_wp2_with (first
      | (go_at_call 81; refine HB0.out.mono ?_; rintro e w0 ⟨rfl, k0⟩; have K0 := Lib.hid k0; clear k0))
    go_loopw [8, 9, 10] (fun s t i wr => ∃ k : Nat, k ≤ n ∧ i = .int .i64 (k : Int) ∧ s = .int .i64 (docLk fs a z k) ∧ t = .int .i64 (docRk fs a z k) ∧ Hid (Below w.heap.size w wr)) (fun _ _ i _ => n - (intOf i).toNat)
    case atStart => exact ⟨0, Nat.zero_le _, rfl, rfl, rfl, K0⟩
    case round =>
      clear K0
      obtain ⟨k, hk, rfl, rfl, rfl, H⟩ := hrel
      obtain ⟨lv, hlv⟩ : ∃ lv, docLk fs a z k = lv := ⟨_, rfl⟩
      obtain ⟨rv, hrv⟩ : ∃ rv, docRk fs a z k = rv := ⟨_, rfl⟩
      rw [hlv, hrv]
      have HLV := Lib.hid hlv
      have HRV := Lib.hid hrv
      clear hlv hrv
      by_cases hlt : k < n
      · have hki : (k : Int) < (n : Int) := by omega
        have hk0 : ¬ (k : Int) < 0 := by omega
        obtain ⟨f, hf⟩ : ∃ f, fs[k]? = some f := ⟨_, List.getElem?_eq_getElem (by rw [← HN.out]; exact hlt)⟩
        obtain ⟨ad, rfl, hab, d0, d1, d2, d3, d4⟩ := (HX.out.thru H.out) k f hf
        have HK := Lib.hid hf
        clear hf
        by_cases h1 : a < f.t
        · by_cases h2 : f.t < z
          · have hhit := Lib.hid (show (decide (a < f.t) && decide (f.t < z)) = true by simp [h1, h2])
            obtain ⟨x, hx1⟩ : ∃ x, bandL fs f.t (f.t + 1) = x := ⟨_, rfl⟩
            obtain ⟨y, hy1⟩ : ∃ y, bandR fs f.t (f.t + 1) = y := ⟨_, rfl⟩
            have HBD := Lib.hid (fun w1 (k : Below w.heap.size w w1) => HBa.out f.t w1 k)
            rw [hx1, hy1] at HBD
            have HBL := Lib.hid hx1
            have HBR := Lib.hid hy1
            clear hx1 hy1
            by_cases g1 : lv < x
            · by_cases g2 : y < rv
              · have HL := Lib.hid (show docLk fs a z (k + 1) = x by rw [docLk_next HK.out, HLV.out, if_pos hhit.out, HBL.out]; omega)
                have HR := Lib.hid (show docRk fs a z (k + 1) = y by rw [docRk_next HK.out, HRV.out, if_pos hhit.out, HBR.out]; omega)
                clear HLV HRV HK hhit HBL HBR
                go_wp2_with (first
                  | (go_at_call 81; refine (HBD.out _ H.out).mono ?_; rintro e w1 ⟨rfl, k1⟩; have K1 := Lib.hid k1; clear k1))
                go_roundw
                case rel => exact ⟨k + 1, by omega, by go_num, by rw [HL.out], by rw [HR.out], Lib.hid (thru H.out K1.out)⟩
                case measure => simp [intOf]; omega
              · have HL := Lib.hid (show docLk fs a z (k + 1) = x by rw [docLk_next HK.out, HLV.out, if_pos hhit.out, HBL.out]; omega)
                have HR := Lib.hid (show docRk fs a z (k + 1) = rv by rw [docRk_next HK.out, HRV.out, if_pos hhit.out, HBR.out]; omega)
                clear HLV HRV HK hhit HBL HBR
                go_wp2_with (first
                  | (go_at_call 81; refine (HBD.out _ H.out).mono ?_; rintro e w1 ⟨rfl, k1⟩; have K1 := Lib.hid k1; clear k1))
                go_roundw
                case rel => exact ⟨k + 1, by omega, by go_num, by rw [HL.out], by rw [HR.out], Lib.hid (thru H.out K1.out)⟩
                case measure => simp [intOf]; omega
            · by_cases g2 : y < rv
              · have HL := Lib.hid (show docLk fs a z (k + 1) = lv by rw [docLk_next HK.out, HLV.out, if_pos hhit.out, HBL.out]; omega)
                have HR := Lib.hid (show docRk fs a z (k + 1) = y by rw [docRk_next HK.out, HRV.out, if_pos hhit.out, HBR.out]; omega)
                clear HLV HRV HK hhit HBL HBR
                go_wp2_with (first
                  | (go_at_call 81; refine (HBD.out _ H.out).mono ?_; rintro e w1 ⟨rfl, k1⟩; have K1 := Lib.hid k1; clear k1))
                go_roundw
                case rel => exact ⟨k + 1, by omega, by go_num, by rw [HL.out], by rw [HR.out], Lib.hid (thru H.out K1.out)⟩
                case measure => simp [intOf]; omega
              · have HL := Lib.hid (show docLk fs a z (k + 1) = lv by rw [docLk_next HK.out, HLV.out, if_pos hhit.out, HBL.out]; omega)
                have HR := Lib.hid (show docRk fs a z (k + 1) = rv by rw [docRk_next HK.out, HRV.out, if_pos hhit.out, HBR.out]; omega)
                clear HLV HRV HK hhit HBL HBR
                go_wp2_with (first
                  | (go_at_call 81; refine (HBD.out _ H.out).mono ?_; rintro e w1 ⟨rfl, k1⟩; have K1 := Lib.hid k1; clear k1))
                go_roundw
                case rel => exact ⟨k + 1, by omega, by go_num, by rw [HL.out], by rw [HR.out], Lib.hid (thru H.out K1.out)⟩
                case measure => simp [intOf]; omega
          · have hno : ¬ (decide (a < f.t) && decide (f.t < z)) = true := by simp [h2]
            have HL := Lib.hid (show docLk fs a z (k + 1) = lv by rw [docLk_next HK.out, HLV.out]; exact if_neg hno)
            have HR := Lib.hid (show docRk fs a z (k + 1) = rv by rw [docRk_next HK.out, HRV.out]; exact if_neg hno)
            clear HLV HRV HK hno
            go_wp2_with fail
            go_roundw
            case rel => exact ⟨k + 1, by omega, by go_num, by rw [HL.out], by rw [HR.out], H⟩
            case measure => simp [intOf]; omega
        · have hno : ¬ (decide (a < f.t) && decide (f.t < z)) = true := by simp [h1]
          have HL := Lib.hid (show docLk fs a z (k + 1) = lv by rw [docLk_next HK.out, HLV.out]; exact if_neg hno)
          have HR := Lib.hid (show docRk fs a z (k + 1) = rv by rw [docRk_next HK.out, HRV.out]; exact if_neg hno)
          clear HLV HRV HK hno
          go_wp2_with fail
          go_roundw
          case rel => exact ⟨k + 1, by omega, by go_num, by rw [HL.out], by rw [HR.out], H⟩
          case measure => simp [intOf]; omega
      · obtain rfl : k = n := by omega
        have hdl : lv = bandL fs a z := by rw [← docL_band (by omega), ← HLV.out]; unfold docLk docL; rw [List.take_of_length_le (by rw [← HN.out]; omega)]
        have hdr : rv = bandR fs a z := by rw [← docR_band (by omega), ← HRV.out]; unfold docRk docR; rw [List.take_of_length_le (by rw [← HN.out]; omega)]
        have HDL := Lib.hid hdl
        have HDR := Lib.hid hdr
        clear hdl hdr HLV HRV
        go_wp2_with fail
        exact bodyPost_ret (v := .tuple #[.int .i64 lv, .int .i64 rv]) (by simp [results, Tryz.results68, go_sem]) rfl ⟨by rw [HDL.out, HDR.out], H.out⟩

end Go.Proofs.YtdibdfalahjmbaaGreat.Shelf
