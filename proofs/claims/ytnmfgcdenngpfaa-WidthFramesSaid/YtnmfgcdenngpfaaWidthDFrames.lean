/- The law of the columns of all contents. -/
import Derived.Test.YtnmfgcdenngpfaaWidthDOk
import Derived.Test.YtnmfgcdenngpfaaWidthDRefs2
import Derived.Test.YtnmfgcdenngpfaaMoreHold
namespace Go.Proofs.Ytnmfgcdenngpfaa.Width
open Go.RowKit Go.Sort Go.Proofs.Ytnmfgcdenngpfaa.Record Go.Proofs.Ytnmfgcdenngpfaa.Script Go.Proofs.Ytnmfgcdenngpfaa.Tree Go.Proofs.Ytnmfgcdenngpfaa.More

set_option maxHeartbeats 1000000 in
theorem slen_any (x : Sp) (h : -4611686018427387904 ≤ x.f ∧ x.f ≤ 4611686018427387903) (h2 : -4611686018427387904 ≤ x.t ∧ x.t ≤ 4611686018427387903) (w : World) : Calls Try.prog 21 #[x.v] w fun e w' => e = .returned (.int .i64 (x.t - x.f)) ∧ Below w.heap.size w w' := by
  have a1 : IntKind.i64.wrap (x.t - x.f) = x.t - x.f := IntWalk.i64_in _ (by omega)
  clear h h2
  go_enter Try.func21, Try.ntmps21
  go_wp2_with fail
  go_ret
  exact ⟨rfl, ba1 _ _⟩

theorem slen_is (f t d : Int) (h : -4611686018427387904 ≤ f ∧ f ≤ 4611686018427387903) (h2 : -4611686018427387904 ≤ t ∧ t ≤ 4611686018427387903) (hd : t - f = d) (w : World) : Calls Try.prog 21 #[.agg #[.int .i64 f, .int .i64 t]] w fun e w' => e = .returned (.int .i64 d) ∧ Below w.heap.size w w' := by
  have := slen_any ⟨f, t⟩ h h2 w
  rwa [hd] at this

section
variable {T : World → Addr → List Bx → Prop}

set_option maxRecDepth 100000 in
set_option maxHeartbeats 1000000 in
theorem frames_long (hO : WidthOk T) (A : Option Addr) (n c : Nat) (w : World) (hl : 100 < n) :
    Calls Try.prog 4 #[.slice A n c] w fun e w' => e = .returned (.bool true) ∧ Below w.heap.size w w' := by
  have hl1 : (100 : Int) < (n : Int) := by omega
  clear hl
  go_enter Try.func4, Try.ntmps4
  go_upto_region 2 with (first
    | (go_at_call 7; refine (dspeaks hO _).mono ?_; rintro e w1 ⟨rfl, k1⟩; have K1 := Lib.hid k1; clear k1))
  go_wp2_with (first
    | (go_at_call 7; refine (dspeaks hO _).mono ?_; rintro e w2 ⟨rfl, k2⟩; have K2 := Lib.hid (thru K1.out k2); clear k2))
  go_ret
  exact ⟨rfl, K2.out⟩

set_option maxRecDepth 100000 in
set_option maxHeartbeats 1000000 in
theorem frames_wrong (hO : WidthOk T) (A : Option Addr) (n c : Nat) (bs : List Bx) (w : World) (hn : n = bs.length) (hlen : n ≤ 100) (hx : Boxes w w.heap.size A bs) (a e : Int) (hc : chk bs = (a, e)) (he : e ≠ 0) :
    Calls Try.prog 4 #[.slice A n c] w fun e w' => e = .returned (.bool true) ∧ Below w.heap.size w w' := by
  have HRF := Lib.hid (fun w1 (k : Below w.heap.size w w1) => refchk_any A n c bs a e w1 hn (by omega) (hx.thru k) hc)
  have hl : ¬ (100 : Int) < (n : Int) := by omega
  have he' : (e != 0) = true := by simp [he]
  clear hx hn hc he
  go_enter Try.func4, Try.ntmps4
  go_wp2_with (first
    | (go_at_call 7; refine (dspeaks hO _).mono ?_; rintro e w1 ⟨rfl, k1⟩; have K1 := Lib.hid k1; clear k1)
    | (go_at_call 17; refine (HRF.out _ K1.out).mono ?_; rintro e w2 ⟨rfl, k2⟩; have K2 := Lib.hid (thru K1.out k2); clear k2))
  go_ret
  exact ⟨rfl, K2.out⟩

set_option maxRecDepth 100000 in
set_option maxHeartbeats 4000000 in
theorem frames_yes (hT : TreeOk T) (hO : WidthOk T) (A : Option Addr) (n c : Nat) (bs : List Bx) (w : World) (hn : n = bs.length) (hlen : n ≤ 100) (h0 : 0 < n) (hx : Boxes w w.heap.size A bs) (hb : ∀ b ∈ bs, OkB b) (hc : chk bs = (-1, 0)) (hs : Shape (dOf bs) bs.length) (hf : Fine bs n) :
    Calls Try.prog 4 #[.slice A n c] w fun e w' => e = .returned (.bool true) ∧ Below w.heap.size w w' := by
  have HX := Lib.hid hx
  have HN := Lib.hid hn
  have HF := Lib.hid hf
  have HS := Lib.hid hs
  have HRF := Lib.hid (fun w1 (k : Below w.heap.size w w1) => refchk_any A n c bs (-1) 0 w1 hn (by omega) (hx.thru k) hc)
  have HG := Lib.hid (fun w1 (k : Below w.heap.size w w1) => begin_some hT A n c bs w1 hn (by omega) h0 (hx.thru k) hb hf)
  have HFr := Lib.hid (fun w3 p (h : T w3 p bs) => hO.frames w3 p bs h (by omega) hs (by rw [← hn]; exact hf))
  rw [← hn] at HFr
  have hl : ¬ (100 : Int) < (n : Int) := by omega
  clear hx hn hb hf hs hc
  go_enter Try.func4, Try.ntmps4
  go_wp2_with (first
    | (go_at_call 7; refine (dspeaks hO _).mono ?_; rintro e w1 ⟨rfl, k1⟩; have K1 := Lib.hid k1; clear k1)
    | (go_at_call 17; refine (HRF.out _ K1.out).mono ?_; rintro e w2 ⟨rfl, k2⟩; have K2 := Lib.hid (thru K1.out k2); clear k2)
    | (go_at_call 18; refine (HG.out _ K2.out).mono ?_; rintro e w3 ⟨⟨p, rfl, ht⟩, k3⟩; have HT3 := Lib.hid ht; have K3 := Lib.hid (thru K2.out k3); clear k3 ht)
    | (go_at_call 19; refine (HFr.out _ _ HT3.out).mono ?_; rintro e w4 ⟨⟨A4, c4, rfl, h4⟩, k4⟩; have M4 := Lib.hid h4; have K4 := Lib.hid (thru K3.out k4); have hB4 := k4.size; clear k4 h4))
  obtain ⟨g, rfl, hg1, hg2, -, -⟩ := M4.out.form h0
  go_loopw [37] (fun t wr => ∃ k : Nat, k ≤ n ∧ t = .int .i64 (k : Int) ∧ Hid (Below w4.heap.size w4 wr)) (fun t _ => n - (intOf t).toNat)
  case atStart => exact ⟨0, Nat.zero_le _, rfl, Lib.hid (Below.refl _ _)⟩
  case round =>
    obtain ⟨k, hk, rfl, H⟩ := hrel
    by_cases hlt : k < n
    · have hki : (k : Int) < (n : Int) := by omega
      have hk0 : ¬ (k : Int) < 0 := by omega
      have hkl : k < bs.length := by rw [← HN.out]; exact hlt
      have e0 := (H.out.cell (p := ⟨g, k * 2, none⟩) hg2).trans (M4.out.at k _ (spsD_at hkl) 0 (by decide))
      have e1 := (H.out.cell (p := ⟨g, k * 2 + 1, none⟩) hg2).trans (M4.out.at k _ (spsD_at hkl) 1 (by decide))
      have hwb := wide_bound HS.out (by rw [← HN.out]; exact HF.out) (k + 1) k (by omega) hkl
      have hlb := left_bound HS.out (by rw [← HN.out]; exact HF.out) (k + 1) k (by omega) hkl
      have HL := Lib.hid (fun w' (j : Below w.heap.size w w') => refleft_any A n c bs k w' HN.out (by omega) (by rw [HN.out]; exact HS.out) HF.out hlt (HX.out.thru j))
      have HWd := Lib.hid (fun w' (j : Below w.heap.size w w') => refwidth_any A n c bs k w' HN.out (by omega) (by rw [HN.out]; exact HS.out) HF.out hlt (HX.out.thru j))
      obtain ⟨lf, hlf⟩ : ∃ lf, lefD bs k = lf := ⟨_, rfl⟩
      obtain ⟨wd, hwd⟩ : ∃ wd, widD bs k = wd := ⟨_, rfl⟩
      rw [hlf] at hlb HL
      rw [hwd] at hwb HWd
      replace e0 : wr.cell? ⟨g, k * 2, none⟩ = some (.int .i64 lf) := by rw [← hlf]; exact e0
      obtain ⟨z, hz⟩ : ∃ z, lf + wd = z := ⟨_, rfl⟩
      replace e1 : wr.cell? ⟨g, k * 2 + 1, none⟩ = some (.int .i64 z) := by rw [← hz, ← hlf, ← hwd]; exact e1
      have HLe := Lib.hid (fun w => slen_is lf z wd (by omega) (by omega) (by omega) w)
      clear hlf hwd hwb hlb hz hkl
      go_upto_region 15 with fail
      generalize hW : World.alloc wr _ = W
      have hbW : Below wr.heap.size wr W := by rw [← hW]; exact ba1 _ _
      have d0 : W.cell? ⟨wr.heap.size, 0, none⟩ = some (.int .i64 lf) := by rw [← hW]; simp [go_sem]
      have d1 : W.cell? ⟨wr.heap.size, 1, none⟩ = some (.int .i64 z) := by rw [← hW]; simp [go_sem]
      have KW := Lib.hid (thru (thru K4.out H.out) hbW)
      replace HL := Lib.hid (fun w' (j : Below W.heap.size W w') => HL.out w' (thru KW.out j))
      replace HWd := Lib.hid (fun w' (j : Below W.heap.size W w') => HWd.out w' (thru KW.out j))
      have HBW := Lib.hid hbW
      clear hW hbW e0 e1
      refine Hold.wp_region_hold [.val (.pointer (some ⟨wr.heap.size, 0, none⟩)), .val (.int .i64 lf), .val (.slice A n c), .val (.int .i64 (k : Int)), .val (.int .i64 lf), .val (.bool false), .val (.bool false), .val (.agg #[.int .i64 lf, .int .i64 z]), .val (.int .i64 wd), .val (.slice A n c), .val (.int .i64 (k : Int)), .val (.int .i64 wd), .val (.bool false)] (by kernel_rfl) (by kernel_rfl) (by kernel_rfl) ?_ ?_
      · simp only [Hold.fill, Hold.Leave.value]
        refine ⟨?_, ?_, ?_, ?_, ?_, ?_, ?_, ?_, ?_, ?_, ?_, ?_, ?_, trivial⟩
        · intro gg w' hw hk
          go_simp
          exact ⟨rfl, rfl⟩
        · intro gg w' hw hk
          have q0 := (hw.cell (p := ⟨wr.heap.size, 0, none⟩) (block_lt_of_cell d0)).trans d0
          go_simp
          exact ⟨rfl, rfl⟩
        · intro gg w' hw hk
          go_simp
          exact ⟨rfl, rfl⟩
        · intro gg w' hw hk
          go_simp
          exact ⟨rfl, rfl⟩
        · intro gg w' hw hk
          go_simp
          exact Hold.stays_call (HL.out w' hw)
        · intro gg w' hw hk
          go_simp
          exact ⟨rfl, rfl⟩
        · intro gg w' hw hk
          go_simp
          exact ⟨rfl, rfl⟩
        · intro gg w' hw hk
          have q0 := (hw.cell (p := ⟨wr.heap.size, 0, none⟩) (block_lt_of_cell d0)).trans d0
          have q1 := (hw.cell (p := ⟨wr.heap.size, 1, none⟩) (block_lt_of_cell d1)).trans d1
          go_simp
          exact ⟨rfl, rfl⟩
        · intro gg w' hw hk
          go_simp
          exact Hold.stays_call (HLe.out w')
        · intro gg w' hw hk
          go_simp
          exact ⟨rfl, rfl⟩
        · intro gg w' hw hk
          go_simp
          exact ⟨rfl, rfl⟩
        · intro gg w' hw hk
          go_simp
          exact Hold.stays_call (HWd.out w' hw)
        · intro gg w' hw hk
          go_simp
          exact ⟨rfl, rfl⟩
      intro gg w2 k2 hgg
      clear hgg
      simp only [Hold.fill, Hold.Leave.value, List.length_cons, List.length_nil, List.drop_succ_cons, List.drop_zero]
      have HR := Lib.hid (thru H.out (thru HBW.out k2))
      clear k2 d0 d1
      go_wp2_with fail
      go_roundw
      case rel => exact ⟨k + 1, by omega, by go_num, HR⟩
      case measure => simp [intOf]; omega
    · obtain rfl : k = n := by omega
      go_wp2_with fail
      go_ret
      exact ⟨rfl, thru K4.out H.out⟩

theorem frames_any (hT : TreeOk T) (hO : WidthOk T) (A : Option Addr) (n c : Nat) (bs : List Bx) (w : World) (hn : n = bs.length) (hx : Boxes w w.heap.size A bs) (hb : ∀ b ∈ bs, OkB b) :
    Calls Try.prog 4 #[.slice A n c] w fun e w' => e = .returned (.bool true) ∧ Below w.heap.size w w' := by
  rcases list_or bs n hn with h | ⟨h, a, e, hc, he⟩ | ⟨h, h0, hc, hs, hf⟩
  · exact frames_long hO A n c w h
  · exact frames_wrong hO A n c bs w hn h hx a e hc he
  · exact frames_yes hT hO A n c bs w hn h h0 hx hb hc hs hf
end

end Go.Proofs.Ytnmfgcdenngpfaa.Width
