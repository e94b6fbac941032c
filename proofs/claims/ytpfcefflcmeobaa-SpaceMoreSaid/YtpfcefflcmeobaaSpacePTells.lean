/- The law of what a space tells. -/
import Derived.Test.YtpfcefflcmeobaaSpacePSpeaks
import Derived.Test.YtpfcefflcmeobaaMoreHoldAll
namespace Go.Proofs.Ytpfcefflcmeobaa.Space
open Go.RowKit Go.Sort Go.Proofs.Ytpfcefflcmeobaa.Rect Go.Proofs.Ytpfcefflcmeobaa.More Go.Proofs.Ytpfcefflcmeobaa.Shelf
set_option linter.unusedVariables false

theorem eqRect_same (a b c d : Int) (w : World) : (Op.equalIn 10000 39 (.agg #[.int .i64 a, .int .i64 b, .int .i64 c, .int .i64 d]) (.agg #[.int .i64 a, .int .i64 b, .int .i64 c, .int .i64 d])).run Try.prog w = .ok true w := by
  have u3 := Try.underlying3
  have a3 := Try.isAgg3
  have z3 := Try.sizeOf3
  have hS : Try.prog.underlying 39 = some (.struct (Try.prog.fieldsOf 39)) := by kernel_rfl
  rw [show (10000 : Nat) = 9999 + 1 from rfl, run_equalIn_agg w 9999 39 _ _ hS (by kernel_rfl)]
  simp only [Program.fieldsOf, Try.underlying39]
  go_simp

section
variable {S : World → (Nat → Prop) → Addr → List Fl → Prop}

set_option maxRecDepth 100000 in
set_option maxHeartbeats 600000 in
theorem tells_few (hO : SpaceOk S) (A : Option Addr) (n c : Nat) (fs : List Fl) (cl y : Int) (w : World) (hn : n = fs.length) (hlen : n ≤ 9223372036854775807) (hx : Floats w w.heap.size A fs) (hv : (fs.all nearF && decide ((n : Int) ≤ 40)) = false) :
    Calls Try.prog 3 #[.slice A n c, .int .i64 cl, .int .i64 y] w fun e w' => e = .returned (.bool true) ∧ Below w.heap.size w w' := by
  have HFew := Lib.hid (fun w1 (k : Below w.heap.size w w1) => few_is A n c fs 40 false w1 hn hlen (hx.thru k) hv)
  clear hx hn hv
  go_enter Try.func3, Try.ntmps3
  go_upto_region 2 with (first
    | (go_at_call 8; refine (pspeaks hO _).mono ?_; rintro e w1 ⟨rfl, k1⟩; have K1 := Lib.hid k1; clear k1)
    | (go_at_call 9; refine (HFew.out _ K1.out).mono ?_; rintro e w2 ⟨rfl, k2⟩; have K2 := Lib.hid (thru K1.out k2); clear k2))
  go_wp2_with (first
    | (go_at_call 8; refine (pspeaks hO _).mono ?_; rintro e w9 ⟨rfl, k9⟩; have K9 := Lib.hid (thru K2.out k9); clear k9))
  go_ret
  exact ⟨rfl, K9.out⟩

set_option maxRecDepth 100000 in
set_option maxHeartbeats 600000 in
theorem tells_sides (hO : SpaceOk S) (A : Option Addr) (n c : Nat) (fs : List Fl) (cl y : Int) (w : World) (hn : n = fs.length) (hlen : n ≤ 40) (hx : Floats w w.heap.size A fs) (hs : fs.all nearF = true) (hv : fs.all sideF = false) :
    Calls Try.prog 3 #[.slice A n c, .int .i64 cl, .int .i64 y] w fun e w' => e = .returned (.bool true) ∧ Below w.heap.size w w' := by
  have HFew := Lib.hid (fun w1 (k : Below w.heap.size w w1) => few_is A n c fs 40 true w1 hn (by omega) (hx.thru k) (by rw [hs]; simp; omega))
  have HSd := Lib.hid (fun w1 (k : Below w.heap.size w w1) => sides_is A n c fs false w1 hn (by omega) (hx.thru k) hv)
  clear hx hn hv hs
  go_enter Try.func3, Try.ntmps3
  go_upto_region 2 with (first
    | (go_at_call 8; refine (pspeaks hO _).mono ?_; rintro e w1 ⟨rfl, k1⟩; have K1 := Lib.hid k1; clear k1)
    | (go_at_call 9; refine (HFew.out _ K1.out).mono ?_; rintro e w2 ⟨rfl, k2⟩; have K2 := Lib.hid (thru K1.out k2); clear k2)
    | (go_at_call 10; refine (HSd.out _ K2.out).mono ?_; rintro e w3 ⟨rfl, k3⟩; have K3 := Lib.hid (thru K2.out k3); clear k3))
  go_wp2_with (first
    | (go_at_call 8; refine (pspeaks hO _).mono ?_; rintro e w9 ⟨rfl, k9⟩; have K9 := Lib.hid (thru K3.out k9); clear k9))
  go_ret
  exact ⟨rfl, K9.out⟩

set_option maxRecDepth 100000 in
set_option maxHeartbeats 2000000 in
theorem tells_yes (hO : SpaceOk S) (A : Option Addr) (n c : Nat) (fs : List Fl) (cl y : Int) (w : World) (hn : n = fs.length) (hlen : n ≤ 40) (hx : Floats w w.heap.size A fs) (hs : fs.all nearF = true) (hsd : fs.all sideF = true) :
    Calls Try.prog 3 #[.slice A n c, .int .i64 cl, .int .i64 y] w fun e w' => e = .returned (.bool true) ∧ Below w.heap.size w w' := by
  have HFew := Lib.hid (fun w1 (k : Below w.heap.size w w1) => few_is A n c fs 40 true w1 hn (by omega) (hx.thru k) (by rw [hs]; simp; omega))
  have HSd := Lib.hid (fun w1 (k : Below w.heap.size w w1) => sides_is A n c fs true w1 hn (by omega) (hx.thru k) hsd)
  have HBe := Lib.hid (fun w1 (k : Below w.heap.size w w1) => pbegin_any hO A n c fs w1 hn (by omega) (hx.thru k) hs hsd)
  have HLa := Lib.hid (fun w1 F p (h : S w1 F p fs) => hO.last w1 F p fs h hs)
  have HLr := Lib.hid (fun w1 (k : Below w.heap.size w w1) => reflast_any A n c fs (decide (0 < fs.length)) w1 hn (by omega) (hx.thru k) rfl)
  have HBo := Lib.hid (fun w1 F p (k : Int) (hk : 0 ≤ k ∧ k ≤ 3) (h : S w1 F p fs) => hO.bottom w1 F p fs k h hs hk)
  have HBr := Lib.hid (fun w1 (i : Int) (k : Below w.heap.size w w1) => refbottom_any A n c fs i w1 hn (by omega) (hx.thru k))
  have HCl := Lib.hid (fun w1 F p (k y : Int) (hk : 0 ≤ k ∧ k ≤ 3) (h : S w1 F p fs) => hO.clear w1 F p fs k y h hs hk)
  have HCr := Lib.hid (fun w1 (i y : Int) (k : Below w.heap.size w w1) => refclear_any A n c fs i y w1 hn (by omega) (hx.thru k))
  have HFl := Lib.hid (fun w1 F p (h : S w1 F p fs) => hO.floats w1 F p fs h hs)
  have HX := Lib.hid hx
  obtain ⟨lv, hlv⟩ : ∃ lv, lastD fs = lv := ⟨_, rfl⟩
  obtain ⟨lo, hlo⟩ : ∃ lo, decide (0 < fs.length) = lo := ⟨_, rfl⟩
  rw [hlv, hlo] at HLa HLr
  rw [← hn] at HFl
  have HN := Lib.hid hn
  clear hx hn hs hsd hlv hlo
  go_enter Try.func3, Try.ntmps3
  go_upto_region 10 with (first
    | (go_at_call 8; refine (pspeaks hO _).mono ?_; rintro e w1 ⟨rfl, k1⟩; have K1 := Lib.hid k1; clear k1)
    | (go_at_call 9; refine (HFew.out _ K1.out).mono ?_; rintro e w2 ⟨rfl, k2⟩; have K2 := Lib.hid (thru K1.out k2); clear k2)
    | (go_at_call 10; refine (HSd.out _ K2.out).mono ?_; rintro e w3 ⟨rfl, k3⟩; have K3 := Lib.hid (thru K2.out k3); clear k3)
    | (go_at_call 11; refine (HBe.out _ K3.out).mono ?_; rintro e w4 ⟨⟨p, F, rfl, hL, hF⟩, k4⟩; have HL := Lib.hid hL; have K4 := Lib.hid (thru K3.out k4); clear hL hF k4)
    | (go_at_call 12; refine (HLa.out _ _ _ HL.out).mono ?_; rintro e w5 ⟨rfl, k5⟩; have HL5 := Lib.hid (hO.thru HL.out k5); have K5 := Lib.hid (thru K4.out k5); clear k5)
    | (go_at_call 13; refine (HLr.out _ K5.out).mono ?_; rintro e w6 ⟨rfl, k6⟩; have HL6 := Lib.hid (hO.thru HL5.out k6); have K6 := Lib.hid (thru K5.out k6); clear k6))
  go_upto_region 11 with fail
  generalize hW : World.alloc w6 _ = W
  obtain ⟨rb, hrb⟩ : ∃ rb, w6.heap.size = rb := ⟨_, rfl⟩
  have hkW : Below w6.heap.size w6 W := by rw [← hW]; exact ba1 _ _
  have hcs : ∀ k : Nat, k < 4 → W.cell? ⟨rb, k, none⟩ = some (.int .i64 (k : Int)) := by
    intro k hk
    rw [← hW, ← hrb]
    match k, hk with
    | 0, _ => simp [go_sem]
    | 1, _ => simp [go_sem]
    | 2, _ => simp [go_sem]
    | 3, _ => simp [go_sem]
    | k + 4, h => omega
  rw [hrb]
  have HCS := Lib.hid hcs
  have HLW := Lib.hid (hO.thru HL6.out hkW)
  have KW := Lib.hid (thru K6.out hkW)
  have hrl := Lib.hid (block_lt_of_cell (hcs 0 (by omega)))
  clear hW hkW hrb hcs
  go_loopw [54] (fun i wr => ∃ k : Nat, k ≤ 4 ∧ i = .int .i64 (k : Int) ∧ Hid (S wr F p fs ∧ Below W.heap.size W wr)) (fun i _ => 4 - (intOf i).toNat)
  case atStart => exact ⟨0, by omega, rfl, Lib.hid ⟨HLW.out, Below.refl _ _⟩⟩
  case round =>
    obtain ⟨k, hk, rfl, H⟩ := hrel
    by_cases hlt : k < 4
    · have hki : (k : Int) < 4 := by omega
      have hk0 : ¬ (k : Int) < 0 := by omega
      have hcell := (H.out.2.cell (p := ⟨rb, k, none⟩) hrl.out).trans (HCS.out k hlt)
      have hB1 := fun w1 h => HBo.out w1 F p (k : Int) ⟨by omega, by omega⟩ h
      have hB2 := fun w1 h => HBr.out w1 (k : Int) h
      have hC1 := fun w1 h => HCl.out w1 F p (k : Int) y ⟨by omega, by omega⟩ h
      have hC2 := fun w1 h => HCr.out w1 (k : Int) y h
      obtain ⟨bv, bo, hbv⟩ : ∃ bv bo, botS fs (k : Int) = (bv, bo) := ⟨_, _, rfl⟩
      obtain ⟨cv, hcv⟩ : ∃ cv, clearS fs (k : Int) y = cv := ⟨_, rfl⟩
      rw [hbv] at hB1 hB2
      rw [hcv] at hC1 hC2
      have HB1 := Lib.hid hB1
      have HB2 := Lib.hid hB2
      have HC1 := Lib.hid hC1
      have HC2 := Lib.hid hC2
      have KR := Lib.hid (thru KW.out H.out.2)
      clear hB1 hB2 hC1 hC2 hbv hcv
      go_wp2_with (first
        | (go_at_call 14; refine (HB1.out _ H.out.1).mono ?_; rintro e v1 ⟨rfl, j1⟩; have S1 := Lib.hid (⟨hO.thru H.out.1 j1, thru H.out.2 j1, thru KR.out j1⟩ : S v1 F p fs ∧ Below W.heap.size W v1 ∧ Below w.heap.size w v1); clear j1)
        | (go_at_call 15; refine (HB2.out _ S1.out.2.2).mono ?_; rintro e v2 ⟨rfl, j2⟩; have S2 := Lib.hid (⟨hO.thru S1.out.1 j2, thru S1.out.2.1 j2, thru S1.out.2.2 j2⟩ : S v2 F p fs ∧ Below W.heap.size W v2 ∧ Below w.heap.size w v2); clear j2)
        | (go_at_call 16; refine (HC1.out _ S2.out.1).mono ?_; rintro e v3 ⟨rfl, j3⟩; have S3 := Lib.hid (⟨hO.thru S2.out.1 j3, thru S2.out.2.1 j3, thru S2.out.2.2 j3⟩ : S v3 F p fs ∧ Below W.heap.size W v3 ∧ Below w.heap.size w v3); clear j3)
        | (go_at_call 17; refine (HC2.out _ S3.out.2.2).mono ?_; rintro e v4 ⟨rfl, j4⟩; have S4 := Lib.hid (⟨hO.thru S3.out.1 j4, thru S3.out.2.1 j4⟩ : S v4 F p fs ∧ Below W.heap.size W v4); clear j4))
      go_roundw
      case rel => exact ⟨k + 1, by omega, by go_num, S4⟩
      case measure => simp [intOf]; omega
    · obtain rfl : k = 4 := by omega
      have hS := Lib.hid (⟨H.out.1, thru KW.out H.out.2⟩ : S wr F p fs ∧ Below w.heap.size w wr)
      clear H HCS HLW hlt
      go_upto_region 21 with (first
        | (go_at_call 18; refine (HFl.out _ _ _ hS.out.1).mono ?_; rintro e w8 ⟨⟨A8, c8, rfl, hm⟩, k8⟩; have M8 := Lib.hid hm; have K8 := Lib.hid (thru hS.out.2 k8); clear hm k8))
      go_wp2_with fail
      go_loopw [99] (fun i wr => ∃ k : Nat, k ≤ n ∧ i = .int .i64 (k : Int) ∧ Hid (Below w8.heap.size w8 wr)) (fun i _ => n - (intOf i).toNat)
      case atStart => exact ⟨0, Nat.zero_le _, rfl, Lib.hid (Below.refl _ _)⟩
      case round =>
        obtain ⟨k, hk, rfl, H⟩ := hrel
        by_cases hlt : k < n
        · have hki : (k : Int) < (n : Int) := by omega
          have hk0 : ¬ (k : Int) < 0 := by omega
          obtain ⟨f, hf⟩ : ∃ f, fs[k]? = some f := ⟨_, List.getElem?_eq_getElem (by rw [← HN.out]; exact hlt)⟩
          obtain ⟨g8, rfl, hg1, hg2, -, -⟩ := M8.out.form (by omega)
          obtain ⟨ad, rfl, hab, hat⟩ := (HX.out.thru (thru K8.out H.out)) k f hf
          have hgl := (hg2 : g8 < w8.heap.size)
          have m0 := (H.out.cell (p := ⟨g8, k * 5, none⟩) hgl).trans (MineE.at M8.out k f hf 0 (by decide))
          have m1 := (H.out.cell (p := ⟨g8, k * 5 + 1, none⟩) hgl).trans (MineE.at M8.out k f hf 1 (by decide))
          have m2 := (H.out.cell (p := ⟨g8, k * 5 + 2, none⟩) hgl).trans (MineE.at M8.out k f hf 2 (by decide))
          have m3 := (H.out.cell (p := ⟨g8, k * 5 + 3, none⟩) hgl).trans (MineE.at M8.out k f hf 3 (by decide))
          have m4 := (H.out.cell (p := ⟨g8, k * 5 + 4, none⟩) hgl).trans (MineE.at M8.out k f hf 4 (by decide))
          have hbl : (ad.add (k * 5)).block < wr.heap.size := by rw [block_of_add]; exact hab
          have HD0 := Lib.hid (fun w' (j : Below wr.heap.size wr w') => AtF.below hat hbl j)
          clear hf hg1 hg2 hgl hbl hat
          replace m0 : wr.cell? ⟨g8, k * 5, none⟩ = some (.int .i64 f.s) := m0
          replace m1 : wr.cell? ⟨g8, k * 5 + 1, none⟩ = some (.int .i64 f.l) := m1
          replace m2 : wr.cell? ⟨g8, k * 5 + 2, none⟩ = some (.int .i64 f.t) := m2
          replace m3 : wr.cell? ⟨g8, k * 5 + 3, none⟩ = some (.int .i64 f.r) := m3
          replace m4 : wr.cell? ⟨g8, k * 5 + 4, none⟩ = some (.int .i64 f.b) := m4
          go_upto_region 24 with fail
          generalize hW2 : World.alloc wr _ = V
          obtain ⟨fb, hfb⟩ : ∃ fb, wr.heap.size = fb := ⟨_, rfl⟩
          have hkV : Below wr.heap.size wr V := by rw [← hW2]; exact ba1 _ _
          have e0 : V.cell? ⟨fb, 0, none⟩ = some (.int .i64 f.s) := by rw [← hW2, ← hfb]; simp [go_sem]
          have e1 : V.cell? ⟨fb, 1, none⟩ = some (.int .i64 f.l) := by rw [← hW2, ← hfb]; simp [go_sem]
          have e2 : V.cell? ⟨fb, 2, none⟩ = some (.int .i64 f.t) := by rw [← hW2, ← hfb]; simp [go_sem]
          have e3 : V.cell? ⟨fb, 3, none⟩ = some (.int .i64 f.r) := by rw [← hW2, ← hfb]; simp [go_sem]
          have e4 : V.cell? ⟨fb, 4, none⟩ = some (.int .i64 f.b) := by rw [← hW2, ← hfb]; simp [go_sem]
          rw [hfb]
          have hfl : fb < V.heap.size := block_lt_of_cell e0
          have HE := Lib.hid (fun w' (j : Below V.heap.size V w') => (⟨(j.cell (p := ⟨fb, 0, none⟩) hfl).trans e0, (j.cell (p := ⟨fb, 1, none⟩) hfl).trans e1, (j.cell (p := ⟨fb, 2, none⟩) hfl).trans e2, (j.cell (p := ⟨fb, 3, none⟩) hfl).trans e3, (j.cell (p := ⟨fb, 4, none⟩) hfl).trans e4⟩ : w'.cell? ⟨fb, 0, none⟩ = some (.int .i64 f.s) ∧ w'.cell? ⟨fb, 1, none⟩ = some (.int .i64 f.l) ∧ w'.cell? ⟨fb, 2, none⟩ = some (.int .i64 f.t) ∧ w'.cell? ⟨fb, 3, none⟩ = some (.int .i64 f.r) ∧ w'.cell? ⟨fb, 4, none⟩ = some (.int .i64 f.b)))
          have HD := Lib.hid (fun w' (j : Below V.heap.size V w') => HD0.out w' (thru hkV j))
          have KV := Lib.hid (thru H.out hkV)
          clear hW2 hkV hfb HD0 e0 e1 e2 e3 e4 m0 m1 m2 m3 m4 hfl
          refine HoldAll.wp_region_hold_all [.val (.pointer (some ⟨fb, 0, none⟩)), .val (.int .i64 f.s), .val (.slice (some ad) n c), .val (.int .i64 (k : Int)), .val (.pointer (some (ad.add (k * 5)))), .val (.pointer (some (ad.add (k * 5)))), .val (.int .i64 f.s), .val (.bool false), .val (.bool false), .val (.pointer (some ⟨fb, 1, none⟩)), .val (.agg #[.int .i64 f.l, .int .i64 f.t, .int .i64 f.r, .int .i64 f.b]), .val (.slice (some ad) n c), .val (.int .i64 (k : Int)), .val (.pointer (some (ad.add (k * 5)))), .val (.pointer (some ⟨(ad.add (k * 5)).block, (ad.add (k * 5)).off + 1, none⟩)), .val (.agg #[.int .i64 f.l, .int .i64 f.t, .int .i64 f.r, .int .i64 f.b]), .val (.agg #[.int .i64 f.l, .int .i64 f.t, .int .i64 f.r, .int .i64 f.b]), .val (.bool false), .val (.bool false)] (by kernel_rfl) (by kernel_rfl) (by kernel_rfl) ?_ ?_
          · simp only [Hold.fill, Hold.Leave.value]
            refine ⟨?_, ?_, ?_, ?_, ?_, ?_, ?_, ?_, ?_, ?_, ?_, ?_, ?_, ?_, ?_, ?_, ?_, ?_, ?_, trivial⟩
            · intro gg w' hw hk
              go_simp
              exact ⟨rfl, rfl⟩
            · intro gg w' hw hk
              have q := (HE.out w' hw).1
              go_simp
              exact ⟨rfl, rfl⟩
            · intro gg w' hw hk
              go_simp
              exact ⟨rfl, rfl⟩
            · intro gg w' hw hk
              go_simp
              exact ⟨rfl, rfl⟩
            · intro gg w' hw hk
              go_simp
              exact ⟨rfl, rfl⟩
            · intro gg w' hw hk
              go_simp
              exact ⟨rfl, rfl⟩
            · intro gg w' hw hk
              have q := (HD.out w' hw).1
              go_simp
              exact ⟨rfl, rfl⟩
            · intro gg w' hw hk
              go_simp
              exact ⟨rfl, rfl⟩
            · intro gg w' hw hk
              go_simp
              exact ⟨rfl, rfl⟩
            · intro gg w' hw hk
              go_simp
              exact ⟨rfl, rfl⟩
            · intro gg w' hw hk
              have q := HE.out w' hw
              have q1 := q.2.1
              have q2 := q.2.2.1
              have q3 := q.2.2.2.1
              have q4 := q.2.2.2.2
              clear q
              go_simp
              exact ⟨rfl, rfl⟩
            · intro gg w' hw hk
              go_simp
              exact ⟨rfl, rfl⟩
            · intro gg w' hw hk
              go_simp
              exact ⟨rfl, rfl⟩
            · intro gg w' hw hk
              go_simp
              exact ⟨rfl, rfl⟩
            · intro gg w' hw hk
              go_simp
              exact ⟨rfl, rfl⟩
            · intro gg w' hw hk
              have q := HD.out w' hw
              have q1 := q.2.1
              have q2 := q.2.2.1
              have q3 := q.2.2.2.1
              have q4 := q.2.2.2.2
              clear q
              go_simp
              exact ⟨rfl, rfl⟩
            · intro gg w' hw hk
              go_simp
              exact Hold.stays_call (of_any _ _ _ _ w')
            · intro gg w' hw hk
              have q := eqRect_same f.l f.t f.r f.b w'
              go_simp
              exact ⟨rfl, rfl⟩
            · intro gg w' hw hk
              go_simp
              exact ⟨rfl, rfl⟩
          intro gg w2 k2 hgg
          clear hgg
          simp only [Hold.fill, Hold.Leave.value]
          have HR := Lib.hid (thru KV.out k2)
          clear k2
          go_simp
          go_wp2_with fail
          go_roundw
          case rel => exact ⟨k + 1, by omega, by go_num, HR⟩
          case measure => simp [intOf]; omega
        · obtain rfl : k = n := by omega
          go_wp2_with fail
          go_ret
          exact ⟨rfl, thru K8.out H.out⟩

theorem tells_any (hO : SpaceOk S) (A : Option Addr) (n c : Nat) (fs : List Fl) (cl y : Int) (w : World) (hn : n = fs.length) (hm : n ≤ 9223372036854775807) (hx : Floats w w.heap.size A fs) :
    Calls Try.prog 3 #[.slice A n c, .int .i64 cl, .int .i64 y] w fun e w' => e = .returned (.bool true) ∧ Below w.heap.size w w' := by
  by_cases h : (fs.all nearF && decide ((n : Int) ≤ 40)) = true
  · simp only [Bool.and_eq_true, decide_eq_true_eq] at h
    by_cases h2 : fs.all sideF = true
    · exact tells_yes hO A n c fs cl y w hn (by omega) hx h.1 h2
    · exact tells_sides hO A n c fs cl y w hn (by omega) hx h.1 (by simpa using h2)
  · exact tells_few hO A n c fs cl y w hn hm hx (by simpa using h)

end

end Go.Proofs.Ytpfcefflcmeobaa.Space
