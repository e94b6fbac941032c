
import Derived.Test.YtdibdfalahjmbaaGreatPart29
import Derived.Test.YtdibdfalahjmbaaGreatPart30
namespace Go.Proofs.YtdibdfalahjmbaaGreat.Text

open Go.RowKit Go.Sort Go.Proofs.YtdibdfalahjmbaaGreat.Rect Go.Proofs.YtdibdfalahjmbaaGreat.More Go.Proofs.YtdibdfalahjmbaaGreat.Shelf Go.Proofs.YtdibdfalahjmbaaGreat.Space Go.Proofs.YtdibdfalahjmbaaGreat.Place Go.Proofs.YtdibdfalahjmbaaGreat.Line

set_option linter.unusedVariables false

set_option linter.unusedSimpArgs false

theorem make_boxes (w : World) (n : Nat) (hn : n ≤ 1000) : ∃ w', (Instr.makeSlice 27 (.int .i64 (n : Int)) (.int .i64 (n : Int))).run Tryz.prog w = .ok (.slice (some ⟨w.heap.size, 0, none⟩) n n) w' ∧
    MineE encB 42 w' w.heap.size (some ⟨w.heap.size, 0, none⟩) n n (List.replicate n noBx) ∧ Below w.heap.size w w' :=
  run_make_E encB (bytes := 32) noBx (.agg #[.int .i64 0, .int .i64 0, .int .i64 0, .int .i64 0]) rfl Tryz.underlying27 (by kernel_rfl) (by omega) w n (by omega)

abbrev krow0 (p : Addr) (bb : Nat) (f t : Int) (A0 : Option Addr) (n c0 : Nat) : List Value :=
  [.pointer (some ⟨bb, 0, none⟩), .pointer (some p), .int .i64 f, .int .i64 t, .slice A0 n c0, .slice none 0 0, .slice none 0 0, .slice none 0 0, .slice none 0 0, .int .i64 0]

abbrev laid0 : List Value := [.slice none 0 0, .slice none 0 0, .int .i64 0]

structure LaidOut (S : World → (Nat → Prop) → Addr → List Fl → Prop) (B : Nat) (w' : World) (F F' : Nat → Prop) (p : Addr) (bx : Nat) (A3 : Option Addr) (c3 n : Nat) (s : Ly) : Prop where
  sp : S w' F' p s.m.fs
  new : ∀ k, F' k → F k ∨ B ≤ k
  bo : MineE encB 42 w' B (some ⟨bx, 0, none⟩) n n s.box
  li : MineE encL 47 w' B A3 s.out.length c3 (s.out.map fun e => lnOf e.1)
  a1 : ¬ F' bx
  a2 : ∀ k, blk A3 = some k → ¬ F' k
  a3 : blk A3 ≠ some bx

abbrev LaidV (bx n : Nat) (A3 : Option Addr) (c3 : Nat) (s : Ly) : Value := .agg #[.slice (some ⟨bx, 0, none⟩) n n, .slice A3 s.out.length c3, .int .i64 s.m.y]

section

variable {S : World → (Nat → Prop) → Addr → List Fl → Prop}

set_option maxRecDepth 100000 in
set_option maxHeartbeats 4000000 in
theorem klay_any (hO : SpaceOk S) (hP : PlaceOk S) (w : World) (F : Nat → Prop) (p : Addr) (fs : List Fl) (f t y Z : Int) (A0 : Option Addr) (c0 : Nat) (its : List It) (hs : S w F p fs) (hx : MineE encI 65 w 0 A0 its.length c0 its) (hxF : ∀ j, blk A0 = some j → ¬ F j)
    (hr : ∀ x ∈ its, RightI x) (hz : Z + 2147483648 * (its.length : Int) ≤ 140737488355328 + 140000000000000) (h : Lo Z ⟨fs, f, t, y, 0, []⟩) (hi : its.length ≤ 400) (hf : fs.length + its.length < 1000) :
    Calls Tryz.prog 6 #[.pointer (some p), .agg #[.int .i64 f, .int .i64 t], .int .i64 y, .slice A0 its.length c0] w fun e w' =>
      (∃ bx A3 c3 F', e = .returned (LaidV bx its.length A3 c3 (layD fs f t y its)) ∧ LaidOut S w.heap.size w' F F' p bx A3 c3 its.length (layD fs f t y its)) ∧ But F w w' := by
  have HAb := Lib.hid (fun k (hk : k ≤ its.length) => able_layK hr hz h hi hf k hk)
  have HNb := Lib.hid (fun k (hk : k < its.length) => lay_nobox hr hz h k hk)
  have hD : layD fs f t y its = (layK fs f t y its its.length).fin its := rfl
  have h0 : layK fs f t y its 0 = ⟨⟨fs, f, t, y, 0, []⟩, [], [], List.replicate its.length noBx, []⟩ := rfl
  have hst : ∀ k, layK fs f t y its (k + 1) = (layK fs f t y its k).step its k := fun k => rfl
  have HS := Lib.hid (⟨hs, hx, hxF⟩ : S w F p fs ∧ MineE encI 65 w 0 A0 its.length c0 its ∧ ∀ j, blk A0 = some j → ¬ F j)
  have HF := Lib.hid (hO.lt w F p fs hs)
  have HI := Lib.hid hi
  rw [hD]
  have HD := Lib.hid (⟨h0, hst⟩ : layK fs f t y its 0 = ⟨⟨fs, f, t, y, 0, []⟩, [], [], List.replicate its.length noBx, []⟩ ∧ ∀ k, layK fs f t y its (k + 1) = (layK fs f t y its k).step its k)
  clear hD h0 hst hs hx hxF hr hz h hi hf
  generalize layK fs f t y its = ly at *
  obtain ⟨D, hDD⟩ : ∃ D, (ly its.length).fin its = D := ⟨_, rfl⟩
  rw [hDD]
  have HDD := Lib.hid hDD
  clear hDD
  go_enter Tryz.func6, Tryz.ntmps6
  go_upto_region 1 with fail
  generalize hW1 : World.alloc w _ = W1
  obtain ⟨b0, hb0⟩ : ∃ b0, w.heap.size = b0 := ⟨_, rfl⟩
  have k1 : Below w.heap.size w W1 := by rw [← hW1]; exact ba1 _ _
  have s1 : W1.heap.size = b0 + 1 := by rw [← hW1, ← hb0]; simp
  have z0 : RowAt W1 b0 (Line.two f t) := by rw [← hW1, ← hb0]; exact RowAt.new w _ _
  clear hW1
  generalize hW2 : World.alloc W1 _ = V
  have k2 : Below W1.heap.size W1 V := by rw [← hW2]; exact ba1 _ _
  have z1 : RowAt V (b0 + 1) laid0 := by rw [← hW2, ← s1]; exact RowAt.new W1 _ _
  have s2 : V.heap.size = b0 + 2 := by rw [← hW2]; simp; omega
  clear hW2
  rw [hb0]
  obtain ⟨b1, hb1⟩ : ∃ b1, b0 + 1 = b1 := ⟨_, rfl⟩
  rw [hb1] at z1
  rw [hb1]
  have hg1 : w.heap.size ≤ b1 ∧ b1 < V.heap.size := by omega
  have S1 := Lib.hid (⟨thru k1 k2, z0.below (by simp) k2, z1⟩ : Below w.heap.size w V ∧ RowAt V b0 (Line.two f t) ∧ RowAt V b1 laid0)
  clear hb0 hb1 k1 k2 z0 z1 s1 s2
  obtain ⟨q0, q1, -, -⟩ := two_of S1.out.2.1
  go_cut [9] (fun u wx => ∃ bb kb, u = .pointer (some ⟨kb, 0, none⟩) ∧ Hid (Below V.heap.size V wx ∧ V.heap.size ≤ bb ∧ bb < kb ∧ kb < wx.heap.size ∧ Bl wx p bb ⟨fs, f, t, y, 0, []⟩ ∧ RowAt wx kb (krow0 p bb f t A0 its.length c0)))
  case first =>
    have kd := Lib.hid (⟨rfl, rfl, rfl, Nat.le_refl _, fun _ _ => rfl⟩ : Below V.heap.size V V.drew)
    go_region_with (first
      | (go_at_call 16; refine (lnew_any V.drew p f t y).mono ?_; rintro e w2 ⟨⟨bb, rfl, hbb, hbl⟩, k2⟩; have S2 := Lib.hid (⟨thru kd.out k2, hbb, hbl fs 0⟩ : Below V.heap.size V w2 ∧ V.heap.size ≤ bb ∧ Bl w2 p bb ⟨fs, f, t, y, 0, []⟩); have HQ := Lib.hid (S1.out.2.1.below (by simp) S2.out.1); obtain ⟨q0, q1, -, -⟩ := two_of HQ.out; clear hbb hbl k2 HQ))
    all_goals
      go_wp2_with fail
      go_meet
      refine ⟨bb, w2.heap.size, rfl, Lib.hid ⟨thru S2.out.1 (ba1 _ _), S2.out.2.1, S2.out.2.2.lt, by simp, S2.out.2.2.below (ba1 _ _), ?_⟩⟩
      exact RowAt.new w2 _ _
  case rest =>
  obtain ⟨bb, kb, rfl, hc⟩ := hcut
  clear q0 q1
  have hmk := make_boxes wc its.length (by have := HI.out; omega)
  obtain ⟨w3, hmk, hm3, k3⟩ := hmk
  obtain ⟨bx, hbx⟩ : ∃ bx, wc.heap.size = bx := ⟨_, rfl⟩
  rw [hbx] at hmk hm3
  have z3 := hc.out.2.2.2.2.2.below (by simp) k3
  have c7 : w3.cell? ⟨kb, 7, none⟩ = some (.slice none 0 0) := z3.at' 7
  have f7 := z3.frz 7
  have hbV := hc.out.1.size
  have hkb := hc.out.2.2.2.1
  have hbb := hc.out.2.2.1
  have hVb := hc.out.2.1
  have S3 := Lib.hid (⟨thru hc.out.1 k3, hc.out.2.2.2.2.1.below k3, z3, hm3, (⟨hVb, hbb, by omega⟩ : V.heap.size ≤ bb ∧ bb < kb ∧ kb < bx)⟩ : Below V.heap.size V w3 ∧ Bl w3 p bb ⟨fs, f, t, y, 0, []⟩ ∧ RowAt w3 kb (krow0 p bb f t A0 its.length c0) ∧ MineE encB 42 w3 bx (some ⟨bx, 0, none⟩) its.length its.length (List.replicate its.length noBx) ∧ V.heap.size ≤ bb ∧ bb < kb ∧ kb < bx)
  have hnkb : ¬ bx = kb := by omega
  clear hc hm3 k3 hbx z3 hbV hkb hbb hVb
  go_upto_region 3 with fail
  clear c7 f7 hmk
  -- all lies there
  obtain ⟨P, hP'⟩ : ∃ P : Fast, (⟨p, bb, kb, bx, A0, c0, w.heap.size⟩ : Fast) = P := ⟨_, rfl⟩
  have hPp : P.p = p ∧ P.bb = bb ∧ P.kb = kb ∧ P.bx = bx ∧ P.A0 = A0 ∧ P.c0 = c0 ∧ P.B = w.heap.size := by rw [← hP']; exact ⟨rfl, rfl, rfl, rfl, rfl, rfl, rfl⟩
  obtain ⟨hP1, hP2, hP3, hP4, hP5, hP6, hP7⟩ := hPp
  have HPP := Lib.hid (⟨hP1, hP2, hP3, hP4, hP5, hP6, hP7⟩ : P.p = p ∧ P.bb = bb ∧ P.kb = kb ∧ P.bx = bx ∧ P.A0 = A0 ∧ P.c0 = c0 ∧ P.B = w.heap.size)
  have kV := thru S1.out.1 S3.out.1
  have ks : But (fun j => j = kb) w3 (w3.setCell ⟨kb, 7, none⟩ (.slice (some ⟨bx, 0, none⟩) its.length its.length)) := but_one w3 kb 7 _
  have hVw := S1.out.1.size
  have h5a := S3.out.2.2.2.2
  have hbxl := S3.out.2.2.2.1.lt bx rfl
  have hKat : Kat S (w3.setCell ⟨kb, 7, none⟩ (.slice (some ⟨bx, 0, none⟩) its.length its.length)) P ⟨F, none, 0, none, 0, none, 0⟩ its (ly 0) := by
    rw [HD.out.1, ← hP']
    refine ⟨?_, ?_, ?_, ?_, noneE_mine _ _ _ _, noneE_mine _ _ _ _, ?_, noneE_mine _ _ _ _, ?_, ?_, ?_, ?_⟩
    · exact hO.keep _ _ _ _ _ _ (thruS hO HS.out.1 kV) ks (fun j e x => by have := HF.out j e; omega)
    · exact S3.out.2.1.but ks (by omega)
    · have := S3.out.2.2.1.set 7 (.slice (some ⟨bx, 0, none⟩) its.length its.length) (by simp)
      show RowAt _ kb [.pointer (some ⟨bb, 0, none⟩), .pointer (some p), .int .i64 f, .int .i64 t, .slice A0 its.length c0, .slice none 0 0, .slice none 0 0, .slice (some ⟨bx, 0, none⟩) (List.replicate its.length noBx).length (List.replicate its.length noBx).length, .slice none 0 0, .int .i64 0]
      rw [List.length_replicate]
      exact this
    · exact mineE_but (HS.out.2.1.below kV) ks (fun j e x => by have := (HS.out.2.1.lt j e).2; omega)
    · show MineE encB _ _ w.heap.size (some ⟨bx, 0, none⟩) (List.replicate its.length noBx).length (List.replicate its.length noBx).length _
      rw [List.length_replicate]
      exact (mineE_but S3.out.2.2.2.1 ks (fun j e x => by
        have e' : bx = j := by injection e
        omega)).mono (by omega)
    · intro i j k e1 e2
      have hFk : ∀ m, F m → m < w.heap.size := HF.out
      have hA0 : ∀ m, blk A0 = some m → m < w.heap.size := fun m e => (HS.out.2.1.lt m e).2
      match i, j, e1, e2 with
      | 0, 0, _, _ => rfl
      | 0, 1, e1, e2 => have := hFk k e1; have : k = bb := e2; omega
      | 0, 2, e1, e2 => have := hFk k e1; have : k = kb := e2; omega
      | 0, 3, e1, e2 => have := hFk k e1; have : k = bx := e2; omega
      | 0, 7, e1, e2 => exact absurd e1 (HS.out.2.2 k e2)
      | 1, 0, e1, e2 => have := hFk k e2; have : k = bb := e1; omega
      | 1, 1, _, _ => rfl
      | 1, 2, e1, e2 => have : k = bb := e1; have : k = kb := e2; omega
      | 1, 3, e1, e2 => have : k = bb := e1; have : k = bx := e2; omega
      | 1, 7, e1, e2 => have := hA0 k e2; have : k = bb := e1; omega
      | 2, 0, e1, e2 => have := hFk k e2; have : k = kb := e1; omega
      | 2, 1, e1, e2 => have : k = kb := e1; have : k = bb := e2; omega
      | 2, 2, _, _ => rfl
      | 2, 3, e1, e2 => have : k = kb := e1; have : k = bx := e2; omega
      | 2, 7, e1, e2 => have := hA0 k e2; have : k = kb := e1; omega
      | 3, 0, e1, e2 => have := hFk k e2; have : k = bx := e1; omega
      | 3, 1, e1, e2 => have : k = bx := e1; have : k = bb := e2; omega
      | 3, 2, e1, e2 => have : k = bx := e1; have : k = kb := e2; omega
      | 3, 3, _, _ => rfl
      | 3, 7, e1, e2 => have := hA0 k e2; have : k = bx := e1; omega
      | 7, 0, e1, e2 => exact absurd e2 (HS.out.2.2 k e1)
      | 7, 1, e1, e2 => have := hA0 k e1; have : k = bb := e2; omega
      | 7, 2, e1, e2 => have := hA0 k e1; have : k = kb := e2; omega
      | 7, 3, e1, e2 => have := hA0 k e1; have : k = bx := e2; omega
      | 7, 7, _, _ => rfl
      | 4, _, e1, _ => cases e1
      | 5, _, e1, _ => cases e1
      | 6, _, e1, _ => cases e1
      | _, 4, _, e2 => cases e2
      | _, 5, _, e2 => cases e2
      | _, 6, _, e2 => cases e2
      | _ + 8, _, e1, _ => exact e1.elim
      | _, _ + 8, _, e2 => exact e2.elim
    · show w.heap.size ≤ bb; omega
    · show w.heap.size ≤ kb; omega
    · show w.heap.size ≤ (w3.setCell _ _).heap.size
      have := ks.size
      omega
  have z1 := (S1.out.2.2.below (by simp) S3.out.1).but (by simp) ks (by omega)
  have kb1 : But (fun j => w.heap.size ≤ j) w (w3.setCell ⟨kb, 7, none⟩ (.slice (some ⟨bx, 0, none⟩) its.length its.length)) := (But.of_below (S := fun j => w.heap.size ≤ j) kV).trans ks (fun j _ e => by omega)
  have hno1 : ∀ i j, part P ⟨F, none, 0, none, 0, none, 0⟩ i j → ¬ j = b1 := fun i j e x => by
    rw [x] at e
    match i, e with
    | 0, e => have := HF.out _ e; omega
    | 1, e => have : b1 = P.bb := e; omega
    | 2, e => have : b1 = P.kb := e; omega
    | 3, e => have : b1 = P.bx := e; omega
    | 4, e => cases e
    | 5, e => cases e
    | 6, e => cases e
    | 7, e =>
      have e' : blk P.A0 = some b1 := e
      rw [hP5] at e'
      have := (HS.out.2.1.lt _ e').2
      omega
    | _ + 8, e => exact e.elim
  have S4 := Lib.hid (⟨hKat, z1, kb1, hno1⟩ : Kat S (w3.setCell ⟨kb, 7, none⟩ (.slice (some ⟨bx, 0, none⟩) its.length its.length)) P ⟨F, none, 0, none, 0, none, 0⟩ its (ly 0) ∧ RowAt (w3.setCell ⟨kb, 7, none⟩ (.slice (some ⟨bx, 0, none⟩) its.length its.length)) b1 laid0 ∧ But (fun j => w.heap.size ≤ j) w (w3.setCell ⟨kb, 7, none⟩ (.slice (some ⟨bx, 0, none⟩) its.length its.length)) ∧ ∀ i j, part P ⟨F, none, 0, none, 0, none, 0⟩ i j → ¬ j = b1)
  clear hKat z1 kb1 hno1 kV ks hVw h5a hbxl hP' S3 S1 hnkb
  generalize w3.setCell ⟨kb, 7, none⟩ (.slice (some ⟨bx, 0, none⟩) its.length its.length) = W4 at *
  rw [← hP3, ← hP5, ← hP6]
  have HB1 := Lib.hid hg1.1
  clear hP1 hP2 hP3 hP4 hP5 hP6 hP7 hg1
  obtain ⟨n, hn⟩ : ∃ n, its.length = n := ⟨_, rfl⟩
  have HN := Lib.hid hn
  rw [hn]
  clear hn
  go_wp2_with fail
  go_loopw [31] (fun i wr => ∃ j : Nat, j ≤ n ∧ i = .int .i64 (j : Int) ∧ Hid (∃ q', Kat S wr P q' its (ly j) ∧ Grew P ⟨F, none, 0, none, 0, none, 0⟩ q' W4 wr)) (fun i _ => n - (intOf i).toNat)
  case atStart => exact ⟨0, Nat.zero_le _, rfl, Lib.hid ⟨_, S4.out.1, Grew.refl _ _ _⟩⟩
  case round =>
    obtain ⟨j, hj, rfl, H0⟩ := hrel
    obtain ⟨q', hkj, hgj⟩ := H0.out
    have H := Lib.hid (⟨hkj, hgj⟩ : Kat S wr P q' its (ly j) ∧ Grew P ⟨F, none, 0, none, 0, none, 0⟩ q' W4 wr)
    clear hkj hgj H0
    by_cases hlt : j < n
    · have hji : (j : Int) < (n : Int) := by omega
      have hj0 : ¬ (j : Int) < 0 := by omega
      have hwj : IntKind.i64.wrap ((j : Int) + 1) = (j : Int) + 1 := by have := HN.out; have := HI.out; exact IntWalk.i64_in _ (by omega)
      have hjl : j < its.length := by have := HN.out; omega
      obtain ⟨g0, e0, d0, d1, d2, d3⟩ := H.out.1.item hjl
      rw [e0]
      have HE0 := Lib.hid e0
      obtain ⟨x, hxx⟩ : ∃ x, itAt its j = x := ⟨_, rfl⟩
      rw [hxx] at d0 d1 d2 d3
      have HXX := Lib.hid hxx
      have HJ := Lib.hid hjl
      clear hxx e0 hjl
      go_upto_region 6 with fail
      generalize hW5 : World.alloc wr _ = W5
      obtain ⟨b6, hb6⟩ : ∃ b6, wr.heap.size = b6 := ⟨_, rfl⟩
      have k5 : Below wr.heap.size wr W5 := by rw [← hW5]; exact ba1 _ _
      have z6 : RowAt W5 b6 (irow x) := by rw [← hW5, ← hb6]; exact RowAt.new wr _ _
      rw [hb6]
      have i0 : W5.cell? ⟨b6, 0, none⟩ = some (.int .i64 x.sd) := z6.at' 0
      have i1 : W5.cell? ⟨b6, 1, none⟩ = some (.int .i64 x.cl) := z6.at' 1
      have i2 : W5.cell? ⟨b6, 2, none⟩ = some (.int .i64 x.wd) := z6.at' 2
      have i3 : W5.cell? ⟨b6, 3, none⟩ = some (.int .i64 x.ht) := z6.at' 3
      have K5 := Lib.hid k5
      clear hW5 hb6 k5 z6 d0 d1 d2 d3
      go_upto_region 7 with (first
        | (go_at_call 17; refine (fate_any x W5).mono ?_; rintro e w6 ⟨rfl, k6⟩; have K6 := Lib.hid (thru K5.out k6); clear k6))
      clear i0 i1 i2 i3
      by_cases hsd : x.sd = 0
      · rw [if_pos hsd]
        have HAt := Lib.hid (katom_any hO hP (H.out.1.below hO K6.out) (HAb.out j (by have := HJ.out; omega)) HJ.out (by rw [HXX.out]; exact hsd))
        have hstep : ly (j + 1) = (ly j).atom its j := by rw [HD.out.2]; unfold Ly.step; rw [HXX.out, if_pos hsd]
        have HSt := Lib.hid hstep
        clear hsd hstep
        go_wp2_with (first
          | (go_at_call 30; refine HAt.out.mono ?_; rintro e w7 ⟨⟨v7, rfl⟩, q7, h7, g7⟩; have S7 := Lib.hid (⟨q7, by rw [HSt.out]; exact h7, H.out.2.trans ((Grew.of_below K6.out).trans g7)⟩ : ∃ q', Kat S w7 P q' its (ly (j + 1)) ∧ Grew P ⟨F, none, 0, none, 0, none, 0⟩ q' W4 w7); clear h7 g7))
        go_roundw
        case rel => exact ⟨j + 1, by omega, by go_num, S7⟩
        case measure => simp [intOf]; omega
      · rw [if_neg hsd]
        have HAt := Lib.hid (kfloat_any hO hP (H.out.1.below hO K6.out) (HAb.out j (by have := HJ.out; omega)) HJ.out (by rw [HXX.out]; exact hsd) (HNb.out j HJ.out))
        have hstep : ly (j + 1) = (ly j).float its j := by rw [HD.out.2]; unfold Ly.step; rw [HXX.out, if_neg hsd]
        have HSt := Lib.hid hstep
        clear hsd hstep
        go_wp2_with (first
          | (go_at_call 31; refine HAt.out.mono ?_; rintro e w7 ⟨⟨v7, rfl⟩, q7, h7, g7⟩; have S7 := Lib.hid (⟨q7, by rw [HSt.out]; exact h7, H.out.2.trans ((Grew.of_below K6.out).trans g7)⟩ : ∃ q', Kat S w7 P q' its (ly (j + 1)) ∧ Grew P ⟨F, none, 0, none, 0, none, 0⟩ q' W4 w7); clear h7 g7))
        go_roundw
        case rel => exact ⟨j + 1, by omega, by go_num, S7⟩
        case measure => simp [intOf]; omega
    · obtain rfl : j = n := by omega
      have hjn : its.length = j := HN.out
      have hAj := HAb.out j (by omega)
      have hD : (ly j).fin its = D := by rw [← HDD.out, hjn]
      have HEn : Hid (Calls Tryz.prog 18 #[.pointer (some ⟨P.kb, 0, none⟩)] wr fun e w' => (∃ v, e = .returned v) ∧ ∃ q2, Kat S w' P q2 its D ∧ Grew P q' q2 wr w') := Lib.hid (by
        by_cases ha : (ly j).m.az = []
        · refine (kend_no H.out.1 ha).mono ?_
          rintro e w8 ⟨h8, k8⟩
          exact ⟨h8, q', by rw [← hD, fin_still hAj.kp ha]; exact H.out.1.below hO k8, Grew.of_below k8⟩
        · rw [← hD]
          exact kend_some hO hP H.out.1 hAj ha)
      have hD' := hD
      clear hAj hD
      have hlen : D.box.length = D.box.length := rfl
      go_upto_region 10 with (first
        | (go_at_call 18; refine HEn.out.mono ?_; rintro e w8 ⟨⟨v8, rfl⟩, q8, h8, g8⟩; have S8 := Lib.hid (⟨h8, H.out.2.trans g8⟩ : Kat S w8 P q8 its D ∧ Grew P ⟨F, none, 0, none, 0, none, 0⟩ q8 W4 w8); clear h8 g8))
      have c0' : w8.cell? ⟨P.kb, 0, none⟩ = some (.pointer (some ⟨P.bb, 0, none⟩)) := S8.out.1.kr.at' 0
      have HY := Lib.hid (ly_any w8 P.p P.bb D.m S8.out.1.bl)
      have HZ1 := Lib.hid (S4.out.2.1.but (by simp) S8.out.2.but (fun ⟨i, _, e⟩ => S4.out.2.2.2 i b1 e rfl))
      clear HEn H hlen
      go_upto_region 11 with (first
        | (go_at_call 19; refine HY.out.mono ?_; rintro e w9 ⟨rfl, k9⟩; have S9 := Lib.hid (⟨k9, S8.out.1.below hO k9, HZ1.out.below (by simp) k9⟩ : Below w8.heap.size w8 w9 ∧ Kat S w9 P q8 its D ∧ RowAt w9 b1 laid0); have c9 : w9.cell? ⟨P.kb, 9, none⟩ = some (.int .i64 0) := S9.out.2.1.kr.at' 9; have f9 := S9.out.2.1.kr.frz 9; clear k9))
      have hb1k : ¬ b1 = P.kb := fun e => S4.out.2.2.2 2 P.kb rfl e.symm
      have z9 := S9.out.2.1.kr.set 9 (.int .i64 D.m.y) (by simp)
      have y9 := S9.out.2.2.but (by simp) (but_one w9 P.kb 9 (.int .i64 D.m.y)) hb1k
      have HZ9 := Lib.hid (⟨z9, y9⟩ : _ ∧ _)
      clear c0' c9 f9
      have kw := but_one w9 P.kb 9 (.int .i64 D.m.y)
      have HKw := Lib.hid kw
      generalize w9.setCell ⟨P.kb, 9, none⟩ (.int .i64 D.m.y) = w10 at *
      have d7 : w10.cell? ⟨P.kb, 7, none⟩ = some (.slice (some ⟨P.bx, 0, none⟩) D.box.length D.box.length) := z9.at' 7
      have d8 : w10.cell? ⟨P.kb, 8, none⟩ = some (.slice q8.A3 D.out.length q8.c3) := z9.at' 8
      have d9 : w10.cell? ⟨P.kb, 9, none⟩ = some (.int .i64 D.m.y) := z9.at' 9
      have e0 : w10.cell? ⟨b1, 0, none⟩ = some (.slice none 0 0) := y9.at' 0
      have e1 : w10.cell? ⟨b1, 1, none⟩ = some (.slice none 0 0) := y9.at' 1
      have e2 : w10.cell? ⟨b1, 2, none⟩ = some (.int .i64 0) := y9.at' 2
      have g0 := y9.frz 0
      have g1 := y9.frz 1
      have g2 := y9.frz 2
      clear z9 y9 kw HY
      go_wp2_with fail
      have hbl := S9.out.2.1.bo.len
      have hDb : D.box.length = j := by
        have h1 := fin_keep (HAb.out j (by omega)).hr (HAb.out j (by omega)).kp (HAb.out j (by omega)).hk (by have := (HAb.out j (by omega)).hz; omega)
        rw [hD'] at h1
        rw [h1.2.2, hjn]
      have hst : But (fun i => i = b1) w10 (((w10.setCell ⟨b1, 0, none⟩ (.slice (some ⟨P.bx, 0, none⟩) D.box.length D.box.length)).setCell ⟨b1, 1, none⟩ (.slice q8.A3 D.out.length q8.c3)).setCell ⟨b1, 2, none⟩ (.int .i64 D.m.y)) := but_onto (but_onto (but_one w10 b1 0 _) _ _) _ _
      have hall : But (fun i => i = P.kb ∨ i = b1) w9 (((w10.setCell ⟨b1, 0, none⟩ (.slice (some ⟨P.bx, 0, none⟩) D.box.length D.box.length)).setCell ⟨b1, 1, none⟩ (.slice q8.A3 D.out.length q8.c3)).setCell ⟨b1, 2, none⟩ (.int .i64 D.m.y)) := (but_wide HKw.out fun i e => .inl e).trans hst (fun i _ e => .inr e)
      have hgr : Grew P ⟨F, none, 0, none, 0, none, 0⟩ q8 W4 w9 := S8.out.2.trans (Grew.of_below S9.out.1)
      have hnb : ∀ i m, i ≠ 2 → part P q8 i m → ¬ (m = P.kb ∨ m = b1) := fun i m hi e x => by
        rcases x with x | x
        · exact hi (S9.out.2.1.ap i 2 m e x)
        · rw [x] at e
          by_cases hi7 : i < 7
          · rcases S8.out.2.own b1 ⟨i, hi7, e⟩ with ⟨a, _, ha⟩ | y
            · exact S4.out.2.2.2 a b1 ha rfl
            · have := S4.out.2.1.lt (by simp); omega
          · match i, hi7, e with
            | 7, _, e => exact S4.out.2.2.2 7 b1 e rfl
            | _ + 8, _, e => exact e
      have hB : P.B = w.heap.size := HPP.out.2.2.2.2.2.2
      have hFn : ∀ k, q8.F k → F k ∨ w.heap.size ≤ k := fun k e => by
        rcases hgr.own k ⟨0, by decide, e⟩ with ⟨a, ha, hk⟩ | y
        · match a, ha, hk with
          | 0, _, hk => exact .inl hk
          | 1, _, hk => right; have := S4.out.1.b1; have : k = P.bb := hk; omega
          | 2, _, hk => right; have := S4.out.1.b2; have : k = P.kb := hk; omega
          | 3, _, hk => right; have := S4.out.1.xlt.1; have : k = P.bx := hk; omega
          | 4, _, hk => cases hk
          | 5, _, hk => cases hk
          | 6, _, hk => cases hk
        · right; have := S4.out.2.2.1.size; omega
      refine bodyPost_ret (v := LaidV P.bx D.box.length q8.A3 q8.c3 D) (by simp [results, Tryz.results6, go_sem, LaidV, e0, e1, e2]) rfl ⟨⟨P.bx, q8.A3, q8.c3, q8.F, by rw [hjn, hDb], ?_⟩, ?_⟩
      · have hbo := S9.out.2.1.bo
        rw [hDb] at hbo
        rw [hjn]
        refine ⟨?_, hFn, ?_, ?_, fun e => absurd (S9.out.2.1.ap 0 3 P.bx e rfl) (by decide), fun k e x => absurd (S9.out.2.1.ap 6 0 k e x) (by decide), fun e => absurd (S9.out.2.1.ap 6 3 P.bx e rfl) (by decide)⟩
        · rw [← HPP.out.1]
          exact hO.keep _ _ _ _ _ _ S9.out.2.1.sp hall (fun m e => hnb 0 m (by decide) e)
        · rw [← hB]
          exact mineE_but hbo hall (fun m e => hnb 3 m (by decide) (by injection e with e; exact e.symm))
        · rw [← hB]
          exact mineE_but S9.out.2.1.li hall (fun m e => hnb 6 m (by decide) e)
      · have k1 : But (fun m => F m ∨ w.heap.size ≤ m) w w9 := (but_wide S4.out.2.2.1 fun m e => .inr e).trans hgr.but (fun m hm ⟨a, ha, hk⟩ => by
          match a, ha, hk with
          | 0, _, hk => exact .inl hk
          | 1, _, hk => right; have := S4.out.1.b1; have : m = P.bb := hk; omega
          | 2, _, hk => right; have := S4.out.1.b2; have : m = P.kb := hk; omega
          | 3, _, hk => right; have := S4.out.1.xlt.1; have : m = P.bx := hk; omega
          | 4, _, hk => cases hk
          | 5, _, hk => cases hk
          | 6, _, hk => cases hk)
        have k2 := k1.trans hall (fun m hm e => by
          right
          rcases e with e | e
          · have := S4.out.1.b2; omega
          · have := HB1.out; omega)
        exact ⟨k2.os, k2.tape, k2.output, k2.size, fun m hm hn => k2.block m hm (fun e => e.elim hn (fun x => by omega))⟩

end

end Go.Proofs.YtdibdfalahjmbaaGreat.Text
