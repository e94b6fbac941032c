/- What is asked of the program's lists of shelves, whatever they look like; the law's Few, and its begin. -/
import Derived.Test.YtdofmpmgcpobfaaShelfSRefs5
import Derived.Test.YtdofmpmgcpobfaaMoreHold
namespace Go.Proofs.Ytdofmpmgcpobfaa.Shelf
open Go.RowKit Go.Sort Go.Proofs.Ytdofmpmgcpobfaa.Rect Go.Proofs.Ytdofmpmgcpobfaa.More

/-- Is a float not too far away? -/
def nearF (f : Fl) : Bool := [f.l, f.t, f.r, f.b].all inS

theorem near_of {fs : List Fl} (h : fs.all nearF = true) : Near fs := fun f hf => by
  have := List.all_eq_true.1 h f hf
  unfold nearF at this
  simp only [List.all_cons, List.all_nil, Bool.and_true, Bool.and_eq_true] at this
  exact ⟨(inS_iff.1 this.2.1).1, (inS_iff.1 this.2.2.2).2⟩

/-- The least top below a row. -/
def afterD (fs : List Fl) (y : Int) : Int × Bool := match (shelvesD fs).find? (fun x => decide (y < x.1)) with
  | some x => (x.1, true)
  | none => (0, false)

/-- The contracts of the program's lists: at p lies one, in blocks from B on, that stands for these floats. -/
structure ListOk (L : World → Nat → Addr → List Fl → Prop) : Prop where
  keep : ∀ w w' B p fs, L w B p fs → Below w.heap.size w w' → L w' B p fs
  new : ∀ w, Calls Try.prog 19 #[] w fun r w' => (∃ p, r = .returned (.pointer (some p)) ∧ L w' w.heap.size p []) ∧ Below w.heap.size w w'
  add : ∀ w B p fs f, L w B p fs → B ≤ w.heap.size → fs.length < 1000 → fs.all nearF = true → nearF f = true → Calls Try.prog 20 #[.pointer (some p), .int .i64 f.s, .agg #[.int .i64 f.l, .int .i64 f.t, .int .i64 f.r, .int .i64 f.b]] w fun r w' => (∃ v, r = .returned v) ∧ L w' B p (fs ++ [f]) ∧ Below B w w'
  shelves : ∀ w B p fs, L w B p fs → fs.all nearF = true → Calls Try.prog 12 #[.pointer (some p)] w fun r w' => (∃ A c, r = .returned (.slice A (shelvesD fs).length c) ∧ MineE encSh 32 w' w.heap.size A (shelvesD fs).length c (shelvesD fs)) ∧ Below w.heap.size w w'
  band : ∀ w B p fs (a z : Int), L w B p fs → fs.all nearF = true → inS a = true → inS z = true → Calls Try.prog 16 #[.pointer (some p), .agg #[.int .i64 a, .int .i64 z]] w fun r w' => r = .returned (.agg #[.int .i64 (bandL fs a z), .int .i64 (bandR fs a z)]) ∧ Below w.heap.size w w'
  after : ∀ w B p fs (y : Int), L w B p fs → fs.all nearF = true → Calls Try.prog 17 #[.pointer (some p), .int .i64 y] w fun r w' => r = .returned (.tuple #[.int .i64 (afterD fs y).1, .bool (afterD fs y).2]) ∧ Below w.heap.size w w'

theorem take_all {fs : List Fl} {k : Nat} {f : Fl} (h : fs[k]? = some f) (ha : (fs.take k).all nearF = true) (hf : nearF f = true) : (fs.take (k + 1)).all nearF = true := by
  rw [List.take_add_one, h, List.all_append, ha]
  simp [hf]
theorem not_all {fs : List Fl} {k : Nat} {f : Fl} (h : fs[k]? = some f) (hf : nearF f = false) : fs.all nearF = false := by
  rw [List.all_eq_false]
  exact ⟨f, List.mem_of_getElem? h, by rw [hf]; simp⟩

set_option maxRecDepth 100000 in
set_option maxHeartbeats 2000000 in
theorem few_is (A : Option Addr) (n c : Nat) (fs : List Fl) (m : Int) (v : Bool) (w : World) (hn : n = fs.length) (hlen : n ≤ 9223372036854775807) (hx : Floats w w.heap.size A fs) (hv : (fs.all nearF && decide ((n : Int) ≤ m)) = v) :
    Calls Try.prog 10 #[.slice A n c, .int .i64 m] w fun e w' => e = .returned (.bool v) ∧ Below w.heap.size w w' := by
  have HX := Lib.hid hx
  have HN := Lib.hid hn
  have HV := Lib.hid hv
  clear hx hn hv
  go_enter Try.func10, Try.ntmps10
  go_wp2_with fail
  go_loopw [9] (fun i wr => ∃ k : Nat, k ≤ n ∧ i = .int .i64 (k : Int) ∧ Hid ((fs.take k).all nearF = true ∧ Below w.heap.size w wr)) (fun i _ => n - (intOf i).toNat)
  case atStart => exact ⟨0, Nat.zero_le _, rfl, Lib.hid ⟨by simp, Below.refl _ _⟩⟩
  case round =>
    obtain ⟨k, hk, rfl, H⟩ := hrel
    by_cases hlt : k < n
    · have hki : (k : Int) < (n : Int) := by omega
      have hk0 : ¬ (k : Int) < 0 := by omega
      obtain ⟨f, hf⟩ : ∃ f, fs[k]? = some f := ⟨_, List.getElem?_eq_getElem (by rw [← HN.out]; exact hlt)⟩
      obtain ⟨ad, rfl, hab, d0, d1, d2, d3, d4⟩ := (HX.out.thru H.out.2) k f hf
      obtain ⟨s, hs⟩ : ∃ s, nearF f = s := ⟨_, rfl⟩
      have HK := Lib.hid hf
      have HSV := Lib.hid hs
      have HSM := Lib.hid (fun w => smallR_is f.l f.t f.r f.b s hs w)
      clear hf hs
      cases s
      · have hvf : v = false := by rw [← HV.out, not_all HK.out HSV.out]; rfl
        subst hvf
        go_wp2_with (first
          | (go_at_call 14; refine (HSM.out _).mono ?_; rintro e w1 ⟨rfl, k1⟩; have K1 := Lib.hid k1; clear k1))
        go_ret
        exact ⟨rfl, thru H.out.2 (thru (ba1 wr _) K1.out)⟩
      · go_wp2_with (first
          | (go_at_call 14; refine (HSM.out _).mono ?_; rintro e w1 ⟨rfl, k1⟩; have K1 := Lib.hid k1; clear k1))
        go_roundw
        case rel => exact ⟨k + 1, by omega, by go_num, Lib.hid ⟨take_all HK.out H.out.1 HSV.out, thru H.out.2 (thru (ba1 wr _) K1.out)⟩⟩
        case measure => simp [intOf]; omega
    · obtain rfl : k = n := by omega
      have hall : fs.all nearF = true := by have := H.out.1; rwa [List.take_of_length_le (by rw [← HN.out]; omega)] at this
      have hve : decide ((k : Int) ≤ m) = v := by rw [← HV.out, hall]; rfl
      have HVE := Lib.hid hve
      clear hall hve
      go_wp2_with fail
      go_ret
      exact ⟨ret_b HVE.out, H.out.2⟩

section
variable {L : World → Nat → Addr → List Fl → Prop}

set_option maxRecDepth 100000 in
set_option maxHeartbeats 4000000 in
theorem begin_any (hO : ListOk L) (A : Option Addr) (n c : Nat) (fs : List Fl) (w : World) (hn : n = fs.length) (hlen : n ≤ 1000) (hx : Floats w w.heap.size A fs) (hs : fs.all nearF = true) :
    Calls Try.prog 11 #[.slice A n c] w fun r w' => (∃ p, r = .returned (.pointer (some p)) ∧ L w' w.heap.size p fs) ∧ Below w.heap.size w w' := by
  have HX := Lib.hid hx
  have HN := Lib.hid hn
  have HS := Lib.hid hs
  have HNew := Lib.hid (hO.new w)
  clear hx hn hs
  go_enter Try.func11, Try.ntmps11
  go_wp2_with (first
    | (go_at_call 19; refine HNew.out.mono ?_; rintro e w1 ⟨⟨p, rfl, hL⟩, k1⟩; have HL := Lib.hid hL; have K1 := Lib.hid k1; clear hL k1))
  go_loopw [11] (fun i wr => ∃ k : Nat, k ≤ n ∧ i = .int .i64 (k : Int) ∧ Hid (L wr w.heap.size p (fs.take k) ∧ Below w.heap.size w wr)) (fun i _ => n - (intOf i).toNat)
  case atStart => exact ⟨0, Nat.zero_le _, rfl, Lib.hid ⟨by simpa using HL.out, K1.out⟩⟩
  case round =>
    clear HL K1
    obtain ⟨k, hk, rfl, H⟩ := hrel
    by_cases hlt : k < n
    · have hki : (k : Int) < (n : Int) := by omega
      have hk0 : ¬ (k : Int) < 0 := by omega
      obtain ⟨f, hf⟩ : ∃ f, fs[k]? = some f := ⟨_, List.getElem?_eq_getElem (by rw [← HN.out]; exact hlt)⟩
      obtain ⟨ad, rfl, hab, d0, d1, d2, d3, d4⟩ := (HX.out.thru H.out.2) k f hf
      have HK := Lib.hid hf
      have HFN := Lib.hid (List.all_eq_true.1 HS.out f (List.mem_of_getElem? hf))
      have HTA := Lib.hid (show (fs.take k).all nearF = true from List.all_eq_true.2 fun g hg => List.all_eq_true.1 HS.out g (List.mem_of_mem_take hg))
      clear hf
      go_upto_region 7 with fail
      generalize hW : World.alloc wr _ = W
      obtain ⟨b5, hb⟩ : ∃ b5, wr.heap.size = b5 := ⟨_, rfl⟩
      have hbW : Below wr.heap.size wr W := by rw [← hW]; exact ba1 _ _
      have e0 : W.cell? ⟨b5, 0, none⟩ = some (.int .i64 f.s) := by rw [← hW, ← hb]; simp [go_sem]
      have e1 : W.cell? ⟨b5, 1, none⟩ = some (.int .i64 f.l) := by rw [← hW, ← hb]; simp [go_sem]
      have e2 : W.cell? ⟨b5, 2, none⟩ = some (.int .i64 f.t) := by rw [← hW, ← hb]; simp [go_sem]
      have e3 : W.cell? ⟨b5, 3, none⟩ = some (.int .i64 f.r) := by rw [← hW, ← hb]; simp [go_sem]
      have e4 : W.cell? ⟨b5, 4, none⟩ = some (.int .i64 f.b) := by rw [← hW, ← hb]; simp [go_sem]
      have hb5 : b5 < W.heap.size := block_lt_of_cell e0
      have LW := Lib.hid (hO.keep _ _ _ _ _ H.out.1 hbW)
      have KW := Lib.hid (thru H.out.2 hbW)
      rw [hb]
      clear hW hb d0 d1 d2 d3 d4 hbW
      refine Hold.wp_region_hold [.val (.pointer (some p)), .val (.pointer (some ⟨b5, 0, none⟩)), .val (.int .i64 f.s), .val (.pointer (some ⟨b5, 1, none⟩)), .val (.agg #[.int .i64 f.l, .int .i64 f.t, .int .i64 f.r, .int .i64 f.b]), .val (.agg #[.int .i64 f.l, .int .i64 f.t, .int .i64 f.r, .int .i64 f.b])] (by kernel_rfl) (by kernel_rfl) (by kernel_rfl) ?_ ?_
      · simp only [Hold.fill, Hold.Leave.value]
        refine ⟨?_, ?_, ?_, ?_, ?_, ?_, trivial⟩
        · intro gg w' hw hk
          go_simp
          exact ⟨rfl, rfl⟩
        · intro gg w' hw hk
          go_simp
          exact ⟨rfl, rfl⟩
        · intro gg w' hw hk
          have q0 := (hw.cell (p := ⟨b5, 0, none⟩) hb5).trans e0
          go_simp
          exact ⟨rfl, rfl⟩
        · intro gg w' hw hk
          go_simp
          exact ⟨rfl, rfl⟩
        · intro gg w' hw hk
          have q1 := (hw.cell (p := ⟨b5, 1, none⟩) hb5).trans e1
          have q2 := (hw.cell (p := ⟨b5, 2, none⟩) hb5).trans e2
          have q3 := (hw.cell (p := ⟨b5, 3, none⟩) hb5).trans e3
          have q4 := (hw.cell (p := ⟨b5, 4, none⟩) hb5).trans e4
          go_simp
          exact ⟨rfl, rfl⟩
        · intro gg w' hw hk
          go_simp
          exact Hold.stays_call (of_any _ _ _ _ w')
      intro gg w2 k2 hgg
      clear hgg
      simp only [Hold.fill, Hold.Leave.value, List.length_cons, List.length_nil, List.drop_succ_cons, List.drop_zero]
      have LZ := Lib.hid (hO.keep _ _ _ _ _ LW.out k2)
      have KZ := Lib.hid (thru KW.out k2)
      have HADD := Lib.hid (hO.add w2 w.heap.size p (fs.take k) f LZ.out KZ.out.size (by rw [List.length_take]; omega) HTA.out HFN.out)
      clear e0 e1 e2 e3 e4 k2
      go_wp2_with (first
        | (go_at_call 20; refine HADD.out.mono ?_; rintro e w3 ⟨⟨v, rfl⟩, hL3, k3⟩; have HL3 := Lib.hid hL3; have K3 := Lib.hid (KZ.out.trans k3); clear hL3 k3))
      go_roundw
      case rel => exact ⟨k + 1, by omega, by go_num, Lib.hid ⟨by rw [List.take_add_one, HK.out]; exact HL3.out, K3.out⟩⟩
      case measure => simp [intOf]; omega
    · obtain rfl : k = n := by omega
      have HE := Lib.hid (show L wr w.heap.size p fs by have := H.out.1; rwa [List.take_of_length_le (by rw [← HN.out]; omega)] at this)
      go_wp2_with fail
      go_ret
      exact ⟨⟨p, rfl, HE.out⟩, H.out.2⟩
end

end Go.Proofs.Ytdofmpmgcpobfaa.Shelf
