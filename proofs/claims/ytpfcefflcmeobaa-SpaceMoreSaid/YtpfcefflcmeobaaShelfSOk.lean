/- What is asked of the program's lists of shelves, whatever they look like; the law's Few, and its begin. -/
import Derived.Test.YtpfcefflcmeobaaShelfSRefs5
import Derived.Test.YtpfcefflcmeobaaMoreHold
namespace Go.Proofs.Ytpfcefflcmeobaa.Shelf
open Go.RowKit Go.Sort Go.Proofs.Ytpfcefflcmeobaa.Rect Go.Proofs.Ytpfcefflcmeobaa.More

/-- Is a float not too far away? -/
def nearF (f : Fl) : Bool := [f.l, f.t, f.r, f.b].all inS

theorem near_of {fs : List Fl} (h : fs.all nearF = true) : Near fs := fun f hf => by
  have := List.all_eq_true.1 h f hf
  unfold nearF at this
  simp only [List.all_cons, List.all_nil, Bool.and_true, Bool.and_eq_true] at this
  exact ⟨(inS_iff.1 this.2.1).1, (inS_iff.1 this.2.2.2).2⟩

theorem inS_low {a : Int} (h : inS a = true) : -4503599627370496 ≤ a := by have := inS_iff.1 h; omega
theorem inS_high {a : Int} (h : inS a = true) : a ≤ 4611686018427387904 := by have := inS_iff.1 h; omega

/-- The least top below a row. -/
def afterD (fs : List Fl) (y : Int) : Int × Bool := match (shelvesD fs).find? (fun x => decide (y < x.1)) with
  | some x => (x.1, true)
  | none => (0, false)

/-- The contracts of the program's lists: at p lies one, in blocks from B on, that stands for these floats. -/
structure ListOk (L : World → Nat → Addr → List Fl → Prop) : Prop where
  keep : ∀ w w' B p fs, L w B p fs → Below w.heap.size w w' → L w' B p fs
  new : ∀ w, Calls Try.prog 42 #[] w fun r w' => (∃ p, r = .returned (.pointer (some p)) ∧ L w' w.heap.size p []) ∧ Below w.heap.size w w'
  add : ∀ w B p fs f, L w B p fs → B ≤ w.heap.size → fs.length < 1000 → fs.all nearF = true → nearF f = true → Calls Try.prog 43 #[.pointer (some p), .int .i64 f.s, .agg #[.int .i64 f.l, .int .i64 f.t, .int .i64 f.r, .int .i64 f.b]] w fun r w' => (∃ v, r = .returned v) ∧ L w' B p (fs ++ [f]) ∧ Below B w w'
  band : ∀ w B p fs (a z : Int), L w B p fs → fs.all nearF = true → -4503599627370496 ≤ a → z ≤ 4611686018427387904 → Calls Try.prog 37 #[.pointer (some p), .agg #[.int .i64 a, .int .i64 z]] w fun r w' => r = .returned (.agg #[.int .i64 (bandL fs a z), .int .i64 (bandR fs a z)]) ∧ Below w.heap.size w w'
  after : ∀ w B p fs (y : Int), L w B p fs → fs.all nearF = true → Calls Try.prog 39 #[.pointer (some p), .int .i64 y] w fun r w' => r = .returned (.tuple #[.int .i64 (afterD fs y).1, .bool (afterD fs y).2]) ∧ Below w.heap.size w w'

theorem take_all {fs : List Fl} {k : Nat} {f : Fl} (h : fs[k]? = some f) (ha : (fs.take k).all nearF = true) (hf : nearF f = true) : (fs.take (k + 1)).all nearF = true := by
  rw [List.take_add_one, h, List.all_append, ha]
  simp [hf]
theorem not_all {fs : List Fl} {k : Nat} {f : Fl} (h : fs[k]? = some f) (hf : nearF f = false) : fs.all nearF = false := by
  rw [List.all_eq_false]
  exact ⟨f, List.mem_of_getElem? h, by rw [hf]; simp⟩

set_option maxRecDepth 100000 in
set_option maxHeartbeats 2000000 in
theorem few_is (A : Option Addr) (n c : Nat) (fs : List Fl) (m : Int) (v : Bool) (w : World) (hn : n = fs.length) (hlen : n ≤ 9223372036854775807) (hx : Floats w w.heap.size A fs) (hv : (fs.all nearF && decide ((n : Int) ≤ m)) = v) :
    Calls Try.prog 9 #[.slice A n c, .int .i64 m] w fun e w' => e = .returned (.bool v) ∧ Below w.heap.size w w' := by
  have HX := Lib.hid hx
  have HN := Lib.hid hn
  have HV := Lib.hid hv
  clear hx hn hv
  go_enter Try.func9, Try.ntmps9
  go_wp2_with fail
  go_loopw [9] (fun i wr => ∃ k : Nat, k ≤ n ∧ i = .int .i64 (k : Int) ∧ Hid ((fs.take k).all nearF = true ∧ Below w.heap.size w wr)) (fun i _ => n - (intOf i).toNat)
  case atStart => exact ⟨0, Nat.zero_le _, rfl, Lib.hid ⟨by simp, Below.refl _ _⟩⟩
  case round =>
    obtain ⟨k, hk, rfl, H⟩ := hrel
    by_cases hlt : k < n
    · have hki : (k : Int) < (n : Int) := by omega
      have hk0 : ¬ (k : Int) < 0 := by omega
      obtain ⟨f, hf⟩ : ∃ f, fs[k]? = some f := ⟨_, List.getElem?_eq_getElem (by rw [← HN.out]; exact hlt)⟩
      obtain ⟨ad, rfl, hab, d0, d1, d2, d3, d4⟩ := (HX.out.thru H.out.2) k f hf
      obtain ⟨s, hs⟩ : ∃ s, nearF f = s := ⟨_, rfl⟩
      have HK := Lib.hid hf
      have HSV := Lib.hid hs
      have HSM := Lib.hid (fun w => smallR_is f.l f.t f.r f.b s hs w)
      clear hf hs
      cases s
      · have hvf : v = false := by rw [← HV.out, not_all HK.out HSV.out]; rfl
        subst hvf
        go_wp2_with (first
          | (go_at_call 33; refine (HSM.out _).mono ?_; rintro e w1 ⟨rfl, k1⟩; have K1 := Lib.hid k1; clear k1))
        go_ret
        exact ⟨rfl, thru H.out.2 (thru (ba1 wr _) K1.out)⟩
      · go_wp2_with (first
          | (go_at_call 33; refine (HSM.out _).mono ?_; rintro e w1 ⟨rfl, k1⟩; have K1 := Lib.hid k1; clear k1))
        go_roundw
        case rel => exact ⟨k + 1, by omega, by go_num, Lib.hid ⟨take_all HK.out H.out.1 HSV.out, thru H.out.2 (thru (ba1 wr _) K1.out)⟩⟩
        case measure => simp [intOf]; omega
    · obtain rfl : k = n := by omega
      have hall : fs.all nearF = true := by have := H.out.1; rwa [List.take_of_length_le (by rw [← HN.out]; omega)] at this
      have hve : decide ((k : Int) ≤ m) = v := by rw [← HV.out, hall]; rfl
      have HVE := Lib.hid hve
      clear hall hve
      go_wp2_with fail
      go_ret
      exact ⟨ret_b HVE.out, H.out.2⟩

section
variable {L : World → Nat → Addr → List Fl → Prop}

end

end Go.Proofs.Ytpfcefflcmeobaa.Shelf
