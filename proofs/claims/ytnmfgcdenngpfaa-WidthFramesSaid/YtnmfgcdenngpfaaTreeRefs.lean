/- The contracts of the document's Parent, End and Open. -/
import Derived.Test.YtnmfgcdenngpfaaTreeSpec
import Derived.Test.YtnmfgcdenngpfaaScriptOfs
import Derived.Test.YtnmfgcdenngpfaaReg
import Derived.BigQuiet
import Derived.Deep.DeepCutAuto
namespace Go.Proofs.Ytnmfgcdenngpfaa.Tree
open Go.RowKit Go.Sort Go.Proofs.Ytnmfgcdenngpfaa.Record Go.Proofs.Ytnmfgcdenngpfaa.Script

/-- How deep the boxes of a list lie. -/
def dOf (bs : List Bx) (k : Nat) : Int := (bs.getD k noB).d

theorem Boxes.depth {w : World} {B : Nat} {A : Option Addr} {bs : List Bx} (h : Boxes w B A bs) (k : Nat) (hk : k < bs.length) : ∃ ad : Addr, A = some ad ∧ ad.block < B ∧ w.cell? (ad.add (k * 14)) = some (.int .i64 (dOf bs k)) := by
  obtain ⟨ad, e, hb, hc⟩ := h k hk
  exact ⟨ad, e, hb, hc.1⟩

set_option maxRecDepth 100000 in
set_option maxHeartbeats 1000000 in
theorem refpar_any (A : Option Addr) (n c : Nat) (bs : List Bx) (i : Nat) (w : World) (hn : n = bs.length) (hlen : n ≤ 9223372036854775807) (hi : i < n) (hx : Boxes w w.heap.size A bs) (hd : ∀ k, k ≤ i → 0 ≤ dOf bs k ∧ dOf bs k ≤ 256) :
    Calls Try.prog 29 #[.slice A n c, .int .i64 i] w fun e w' => e = .returned (.int .i64 (par (dOf bs) i)) ∧ Below w.heap.size w w' := by
  obtain ⟨ad, rfl, hab, ci⟩ := Boxes.depth hx i (by omega)
  obtain ⟨x, hxd⟩ : ∃ x, dOf bs i = x := ⟨_, rfl⟩
  have hx01 := hd i (Nat.le_refl _)
  obtain ⟨p, hp⟩ : ∃ p, par (dOf bs) i = p := ⟨_, rfl⟩
  unfold par at hp
  rw [hxd] at ci hp hx01
  rw [show par (dOf bs) i = p by unfold par; rw [hxd]; exact hp]
  have HX := Lib.hid hx
  have HN := Lib.hid hn
  have HD := Lib.hid hd
  have HI := Lib.hid hi
  have HP := Lib.hid hp
  have HAB := Lib.hid hab
  clear hx hn hd hp hab
  go_enter Try.func29, Try.ntmps29
  go_wp2_with fail
  go_loopw [5] (fun s wr => ∃ j : Nat, j ≤ i ∧ s = .int .i64 ((j : Int) - 1) ∧ Hid (parD (dOf bs) x j = p ∧ Below w.heap.size w wr)) (fun s _ => (intOf s + 1).toNat)
  case atStart => exact ⟨i, Nat.le_refl _, rfl, Lib.hid ⟨HP.out, Below.refl _ _⟩⟩
  case round =>
    obtain ⟨j, hj, hs, H⟩ := hrel
    rcases Nat.eq_zero_or_pos j with h0 | h0
    · subst h0
      subst hs
      have hp1 : p = -1 := H.out.1.symm
      subst hp1
      go_wp2_with fail
      go_ret
      exact ⟨rfl, H.out.2⟩
    · obtain ⟨k, rfl⟩ : ∃ k, j = k + 1 := ⟨j - 1, by omega⟩
      have e : ((k + 1 : Nat) : Int) - 1 = (k : Int) := by omega
      rw [e] at hs
      subst hs
      obtain ⟨_, h1, _, ck⟩ := Boxes.depth HX.out k (by have := HN.out; omega)
      injection h1 with h1
      subst h1
      have hk01 := HD.out k (by omega)
      obtain ⟨y, hy⟩ : ∃ y, dOf bs k = y := ⟨_, rfl⟩
      rw [hy] at ck hk01
      have hw := H.out.1
      rw [parD, hy] at hw
      have HW := Lib.hid hw
      clear hw hy
      have hci := (H.out.2.cell (p := ad.add (i * 14)) (by rw [block_of_add]; exact HAB.out)).trans ci
      have hck := (H.out.2.cell (p := ad.add (k * 14)) (by rw [block_of_add]; exact HAB.out)).trans ck
      have kx := fun d os => cell_regrown hci (d := d) (os := os)
      have ky := fun d os => cell_regrown hck (d := d) (os := os)
      clear hci hck
      have hwx : IntKind.i64.wrap (x - 1) = x - 1 := IntWalk.i64_in _ (by omega)
      have hin : i < n := HI.out
      have hkn : k < n := by omega
      by_cases hyx : y = x - 1
      · have hq : (y == x - 1) = true := by simp [hyx]
        have hpk : p = k := by have := HW.out; rw [if_pos hyx] at this; exact this.symm
        subst hpk
        go_wp2_with fail
        refine wp_region_quiet_below (by kernel_rfl) (by kernel_rfl) ?_
        repeat (quiet_step (fail))
        refine wpQuiet_nil ?_
        intro _ hw'
        obtain ⟨⟨dq, os⟩, hw''⟩ := hw'
        subst hw''
        clear kx ky
        have q := below_regrown wr dq os
        generalize grow (redrawn wr dq) os = w4 at q ⊢
        have HQ := Lib.hid (thru H.out.2 q)
        clear q
        go_wp2_with fail
        go_ret
        exact ⟨rfl, HQ.out⟩
      · have hq : (y == x - 1) = false := by simp [hyx]
        have hpk : parD (dOf bs) x k = p := by have := HW.out; rw [if_neg hyx] at this; exact this
        go_wp2_with fail
        refine wp_region_quiet_below (by kernel_rfl) (by kernel_rfl) ?_
        repeat (quiet_step (fail))
        refine wpQuiet_nil ?_
        intro _ hw'
        obtain ⟨⟨dq, os⟩, hw''⟩ := hw'
        subst hw''
        clear kx ky
        have q := below_regrown wr dq os
        generalize grow (redrawn wr dq) os = w4 at q ⊢
        have HQ := Lib.hid ((⟨hpk, thru H.out.2 q⟩ : parD (dOf bs) x k = p ∧ Below w.heap.size w w4))
        clear q hpk
        go_wp2_with fail
        go_roundw
        case rel => exact ⟨k, by omega, by go_num, HQ⟩
        case measure => simp [intOf]

theorem refopen_any (b : Bx) (w : World) : Calls Try.prog 34 #[b.v] w fun e w' => e = .returned (.bool (openB b.k)) ∧ Below w.heap.size w w' := by
  unfold openB
  go_enter Try.func34, Try.ntmps34
  by_cases h : b.k = 2
  · have h' : (b.k == 2) = true := by simp [h]
    go_wp2_with fail
    go_ret
    exact ⟨by simp [h], ba1 _ _⟩
  · have h' : (b.k == 2) = false := by simp [h]
    go_wp2_with fail
    go_ret
    refine ⟨?_, ba1 _ _⟩
    by_cases h3 : b.k = 3 <;> simp [h, h3]

end Go.Proofs.Ytnmfgcdenngpfaa.Tree
