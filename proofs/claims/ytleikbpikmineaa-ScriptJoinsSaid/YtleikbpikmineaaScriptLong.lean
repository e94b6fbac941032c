/- The walk of ScriptLong, whatever the program's own functions look like that keep their contracts. -/
import Derived.Test.YtleikbpikmineaaScriptReads
import Derived.Laws.OwnMore
namespace Go.Proofs.Ytleikbpikmineaa.Script
open Go.RowKit Go.Sort Go.Proofs.Ytleikbpikmineaa.Record

/-- Decode tells that there are too many boxes. -/
def DecodeMany : Prop := ∀ (A : Option Addr) (m c : Nat) (w : World), m * 14 ≤ 9223372036854775807 → 65536 < m →
  Calls Try.prog 13 #[.slice A (m * 14) c] w fun e w' => (∃ A' c', e = .returned (.tuple #[.slice A' 0 c', .int .i64 3])) ∧ Below w.heap.size w w'

theorem run_append_zeros (P : Program) (w : World) (t ty e tx : TypeId) (i : TypeInfo) (z : Value) (ht : P.underlying t = some (.slice e)) (hx : P.underlying tx = some (.int .i64)) (hi : P.info? e = some i) (hz : i.zero = some z) (hsz : 0 < i.size)
    (b : Addr) (sLen sCap : Nat) (olds : List Value) (hlo : olds.length = sLen * i.size) (holds : ∀ j v, olds[j]? = some v → w.cell? (b.add j) = some v)
    (n : Nat) (h0 : 0 < n) (hn0 : n ≤ 1000) (hb : i.bytes ≤ 1000) (hg : sCap < sLen + n) (h63 : ((sLen + n : Nat) : Int) ≤ 9223372036854775807) (hfit : Builtin.nextslicecap (sLen + n) sCap * i.bytes ≤ 281474976710656) :
    (Builtin.append_ #[t, tx] ty #[.slice (some b) sLen sCap, .int .i64 (n : Int)]).run P w =
      .ok (.slice (some ⟨w.heap.size, 0, none⟩) (sLen + n) (grownCap w (sLen + n) sCap e))
        (w.drew.alloc (.cells (olds.toArray ++ Builtin.zeroCells z.cells n ++ Builtin.zeroCells z.cells (grownCap w (sLen + n) sCap e - (sLen + n))) e)) := by
  have hn : ¬ (sLen + n ≤ sCap) := by omega
  have h63' : ¬ (9223372036854775807 < ((sLen : Int) + (n : Int))) := by omega
  have h48' : ¬ (281474976710656 < Builtin.nextslicecap (sLen + n) sCap * i.bytes) := by omega
  have hfo := run_firstCells_some (P := P) w.drew i.size sLen b sLen sCap olds hlo (by simpa using holds)
  have hw : IntKind.i64.wrap (n : Int) = n := IntWalk.i64_in _ (by omega)
  have hneg : ¬ ((n : Int) < 0) := by omega
  have hmul : n * i.bytes ≤ 1000 * 1000 := Nat.mul_le_mul hn0 hb
  have hbig : ¬ (281474976710656 < (n : Int) * (i.bytes : Int)) := by
    rw [← Int.natCast_mul]; omega
  simp [Builtin.append_, run_underlying ht, run_underlying hx, sizeOf, typeInfo, zeroValue, hi, hz, asInt, asIntOf, hw, hneg, hbig, hn, h63', h48', Question.forced, hfo, newRow, grownCap]
  intro h
  exact absurd h (Nat.ne_of_gt (Nat.mul_pos h0 hsz))

/-- 'append(s, make([]int, n)...)' at a row without room: some longer slice, in a new block. -/
theorem wpList_append_zeros (w : World) {ops : Array Oper} {rest : List Oper} {o : Oper} {a : Act} {Q : Exit → Act → World → Prop} (hgd : o.guard = none) (s x : Operand)
    (ho : o.op = .call { callee := .builtin .append, args := #[s, x], argTypes := #[24, 3] })
    (g m : Nat) (olds : List Value) (hs : a.eval s = .slice (some ⟨g, 0, none⟩) m m) (hlo : olds.length = m) (holds : ∀ j v, olds[j]? = some v → w.cell? ((⟨g, 0, none⟩ : Addr).add j) = some v)
    (n : Nat) (hx : a.eval x = .int .i64 (n : Int)) (h0 : 0 < n) (hn0 : n ≤ 1000) (hm : m ≤ 1000000)
    (h : ∀ c' w', w.grownBy w' none → wpList Try.prog ops Q rest (a.put o.dst (.slice (some ⟨w.heap.size, 0, none⟩) (m + n) c')) w') : wpList Try.prog ops Q (o :: rest) a w := by
  obtain ⟨i0, hi0, hz0, hz1, hz2⟩ := info_parts int_info
  have hr := run_append_zeros Try.prog w 24 o.type 3 3 i0 (.int .i64 0) Try.underlying24 Try.underlying3 hi0 hz0 (by rw [hz1]; omega) ⟨g, 0, none⟩ m m olds (by rw [hz1, hlo]; omega) holds n h0 hn0 (by rw [hz2]; omega) (by omega) (by omega)
    (by rw [hz2]; exact growslice_fits (by omega) (by omega))
  refine wpList_plain hgd fun K hK => ?_
  unfold Oper.wp execOp
  simp only [ho, resolve, invoke, builtin, Sem.run_bind, Sem.run_pure, Result.andThen_ok, List.map_toArray, List.map_cons, List.map_nil, hs, hx, hr]
  exact hK _ _ (h _ _ ⟨rfl, rfl, rfl, by simp, fun k hk _ => Below.heap_alloc w.drew _ k hk⟩)

theorem made_zeros (n : Nat) : (madeCells (Value.int .i64 0).cells (n * 1)).toList = (List.replicate n (0 : Int)).map (Value.int .i64) := by
  simp only [madeCells, Value.cells, Nat.mul_one, List.map_replicate]
  apply List.ext_getElem
  · simp
  · intro k h1 h2
    simp [Nat.mod_one]

set_option maxRecDepth 100000 in
set_option maxHeartbeats 2000000 in
theorem long_any (hS : SpeaksOk) (hD : DecodeOk) (hN : DecodeShort) (hM : DecodeMany) (a b : Int) (ha : 0 ≤ a ∧ a ≤ 255) (hb : 0 ≤ b ∧ b ≤ 255) (w : World) :
    Calls Try.prog 6 #[.int .u8 a, .int .u8 b] w fun e w' => e = .returned (.bool true) ∧ Below w.heap.size w w' := by
  have HS := Lib.hid hS
  have HD := Lib.hid hD
  have HN := Lib.hid hN
  have HM := Lib.hid hM
  clear hS hD hN hM
  obtain ⟨ha0, ha1⟩ := ha
  obtain ⟨hb0, hb1⟩ := hb
  obtain ⟨r, hr, hr1, hr3⟩ : ∃ r : Nat, 14 * (1 + a % 3) = ((r * 14 : Nat) : Int) ∧ 1 ≤ r ∧ r ≤ 3 := ⟨(1 + a % 3).toNat, by omega, by omega, by omega⟩
  obtain ⟨s, hs, hs1, hs13⟩ : ∃ s : Nat, 1 + b % 13 = (s : Int) ∧ 1 ≤ s ∧ s ≤ 13 := ⟨(1 + b % 13).toNat, by omega, by omega, by omega⟩
  obtain ⟨i0, hi0, hz0, hz1, hz2⟩ := info_parts int_info
  go_enter Try.func6, Try.ntmps6
  go_wp2_with fail
  refine (HS.out _).mono ?_; rintro e w1 ⟨rfl, k1⟩
  have K1 := Lib.hid k1
  clear k1
  go_upto_region 3 with fail
  obtain ⟨w2, hmk, hown, hg2⟩ := run_makeSlice_full (P := Try.prog) w1 w1.heap.size 24 3 i0 (.int .i64 0) 1 Try.underlying24 hi0 hz0 hz1 .i64 .i64 917504 (by omega) (by rw [hz2]; omega) (by unfold maxLen; omega) (Nat.le_refl _)
  have hmk' : (Instr.makeSlice 24 (.int .i64 917504) (.int .i64 917504)).run Try.prog w1 = .ok (.slice (some ⟨w1.heap.size, 0, none⟩) 917504 917504) w2 := hmk
  clear hmk
  rw [made_zeros] at hown
  have hM2 : Mine w2 w1.heap.size (some ⟨w1.heap.size, 0, none⟩) 917504 917504 (List.replicate 917504 0) := hown
  have HM2 := Lib.hid hM2
  have K2 : Hid (Below w.heap.size w w2) := Lib.hid (K1.out.grown hg2 K1.out.size (fun j e => by cases e))
  clear hown hM2 hg2
  go_wp2_with fail
  refine (HD.out (some ⟨w1.heap.size, 0, none⟩) 65536 917504 (List.replicate 917504 0) w2 (by rw [List.length_replicate]) (Nat.le_refl _) (Nat.le_refl _) HM2.out.nums).mono ?_; rintro e w3 ⟨⟨A3, c3, rfl, -⟩, k3⟩
  have HM3 := Lib.hid (HM2.out.below k3)
  have K3 := Lib.hid (thru K2.out k3)
  clear k3 hmk' HM2
  have hc3 : ∀ (W : World), Mine W w1.heap.size (some ⟨w1.heap.size, 0, none⟩) 917504 917504 (List.replicate 917504 0) → ∀ j v, ((List.replicate 917504 (0 : Int)).map (Value.int .i64))[j]? = some v → W.cell? ((⟨w1.heap.size, 0, none⟩ : Addr).add j) = some v := fun W hW j v hv => World.ownsRow.cells hW (g := w1.heap.size) rfl j v hv
  have HC := Lib.hid hc3
  clear hc3
  go_wp2_with (first | (at_builtin; refine wpList_append_zeros _ rfl (.tmp 26) (.tmp 31) rfl w1.heap.size 917504 ((List.replicate 917504 (0 : Int)).map (Value.int .i64)) rfl (by rw [List.length_map, List.length_replicate]) (HC.out _ HM3.out) (r * 14) rfl (by omega) (by omega) (by omega) ?_; intro c4 w4 hg4))
  have HG4 := Lib.hid hg4
  clear hg4
  have hd := HM.out (some ⟨w3.heap.size, 0, none⟩) (65536 + r) c4 w4 (by omega) (by omega)
  rw [show (65536 + r) * 14 = 917504 + r * 14 by omega] at hd
  refine hd.mono ?_; rintro e w5 ⟨⟨A5, c5, rfl⟩, k5⟩
  have HM5 := Lib.hid ((HM3.out.kept HG4.out (fun k _ e => by cases e)).below k5)
  have K5 := Lib.hid (thru (K3.out.grown HG4.out K3.out.size (fun j e => by cases e)) k5)
  clear k5 HM3 HG4
  go_wp2_with (first | (at_builtin; refine wpList_append_zeros _ rfl (.tmp 37) (.tmp 41) rfl w1.heap.size 917504 ((List.replicate 917504 (0 : Int)).map (Value.int .i64)) rfl (by rw [List.length_map, List.length_replicate]) (HC.out _ HM5.out) s rfl (by omega) (by omega) (by omega) ?_; intro c6 w6 hg6))
  have HG6 := Lib.hid hg6
  clear hg6
  refine (HN.out (some ⟨w5.heap.size, 0, none⟩) (917504 + s) c6 w6 (by omega) (by omega)).mono ?_; rintro e w7 ⟨⟨A7, c7, rfl⟩, k7⟩
  have K7 := Lib.hid (thru (K5.out.grown HG6.out K5.out.size (fun j e => by cases e)) k7)
  clear k7 HM5 HG6
  go_wp2_with fail
  go_ret
  exact ⟨rfl, K7.out⟩

end Go.Proofs.Ytleikbpikmineaa.Script
