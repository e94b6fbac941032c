/- The walk of TreeCounts, over the contracts of the program's trees. -/
import Derived.Test.YtmmmlegjhblfaaaTreeStands
import Derived.Test.YtmmmlegjhblfaaaTreeMath
namespace Go.Proofs.Ytmmmlegjhblfaaa.Tree
open Go.RowKit Go.Sort Go.Proofs.Ytmmmlegjhblfaaa.Record Go.Proofs.Ytmmmlegjhblfaaa.Script Go.Proofs.Ytmmmlegjhblfaaa.More

section
variable {T : World → Addr → List Bx → Prop}

/-- The contracts of the methods, at places that there are. -/
theorem len_at (hT : TreeOk T) {n : Nat} {bs : List Bx} (hn : n = bs.length) {w : World} {p : Addr} (h : T w p bs) : Calls Try.prog 13 #[.pointer (some p)] w fun r w' => r = .returned (.int .i64 (n : Int)) ∧ Below w.heap.size w w' := by
  rw [hn]; exact hT.len w p bs h
theorem en_at (hT : TreeOk T) {n : Nat} {bs : List Bx} (hn : n = bs.length) {w : World} {p : Addr} (h : T w p bs) {k : Nat} {e : Int} (hk : k < n) (he : (en (dOf bs) n k : Int) = e) : Calls Try.prog 19 #[.pointer (some p), .int .i64 (k : Int)] w fun r w' => r = .returned (.int .i64 e) ∧ Below w.heap.size w w' := by
  have := hT.en w p bs k h
  rw [enT_nat (by omega), ← hn, he] at this
  exact this
theorem par_at (hT : TreeOk T) {n : Nat} {bs : List Bx} (hn : n = bs.length) {w : World} {p : Addr} (h : T w p bs) {k : Nat} {q : Int} (hk : k < n) (hq : par (dOf bs) k = q) : Calls Try.prog 17 #[.pointer (some p), .int .i64 (k : Int)] w fun r w' => r = .returned (.int .i64 q) ∧ Below w.heap.size w w' := by
  have := hT.parent w p bs k h
  rw [parT_nat (by omega), hq] at this
  exact this
theorem ctx_at (hT : TreeOk T) {n : Nat} {bs : List Bx} (hn : n = bs.length) {w : World} {p : Addr} (h : T w p bs) {k q : Nat} (hk : k < n) (hq : ctx (dOf bs) (oOf bs) k = q) : Calls Try.prog 21 #[.pointer (some p), .int .i64 (k : Int)] w fun r w' => r = .returned (.int .i64 (q : Int)) ∧ Below w.heap.size w w' := by
  have := hT.ctx w p bs k h
  rw [ctxT_nat (by omega), hq] at this
  exact this
theorem box_at (hT : TreeOk T) {n : Nat} {bs : List Bx} (hn : n = bs.length) {w : World} {p : Addr} (h : T w p bs) {k : Nat} {y : Bx} (hk : k < n) (hy : bs.getD k noB = y) : Calls Try.prog 15 #[.pointer (some p), .int .i64 (k : Int)] w fun r w' => r = .returned y.v ∧ Below w.heap.size w w' := by
  have := hT.box w p bs k h
  rw [boxT_nat (by omega), hy] at this
  exact this
theorem kids_at (hT : TreeOk T) {n : Nat} {bs : List Bx} (hn : n = bs.length) {w : World} {p : Addr} (h : T w p bs) {k l : Nat} (hk : k < n) (hl : (kids (dOf bs) n k).length = l) : Calls Try.prog 24 #[.pointer (some p), .int .i64 (k : Int)] w fun r w' => (∃ A1 c1, r = .returned (.slice A1 l c1) ∧ Nums w' w'.heap.size A1 ((kids (dOf bs) n k).map Int.ofNat)) ∧ Below w.heap.size w w' := by
  refine (hT.kidsL w p bs k h).mono ?_
  rintro r w' ⟨u, rfl, ⟨A1, c1, rfl, h1⟩, kk⟩
  rw [kidsT_nat (by omega), ← hn] at h1 ⊢
  exact ⟨⟨A1, c1, by rw [List.length_map, hl], h1⟩, kk⟩

theorem kids_le (d : Nat → Int) (n k : Nat) (hk : k < n) : (kids d n k).length ≤ n := by
  have h1 : (kids d n k).length ≤ (List.range (en d n k)).length := List.length_filter_le _ _
  have h2 := (en_spec d n k hk).2.1
  rw [List.length_range] at h1
  omega

set_option maxRecDepth 100000 in
set_option maxHeartbeats 2000000 in
theorem counts_yes (hT : TreeOk T) (A : Option Addr) (n c : Nat) (bs : List Bx) (w : World) (hn : n = bs.length) (hlen : n ≤ 100) (h0 : 0 < n) (hx : Boxes w w.heap.size A bs) (hb : ∀ b ∈ bs, OkB b) (hf : Fine bs n) :
    Calls Try.prog 8 #[.slice A n c] w fun r w' => r = .returned (.bool true) ∧ Below w.heap.size w w' := by
  have HX := Lib.hid hx
  have HN := Lib.hid hn
  have HB := Lib.hid hb
  have HF := Lib.hid hf
  have HSH := Lib.hid (hf.shape h0)
  clear hx hn hb hf
  go_enter Try.func8, Try.ntmps8
  go_wp2_with fail
  refine (speaks_any hT _).mono ?_; rintro e w1 ⟨rfl, k1⟩
  have K1 := Lib.hid k1
  clear k1
  go_wp2_with fail
  refine (refchk_any A n c bs (-1) 0 w1 HN.out (by omega) (HX.out.thru K1.out) (chk_fine HN.out h0 HF.out)).mono ?_; rintro e w2 ⟨rfl, k2⟩
  have K2 := Lib.hid (thru K1.out k2)
  clear k2 K1
  go_wp2_with fail
  refine (begin_some hT A n c bs w2 HN.out (by omega) h0 (HX.out.thru K2.out) HB.out HF.out).mono ?_; rintro e w3 ⟨⟨p, rfl, ht⟩, k3⟩
  have K3 := Lib.hid (thru K2.out k3)
  have HT3 := Lib.hid ht
  clear k3 K2 ht
  go_wp2_with (first | (go_at_call 13; with_reducible refine (len_at hT HN.out HT3.out).mono ?_; rintro r w4 ⟨rfl, kk⟩; have K4 := Lib.hid (thru K3.out kk); have HT4 := Lib.hid (hT.keep _ _ _ _ HT3.out kk); clear kk))
  go_loopw [6, 31] (fun s t wr => ∃ k m : Nat, k ≤ n ∧ m ≤ n ∧ t = .int .i64 (k : Int) ∧ s = .int .i64 (m : Int) ∧ Hid (m = below (dOf bs) n k ∧ T wr p bs ∧ Below w.heap.size w wr)) (fun _ t _ => n - (intOf t).toNat)
  case atStart => exact ⟨0, 0, Nat.zero_le _, Nat.zero_le _, rfl, rfl, Lib.hid ⟨(below_zero _ _).symm, HT4.out, K4.out⟩⟩
  case round =>
    clear HT3 K3 HT4 K4
    obtain ⟨k, m, hk, hm, rfl, rfl, H⟩ := hrel
    by_cases hlt : k < n
    · obtain ⟨l, hl⟩ : ∃ l, (kids (dOf bs) n k).length = l := ⟨_, rfl⟩
      obtain ⟨e, he⟩ : ∃ e : Int, (en (dOf bs) n k : Int) = e := ⟨_, rfl⟩
      have hml : m + l = below (dOf bs) n (k + 1) := by rw [HSH.out.below_next k hlt, hl, H.out.1]
      have hmn : m + l ≤ n := by rw [hml]; exact HSH.out.below_le _
      have HL := Lib.hid hl
      have HE := Lib.hid he
      have HML := Lib.hid hml
      clear hl he hml
      go_upto_region 16 with (first | (go_at_call 24; refine (kids_at hT HN.out H.out.2.1 hlt HL.out).mono ?_; rintro r w5 ⟨⟨A1, c1, rfl, h1⟩, kk⟩; have H1 := Lib.hid h1; have K5 := Lib.hid (thru H.out.2.2 kk); have HT5 := Lib.hid (hT.keep _ _ _ _ H.out.2.1 kk); clear kk h1))
      rcases Nat.eq_zero_or_pos l with hl0 | hl0
      · subst hl0
        have hek : e = (k : Int) + 1 := by rw [← HE.out, HSH.out.kids_nil k hlt (List.eq_nil_of_length_eq_zero HL.out)]; omega
        subst hek
        go_wp2_with (first | (go_at_call 19; with_reducible refine (en_at hT HN.out HT5.out hlt HE.out).mono ?_; rintro r w6 ⟨rfl, kk⟩; have K6 := Lib.hid (thru K5.out kk); have HT6 := Lib.hid (hT.keep _ _ _ _ HT5.out kk); clear kk))
        go_roundw
        case rel => exact ⟨k + 1, m, by omega, hm, by go_num, rfl, Lib.hid ⟨by rw [← HML.out]; rfl, HT6.out, K6.out⟩⟩
        case measure => simp [intOf]; omega
      · obtain ⟨x, hx⟩ : ∃ x, (kids (dOf bs) n k)[l - 1]? = some x := ⟨_, List.getElem?_eq_getElem (by rw [HL.out]; omega)⟩
        obtain ⟨hxn, hxe⟩ := HSH.out.kids_last k x hlt (by rw [HL.out]; exact hx)
        have hh := HSH.out.kids_head k hlt (by rw [HL.out]; exact hl0)
        obtain ⟨ad, hA, hab, g0⟩ := H1.out 0 (by rw [List.length_map, HL.out]; exact hl0)
        obtain ⟨_, hA2, _, g1⟩ := H1.out (l - 1) (by rw [List.length_map, HL.out]; omega)
        subst hA
        injection hA2 with hA2
        subst hA2
        have e0 : ((kids (dOf bs) n k).map Int.ofNat).getD 0 0 = (k : Int) + 1 := by simp [List.getD, hh]
        have e1 : ((kids (dOf bs) n k).map Int.ofNat).getD (l - 1) 0 = (x : Int) := by simp [List.getD, hx]
        rw [e0] at g0
        rw [e1] at g1
        have HXE : Hid ((en (dOf bs) n x : Int) = e) := Lib.hid (by rw [hxe]; exact HE.out)
        obtain ⟨j, hj⟩ : ∃ j, l - 1 = j := ⟨_, rfl⟩
        rw [hj] at g1
        have hjl : ((l : Int) - 1) = (j : Int) := by omega
        have hjll : j < l := by omega
        clear hx hxe hh e0 e1 hj
        have g0' : w5.cell? ad = some (.int .i64 ((k : Int) + 1)) := by simpa [Addr.add] using g0
        have HC0 := Lib.hid g0'
        have HAB := Lib.hid hab
        clear hab
        go_wp2_with (first | (go_at_call 19; with_reducible refine (en_at hT HN.out HT5.out hxn HXE.out).mono ?_; rintro r w6 ⟨rfl, kk⟩; have K6 := Lib.hid (thru K5.out kk); have HT6 := Lib.hid (hT.keep _ _ _ _ HT5.out kk); have K56 := Lib.hid kk; clear kk) | (go_at_call 19; with_reducible refine (en_at hT HN.out HT6.out hlt HE.out).mono ?_; rintro r w7 ⟨rfl, kk⟩; have K7 := Lib.hid (thru K6.out kk); have HT7 := Lib.hid (hT.keep _ _ _ _ HT6.out kk); have g7 := ((thru K56.out kk).cell (p := ad) HAB.out).trans HC0.out; clear kk))
        go_roundw
        case rel => exact ⟨k + 1, m + l, by omega, hmn, by go_num, by go_num, Lib.hid ⟨HML.out, HT7.out, K7.out⟩⟩
        case measure => simp [intOf]; omega
    · obtain rfl : k = n := by omega
      have hm2 : ((k : Int) - 1) = (m : Int) := by
        have hm1 : m = k - 1 := by rw [H.out.1]; exact HSH.out.below_all
        omega
      have HE0 : Hid ((en (dOf bs) k 0 : Int) = (k : Int)) := Lib.hid (by rw [HSH.out.en_zero])
      have HZ : Hid (∀ w', T w' p bs → Calls Try.prog 19 #[.pointer (some p), .int .i64 0] w' fun r w'' => r = .returned (.int .i64 (k : Int)) ∧ Below w'.heap.size w' w'') := Lib.hid fun w' h => en_at hT HN.out h h0 HE0.out
      go_wp2_with (first
        | (go_at_call 19; with_reducible refine (HZ.out _ HT5.out).mono ?_; rintro r w6 ⟨rfl, kk⟩; have K6 := Lib.hid (thru K5.out kk); have HT6 := Lib.hid (hT.keep _ _ _ _ HT5.out kk); clear kk)
        | (go_at_call 13; with_reducible refine (len_at hT HN.out HT6.out).mono ?_; rintro r w7 ⟨rfl, kk⟩; have K7 := Lib.hid (thru K6.out kk); clear kk)
        | (go_at_call 13; with_reducible refine (len_at hT HN.out H.out.2.1).mono ?_; rintro r w5 ⟨rfl, kk⟩; have K5 := Lib.hid (thru H.out.2.2 kk); have HT5 := Lib.hid (hT.keep _ _ _ _ H.out.2.1 kk); clear kk))
      go_ret
      exact ⟨rfl, K7.out⟩

set_option maxRecDepth 100000 in
set_option maxHeartbeats 1000000 in
theorem counts_no (hT : TreeOk T) (A : Option Addr) (n c : Nat) (bs : List Bx) (w : World) (a e : Int) (hn : n = bs.length) (hlen : n ≤ 100) (hx : Boxes w w.heap.size A bs) (hc : chk bs = (a, e)) (he : e ≠ 0) :
    Calls Try.prog 8 #[.slice A n c] w fun r w' => r = .returned (.bool true) ∧ Below w.heap.size w w' := by
  have HX := Lib.hid hx
  have HN := Lib.hid hn
  have HC := Lib.hid hc
  clear hx hn hc
  have he' : (e == 0) = false := by simp [he]
  go_enter Try.func8, Try.ntmps8
  go_wp2_with fail
  refine (speaks_any hT _).mono ?_; rintro r w1 ⟨rfl, k1⟩
  have K1 := Lib.hid k1
  clear k1
  go_wp2_with fail
  refine (refchk_any A n c bs a e w1 HN.out (by omega) (HX.out.thru K1.out) HC.out).mono ?_; rintro r w2 ⟨rfl, k2⟩
  have K2 := Lib.hid (thru K1.out k2)
  clear k2 K1
  go_wp2_with fail
  go_ret
  exact ⟨rfl, K2.out⟩

set_option maxRecDepth 100000 in
set_option maxHeartbeats 1000000 in
theorem counts_long (hT : TreeOk T) (A : Option Addr) (n c : Nat) (w : World) (h : ¬ n ≤ 100) :
    Calls Try.prog 8 #[.slice A n c] w fun r w' => r = .returned (.bool true) ∧ Below w.heap.size w w' := by
  have h1 : (100 : Int) < (n : Int) := by omega
  clear h
  go_enter Try.func8, Try.ntmps8
  go_wp2_with fail
  refine (speaks_any hT _).mono ?_; rintro r w1 ⟨rfl, k1⟩
  go_wp2_with fail
  refine (speaks_any hT _).mono ?_; rintro r w2 ⟨rfl, k2⟩
  go_wp2_with fail
  go_ret
  exact ⟨rfl, thru k1 k2⟩

theorem counts_any (hT : TreeOk T) (A : Option Addr) (n c : Nat) (bs : List Bx) (w : World) (hn : n = bs.length) (hx : Boxes w w.heap.size A bs) (hb : ∀ b ∈ bs, OkB b) :
    Calls Try.prog 8 #[.slice A n c] w fun r w' => r = .returned (.bool true) ∧ Below w.heap.size w w' := by
  by_cases h : n ≤ 100
  · obtain ⟨a, e, hc⟩ : ∃ a e, chk bs = (a, e) := ⟨_, _, rfl⟩
    by_cases he : e = 0
    · subst he
      obtain ⟨-, h0, hf⟩ := chk_ok hn hc
      exact counts_yes hT A n c bs w hn h h0 hx hb hf
    · exact counts_no hT A n c bs w a e hn h hx hc he
  · exact counts_long hT A n c w h

end

end Go.Proofs.Ytmmmlegjhblfaaa.Tree
