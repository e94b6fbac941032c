/- The program's own: may a float stand at a height; where it starts. -/
import Derived.Test.YtkabpflbedpbaaaPart25
namespace Go.Proofs.Ytkabpflbedpbaaa.Place
open Go.RowKit Go.Sort Go.Proofs.Ytkabpflbedpbaaa.Rect Go.Proofs.Ytkabpflbedpbaaa.More Go.Proofs.Ytkabpflbedpbaaa.Shelf Go.Proofs.Ytkabpflbedpbaaa.Space
set_option linter.unusedVariables false
set_option linter.unusedSimpArgs false

section
variable {S : World → (Nat → Prop) → Addr → List Fl → Prop}

/-- Two numbers that lie at a block. -/
def At2 (w : World) (b : Nat) (x y : Int) : Prop := w.cell? ⟨b, 0, none⟩ = some (.int .i64 x) ∧ w.cell? ⟨b, 1, none⟩ = some (.int .i64 y)
theorem At2.below {w w' : World} {b : Nat} {x y : Int} (h : At2 w b x y) (k : Below w.heap.size w w') : At2 w' b x y :=
  ⟨(k.cell (p := ⟨b, 0, none⟩) (block_lt_of_cell h.1)).trans h.1, (k.cell (p := ⟨b, 1, none⟩) (block_lt_of_cell h.2)).trans h.2⟩
theorem at2_boxed (w : World) (x y : Int) (T : TypeId) : At2 (w.alloc (.cells #[.int .i64 x, .int .i64 y] T)) w.heap.size x y := by
  refine ⟨?_, ?_⟩ <;> simp [go_sem]

set_option maxRecDepth 100000 in
set_option maxHeartbeats 1000000 in
theorem pat_any (hO : SpaceOk S) (w : World) (F : Nat → Prop) (p : Addr) (fs : List Fl) (x : Wt) (y : Int) (h : S w F p fs) (h49 : fs.all near49 = true) (hr : RightW x) (hy : -2251799813685248 ≤ y ∧ y ≤ 2251799813685248) :
    Calls Try.prog 13 #[.pointer (some p), x.v, .int .i64 y] w fun r w' => r = .returned (.tuple #[.int .i64 (atQ fs x y), .bool (okQ fs x y)]) ∧ Below w.heap.size w w' := by
  have hht : x.ht ≤ 2305843009213693952 := by have := hr.ht2; omega
  have hz1 := highZ_pos x.ht
  have hz3 : y + highZ x.ht ≤ 4611686018427387904 := by unfold highZ; split <;> omega
  have HRo := Lib.hid (fun w => hO.rows y x.ht w ⟨by omega, by omega⟩ hht)
  have HBo := Lib.hid (fun w1 (k : S w1 F p fs) => hO.bounds w1 F p fs y (y + highZ x.ht) k (near49_near h49) (by omega) hz3)
  obtain ⟨L1, L2⟩ := bandL_49 h49 y (y + highZ x.ht)
  obtain ⟨R1, R2⟩ := bandR_49 h49 y (y + highZ x.ht)
  obtain ⟨v, hv⟩ : ∃ v, okQ fs x y = v := ⟨_, rfl⟩
  have hz : atQ fs x y = if v then edgeQ fs x y else 0 := by unfold atQ; rw [hv]
  obtain ⟨z, hzz⟩ : ∃ z, atQ fs x y = z := ⟨_, rfl⟩
  rw [hv, hzz]
  rw [hzz] at hz
  unfold okQ at hv
  unfold edgeQ at hz
  generalize bandL fs y (y + highZ x.ht) = L at *
  generalize bandR fs y (y + highZ x.ht) = R at *
  rw [ok_prog hr.sd] at hv
  rw [edge_prog hr.sd] at hz
  obtain ⟨a, ha⟩ : ∃ a, max x.f L = a := ⟨_, rfl⟩
  obtain ⟨b, hb⟩ : ∃ b, min x.t R = b := ⟨_, rfl⟩
  rw [ha, hb] at hv hz
  have HCl := Lib.hid (fun w => clip_is x.f x.t L R a b ha hb w)
  have HOv := Lib.hid (fun v hv w => poverhangs_any x L R v hv hr w)
  obtain ⟨f1, f2, t1, t2, wd1, wd2, ht1, ht2, y1, y2, sd, cl, ft⟩ := hr
  have HLen := Lib.hid (fun w => len_is a b (b - a) (IntWalk.i64_in _ (by omega)) w)
  have HEd := Lib.hid (fun z hz w => pedge_any x a b z (IntWalk.i64_in _ (by omega)) hz w)
  obtain ⟨yh, hyh⟩ : ∃ yh, y + highZ x.ht = yh := ⟨_, rfl⟩
  rw [hyh] at HRo HBo
  have HV := Lib.hid hv
  have HZ := Lib.hid hz
  have HS := Lib.hid h
  clear h h49 hht hz1 hz3 L1 L2 R1 R2 hv hz hzz ha hb f1 f2 t1 t2 wd1 wd2 ht1 ht2 y1 y2 sd cl ft hyh hy
  go_enter Try.func13, Try.ntmps13
  go_upto_region 1 with fail
  generalize hW1 : World.alloc w _ = W1
  obtain ⟨b0, hb0⟩ : ∃ b0, w.heap.size = b0 := ⟨_, rfl⟩
  have k1 : Below w.heap.size w W1 := by rw [← hW1]; exact ba1 _ _
  have S1 := Lib.hid (⟨by rw [← hW1, ← hb0]; exact atW_boxed _ _ _, thruS hO HS.out k1, k1⟩ : AtW W1 b0 x ∧ S W1 F p fs ∧ Below w.heap.size w W1)
  rw [hb0]
  clear hW1 hb0 k1
  obtain ⟨c0, c1, c2, c3, c4, c5, c6⟩ := S1.out.1
  go_upto_region 2 with (first
    | (go_at_call 27; refine (HRo.out _).mono ?_; rintro e w2 ⟨rfl, k2⟩; have S2 := Lib.hid (⟨S1.out.1.below k2, thruS hO S1.out.2.1 k2, thru S1.out.2.2 k2⟩ : AtW w2 b0 x ∧ S w2 F p fs ∧ Below w.heap.size w w2); clear k2)
    | (go_at_call 26; refine (HBo.out _ S2.out.2.1).mono ?_; rintro e w3 ⟨rfl, k3⟩; have S3 := Lib.hid (⟨S2.out.1.below k3, thru S2.out.2.2 k3⟩ : AtW w3 b0 x ∧ Below w.heap.size w w3); clear k3))
  clear c0 c1 c2 c3 c4 c5 c6
  generalize hW4 : World.alloc w3 _ = W4
  obtain ⟨b1, hb1⟩ : ∃ b1, w3.heap.size = b1 := ⟨_, rfl⟩
  have k4 : Below w3.heap.size w3 W4 := by rw [← hW4]; exact ba1 _ _
  have S4 := Lib.hid (⟨S3.out.1.below k4, by rw [← hW4, ← hb1]; exact at2_boxed _ _ _ _, thru S3.out.2 k4⟩ : AtW W4 b0 x ∧ At2 W4 b1 L R ∧ Below w.heap.size w W4)
  rw [hb1]
  clear hW4 hb1 k4
  obtain ⟨c0, c1, c2, c3, c4, c5, c6⟩ := S4.out.1
  obtain ⟨d0, d1⟩ := S4.out.2.1
  go_upto_region 3 with (first
    | (go_at_call 30; refine (HCl.out _).mono ?_; rintro e w5 ⟨rfl, k5⟩; have S5 := Lib.hid (⟨S4.out.1.below k5, S4.out.2.1.below k5, thru S4.out.2.2 k5⟩ : AtW w5 b0 x ∧ At2 w5 b1 L R ∧ Below w.heap.size w w5); clear k5))
  clear c0 c1 c2 c3 c4 c5 c6 d0 d1
  generalize hW6 : World.alloc w5 _ = W6
  obtain ⟨b2, hb2⟩ : ∃ b2, w5.heap.size = b2 := ⟨_, rfl⟩
  have k6 : Below w5.heap.size w5 W6 := by rw [← hW6]; exact ba1 _ _
  have S6 := Lib.hid (⟨S5.out.1.below k6, S5.out.2.1.below k6, by rw [← hW6, ← hb2]; exact at2_boxed _ _ _ _, thru S5.out.2.2 k6⟩ : AtW W6 b0 x ∧ At2 W6 b1 L R ∧ At2 W6 b2 a b ∧ Below w.heap.size w W6)
  rw [hb2]
  clear hW6 hb2 k6
  have HA := Lib.hid (fun w' (j : Below W6.heap.size W6 w') => S6.out.1.below j)
  have HB := Lib.hid (fun w' (j : Below W6.heap.size W6 w') => S6.out.2.1.below j)
  have HC := Lib.hid (fun w' (j : Below W6.heap.size W6 w') => S6.out.2.2.1.below j)
  obtain ⟨ft, hft⟩ : ∃ ft, decide (x.wd ≤ b - a) = ft := ⟨_, rfl⟩
  have HFT := Lib.hid hft
  have hv2 := HV.out
  have hz2 := HZ.out
  rw [hft] at hv2
  clear hft HV HZ
  cases ft with
  | true =>
    obtain rfl : true = v := by simpa using hv2
    have hz3 : edgeP x a b = z := by rw [hz2]; rfl
    clear hv2 hz2
    refine Hold.wp_region_hold [.val (.pointer (some ⟨b0, 4, none⟩)), .val (.int .i64 x.wd), .val (.agg #[.int .i64 a, .int .i64 b]), .val (.int .i64 (b - a)), .val (.bool true), .val (.bool true), .skip, .skip, .skip] (by kernel_rfl) (by kernel_rfl) (by kernel_rfl) ?_ ?_
    · simp only [Hold.fill, Hold.Leave.value]
      refine ⟨?_, ?_, ?_, ?_, ?_, ?_, trivial, trivial, trivial, trivial⟩
      · intro gg w' hw hk
        go_simp
        exact ⟨rfl, rfl⟩
      · intro gg w' hw hk
        have q4 := (HA.out w' hw).2.2.2.2.1
        go_simp
        exact ⟨rfl, rfl⟩
      · intro gg w' hw hk
        have r0 := (HC.out w' hw).1
        have r1 := (HC.out w' hw).2
        go_simp
        exact ⟨rfl, rfl⟩
      · intro gg w' hw hk
        go_simp
        exact Hold.stays_call (HLen.out w')
      · intro gg w' hw hk
        have q := HFT.out
        go_simp
        exact ⟨rfl, rfl⟩
      · intro gg w' hw hk
        go_simp
        exact ⟨rfl, rfl⟩
    intro gg w7 k7 hgg
    clear hgg
    simp only [Hold.fill, Hold.Leave.value, List.length_cons, List.length_nil, List.drop_succ_cons, List.drop_zero]
    have HZ2 := Lib.hid hz3
    have S7 := Lib.hid (⟨HA.out _ k7, HC.out _ k7, thru S6.out.2.2.2 k7⟩ : AtW w7 b0 x ∧ At2 w7 b2 a b ∧ Below w.heap.size w w7)
    clear k7 hz3
    obtain ⟨c0, c1, c2, c3, c4, c5, c6⟩ := S7.out.1
    obtain ⟨d0, d1⟩ := S7.out.2.1
    go_wp2_with (first
      | (go_at_call 33; refine (HEd.out z HZ2.out _).mono ?_; rintro e w8 ⟨rfl, k8⟩; have K8 := Lib.hid (thru S7.out.2.2 k8); clear k8))
    exact bodyPost_ret (v := .tuple #[.int .i64 z, .bool true]) (by simp [results, Try.results13, go_sem]) rfl ⟨rfl, K8.out⟩
  | false =>
    have hv2 : hangs x L R = v := by simpa using hv2
    refine Hold.wp_region_hold [.val (.pointer (some ⟨b0, 4, none⟩)), .val (.int .i64 x.wd), .val (.agg #[.int .i64 a, .int .i64 b]), .val (.int .i64 (b - a)), .val (.bool false), .val (.bool false), .val (x.v), .val (.agg #[.int .i64 L, .int .i64 R]), .val (.bool v)] (by kernel_rfl) (by kernel_rfl) (by kernel_rfl) ?_ ?_
    · simp only [Hold.fill, Hold.Leave.value]
      refine ⟨?_, ?_, ?_, ?_, ?_, ?_, ?_, ?_, ?_, trivial⟩
      · intro gg w' hw hk
        go_simp
        exact ⟨rfl, rfl⟩
      · intro gg w' hw hk
        have q4 := (HA.out w' hw).2.2.2.2.1
        go_simp
        exact ⟨rfl, rfl⟩
      · intro gg w' hw hk
        have r0 := (HC.out w' hw).1
        have r1 := (HC.out w' hw).2
        go_simp
        exact ⟨rfl, rfl⟩
      · intro gg w' hw hk
        go_simp
        exact Hold.stays_call (HLen.out w')
      · intro gg w' hw hk
        have q := HFT.out
        go_simp
        exact ⟨rfl, rfl⟩
      · intro gg w' hw hk
        go_simp
        exact ⟨rfl, rfl⟩
      · intro gg w' hw hk
        have q0 := (HA.out w' hw).1
        have q1 := (HA.out w' hw).2.1
        have q2 := (HA.out w' hw).2.2.1
        have q3 := (HA.out w' hw).2.2.2.1
        have q4 := (HA.out w' hw).2.2.2.2.1
        have q5 := (HA.out w' hw).2.2.2.2.2.1
        have q6 := (HA.out w' hw).2.2.2.2.2.2
        go_simp
        exact ⟨rfl, rfl⟩
      · intro gg w' hw hk
        have r0 := (HB.out w' hw).1
        have r1 := (HB.out w' hw).2
        go_simp
        exact ⟨rfl, rfl⟩
      · intro gg w' hw hk
        go_simp
        exact Hold.stays_call (HOv.out v hv2 w')
    intro gg w7 k7 hgg
    clear hgg
    simp only [Hold.fill, Hold.Leave.value, List.length_cons, List.length_nil, List.drop_succ_cons, List.drop_zero]
    clear hv2
    cases v with
    | true =>
      have hz3 : edgeP x a b = z := by rw [hz2]; rfl
      clear hz2
      have HZ2 := Lib.hid hz3
      have S7 := Lib.hid (⟨HA.out _ k7, HC.out _ k7, thru S6.out.2.2.2 k7⟩ : AtW w7 b0 x ∧ At2 w7 b2 a b ∧ Below w.heap.size w w7)
      clear k7 hz3
      obtain ⟨c0, c1, c2, c3, c4, c5, c6⟩ := S7.out.1
      obtain ⟨d0, d1⟩ := S7.out.2.1
      go_wp2_with (first
        | (go_at_call 33; refine (HEd.out z HZ2.out _).mono ?_; rintro e w8 ⟨rfl, k8⟩; have K8 := Lib.hid (thru S7.out.2.2 k8); clear k8))
      exact bodyPost_ret (v := .tuple #[.int .i64 z, .bool true]) (by simp [results, Try.results13, go_sem]) rfl ⟨rfl, K8.out⟩
    | false =>
      obtain rfl : z = 0 := hz2
      have K7 := Lib.hid (thru S6.out.2.2.2 k7)
      clear k7
      go_wp2_with fail
      exact bodyPost_ret (v := .tuple #[.int .i64 0, .bool false]) (by simp [results, Try.results13, go_sem]) rfl ⟨rfl, K7.out⟩

set_option maxRecDepth 100000 in
set_option maxHeartbeats 600000 in
theorem pstart_any (hO : SpaceOk S) (w : World) (F : Nat → Prop) (p : Addr) (fs : List Fl) (x : Wt) (h : S w F p fs) (h49 : fs.all near49 = true) (hr : RightW x) :
    Calls Try.prog 16 #[.pointer (some p), x.v] w fun r w' => r = .returned (.int .i64 (startQ fs x)) ∧ Below w.heap.size w w' := by
  have HLa := Lib.hid (fun w1 (k : S w1 F p fs) => hO.last w1 F p fs k (near49_near h49))
  have HCl := Lib.hid (fun w1 y (k : S w1 F p fs) => hO.clear w1 F p fs x.c y k (near49_near h49) hr.cl)
  obtain ⟨z, hz⟩ : ∃ z, startQ fs x = z := ⟨_, rfl⟩
  rw [hz]
  rw [start_prog] at hz
  obtain ⟨v, hv⟩ : ∃ v : Bool, decide (0 < fs.length) = v := ⟨_, rfl⟩
  rw [hv] at hz HLa
  generalize lastD fs = la at hz HLa
  have HS := Lib.hid h
  clear h h49 hr hv
  go_enter Try.func16, Try.ntmps16
  go_upto_region 1 with fail
  generalize hW1 : World.alloc w _ = W1
  obtain ⟨b0, hb0⟩ : ∃ b0, w.heap.size = b0 := ⟨_, rfl⟩
  have k1 : Below w.heap.size w W1 := by rw [← hW1]; exact ba1 _ _
  have S1 := Lib.hid (⟨by rw [← hW1, ← hb0]; exact atW_boxed _ _ _, thruS hO HS.out k1, k1⟩ : AtW W1 b0 x ∧ S W1 F p fs ∧ Below w.heap.size w W1)
  rw [hb0]
  clear hW1 hb0 k1
  obtain ⟨c0, c1, c2, c3, c4, c5, c6⟩ := S1.out.1
  cases v with
  | false =>
    have hz2 : clearS fs x.c x.y = z := by simpa using hz
    have HC := Lib.hid (fun w1 (k : S w1 F p fs) => by have := HCl.out w1 x.y k; rw [hz2] at this; exact this)
    clear hz hz2
    go_upto_region 5 with (first
      | (go_at_call 36; refine (HLa.out _ S1.out.2.1).mono ?_; rintro e w2 ⟨rfl, k2⟩; have S2 := Lib.hid (⟨S1.out.1.below k2, thruS hO S1.out.2.1 k2, thru S1.out.2.2 k2⟩ : AtW w2 b0 x ∧ S w2 F p fs ∧ Below w.heap.size w w2); clear k2))
    clear c0 c1 c2 c3 c4 c5 c6
    obtain ⟨c0, c1, c2, c3, c4, c5, c6⟩ := S2.out.1
    go_wp2_with (first
      | (go_at_call 37; refine (HC.out _ S2.out.2.1).mono ?_; rintro e w3 ⟨rfl, k3⟩; have K3 := Lib.hid (thru S2.out.2.2 k3); clear k3))
    go_ret
    exact ⟨rfl, K3.out⟩
  | true =>
    have hz2 : clearS fs x.c (max x.y la) = z := by simpa using hz
    obtain ⟨m, hm⟩ : ∃ m, max x.y la = m := ⟨_, rfl⟩
    rw [hm] at hz2
    have HC := Lib.hid (fun w1 (k : S w1 F p fs) => by have := HCl.out w1 m k; rw [hz2] at this; exact this)
    clear hz hz2
    by_cases g : x.y < la
    · have e : m = la := by omega
      subst e
      clear hm
      go_upto_region 5 with (first
        | (go_at_call 36; refine (HLa.out _ S1.out.2.1).mono ?_; rintro e w2 ⟨rfl, k2⟩; have S2 := Lib.hid (⟨S1.out.1.below k2, thruS hO S1.out.2.1 k2, thru S1.out.2.2 k2⟩ : AtW w2 b0 x ∧ S w2 F p fs ∧ Below w.heap.size w w2); clear k2))
      clear c0 c1 c2 c3 c4 c5 c6
      obtain ⟨c0, c1, c2, c3, c4, c5, c6⟩ := S2.out.1
      go_wp2_with (first
        | (go_at_call 37; refine (HC.out _ S2.out.2.1).mono ?_; rintro e w3 ⟨rfl, k3⟩; have K3 := Lib.hid (thru S2.out.2.2 k3); clear k3))
      go_ret
      exact ⟨rfl, K3.out⟩
    · have e : m = x.y := by omega
      subst e
      clear hm
      go_upto_region 5 with (first
        | (go_at_call 36; refine (HLa.out _ S1.out.2.1).mono ?_; rintro e w2 ⟨rfl, k2⟩; have S2 := Lib.hid (⟨S1.out.1.below k2, thruS hO S1.out.2.1 k2, thru S1.out.2.2 k2⟩ : AtW w2 b0 x ∧ S w2 F p fs ∧ Below w.heap.size w w2); clear k2))
      clear c0 c1 c2 c3 c4 c5 c6
      obtain ⟨c0, c1, c2, c3, c4, c5, c6⟩ := S2.out.1
      go_wp2_with (first
        | (go_at_call 37; refine (HC.out _ S2.out.2.1).mono ?_; rintro e w3 ⟨rfl, k3⟩; have K3 := Lib.hid (thru S2.out.2.2 k3); clear k3))
      go_ret
      exact ⟨rfl, K3.out⟩

end

end Go.Proofs.Ytkabpflbedpbaaa.Place
