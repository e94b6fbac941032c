
import Derived.Test.YtdibdfalahjmbaaGreatPart15
import Derived.Test.YtdibdfalahjmbaaGreatPart9
namespace Go.Proofs.YtdibdfalahjmbaaGreat.Space

open Go.RowKit Go.Sort Go.Proofs.YtdibdfalahjmbaaGreat.Rect Go.Proofs.YtdibdfalahjmbaaGreat.More Go.Proofs.YtdibdfalahjmbaaGreat.Shelf

set_option linter.unusedVariables false

set_option linter.unusedSimpArgs false

theorem pput_any (w : World) (F : Nat → Prop) (p : Addr) (fs : List Fl) (f : Fl) (h : InP w F p fs) (hlen : fs.length < 1000) (hs : fs.all nearF = true) (hf : nearF f = true) (hsd : f.s = 1 ∨ f.s = 2) :
    Calls Tryz.prog 27 #[.pointer (some p), .int .i64 f.s, .agg #[.int .i64 f.l, .int .i64 f.t, .int .i64 f.r, .int .i64 f.b]] w fun r w' => (∃ v, r = .returned v) ∧ (∃ F', InP w' F' p (fs ++ [f]) ∧ ∀ k, F' k → F k ∨ w.heap.size ≤ k) ∧ But F w w' := by
  obtain ⟨hf1, sb, pb, g, n, c, A, cA, rfl, rfl, hsp⟩ := h
  have key : ∀ r w', ((∃ v, r = Ending.returned v) ∧ (∃ g' n' c' A' cA', Spc w' sb pb g' n' c' A' cA' (fs ++ [f]) ∧ (g' = g ∨ w.heap.size ≤ g') ∧ (∀ k, blk A' = some k → blk A = some k ∨ w.heap.size ≤ k)) ∧ But (spaceB sb pb g A) w w') →
      (∃ v, r = Ending.returned v) ∧ (∃ F', InP w' F' ⟨sb, 0, none⟩ (fs ++ [f]) ∧ ∀ k, F' k → spaceB sb pb g A k ∨ w.heap.size ≤ k) ∧ But (spaceB sb pb g A) w w' := by
    rintro r w' ⟨hv, ⟨g', n', c', A', cA', q1, q2, q3⟩, hb⟩
    refine ⟨hv, ⟨spaceB sb pb g' A', ⟨by rw [List.length_append]; simp; omega, sb, pb, g', n', c', A', cA', rfl, rfl, q1⟩, ?_⟩, hb⟩
    rintro k (e | e | e | e)
    · exact .inl (.inl e)
    · exact .inl (.inr (.inl e))
    · rcases q2 with q | q
      · exact .inl (.inr (.inr (.inl (by omega))))
      · exact .inr (by omega)
    · exact (q3 k e).elim (fun q => .inl (.inr (.inr (.inr q)))) .inr
  rcases hsd with e | e
  · have := (pput_left w sb pb g n c A cA fs f hsp hlen hs hf e).mono key
    rw [← e] at this
    exact this
  · have := (pput_right w sb pb g n c A cA fs f hsp hlen hs hf e).mono key
    rw [← e] at this
    exact this


theorem find_next : ∀ (U : List Int) (y : Int) (k : Nat) (z : Int), (y :: U).Pairwise (· < ·) → (y :: U)[k]? = some z → U.find? (fun e => decide (z < e)) = U[k]?
  | U, y, 0, z, hr, hz => by
    have e : y = z := by simpa using hz
    subst e
    cases U with
    | nil => rfl
    | cons u U =>
      have := (List.pairwise_cons.1 hr).1 u (List.mem_cons_self ..)
      simp [this]
  | [], y, k + 1, z, hr, hz => by simp at hz
  | u :: U, y, k + 1, z, hr, hz => by
    have hr2 := (List.pairwise_cons.1 hr).2
    have hz2 : (u :: U)[k]? = some z := by simpa using hz
    have hle : u ≤ z := by
      cases k with
      | zero => simp at hz2; omega
      | succ k => exact Int.le_of_lt ((List.pairwise_cons.1 hr2).1 z (List.mem_of_getElem? (show U[k]? = some z by simpa using hz2)))
    rw [List.find?_cons, show decide (z < u) = false by simp; omega, find_next U u k z hr2 hz2]
    simp

theorem afterD_tops {fs : List Fl} (hn : Near fs) (y : Int) (k : Nat) (z : Int) (h : (topsD fs y)[k]? = some z) : afterD fs z = match (topsD fs y)[k + 1]? with | some x => (x, true) | none => (0, false) := by
  have hr := tops_rise hn y
  have hyz : y ≤ z := by
    cases k with
    | zero => simp [topsD] at h; omega
    | succ k =>
      unfold topsD at h hr
      exact Int.le_of_lt ((List.pairwise_cons.1 hr).1 z (List.mem_of_getElem? (show (((shelvesD fs).filter (fun x => decide (y < x.1))).map (·.1))[k]? = some z by simpa using h)))
  have h2 := find_next _ _ k z hr h
  have e1 : (topsD fs y)[k + 1]? = (((shelvesD fs).filter (fun x => decide (y < x.1))).map (·.1))[k]? := by unfold topsD; simp
  rw [e1, ← h2, tops_filter]
  have e2 : (((shelvesD fs).map (·.1)).filter (fun e => decide (y < e))).find? (fun e => decide (z < e)) = ((shelvesD fs).map (·.1)).find? (fun e => decide (z < e)) := by
    rw [List.find?_filter]
    congr 1
    funext e
    by_cases q : z < e
    · simp [q]; omega
    · simp [q]
  rw [e2, List.find?_map]
  unfold afterD
  show (match (shelvesD fs).find? (fun x => decide (z < x.1)) with | some x => (x.1, true) | none => (0, false)) = match ((shelvesD fs).find? (fun x => decide (z < x.1))).map (·.1) with | some x => (x, true) | none => (0, false)
  cases (shelvesD fs).find? (fun x => decide (z < x.1)) <;> rfl

theorem stopN_is (q : Int → Bool) : ∀ (ts : List Int) (k : Nat) (z : Int), k ≤ stopN q ts → ts[k]? = some z → q z = true → stopN q ts = k
  | [], k, z, h, hz, hq => by simp at hz
  | [x], k, z, h, hz, hq => by simp [stopN] at h; rw [h]; rfl
  | x :: y :: xs, k, z, h, hz, hq => by
    unfold stopN at h ⊢
    cases k with
    | zero =>
      have e : x = z := by simpa using hz
      subst e
      rw [if_pos hq]
    | succ k =>
      by_cases g : q x = true
      · rw [if_pos g] at h; omega
      · rw [if_neg g] at h ⊢
        rw [stopN_is q (y :: xs) k z (by omega) (by simpa using hz) hq]

theorem restS_edge {fs : List Fl} : ∀ (q : Nat) (b : Int × Int) (y : Int), edge fs y → ∀ s ∈ restS fs q b y, edge fs s.1
  | 0, b, y, h, s, hs => by simp [restS] at hs
  | q + 1, b, y, h, s, hs => by
    have hl := nextF_least fs y
    have he : (nextF fs y).2 = true → edge fs (nextF fs y).1 := fun e => by unfold Least at hl; rw [if_pos e] at hl; exact hl.2.1
    unfold restS at hs
    by_cases g : (nextF fs y).2 = true
    · rw [if_pos g, if_pos g] at hs
      split at hs
      · exact restS_edge q _ _ (he g) s hs
      · rcases List.mem_cons.1 hs with e | e
        · rw [e]; exact h
        · exact restS_edge q _ _ (he g) s e
    · rw [if_neg g, if_neg g] at hs
      split at hs
      · cases hs
      · rw [List.mem_singleton.1 hs]; exact h

theorem shelvesD_edge {fs : List Fl} : ∀ s ∈ shelvesD fs, s.1 = -far ∨ edge fs s.1 := by
  intro s hs
  unfold shelvesD at hs
  rcases List.mem_cons.1 hs with e | e
  · rw [e]; exact .inl rfl
  · have hl := nextF_least fs (-far)
    split at e
    · next g =>
      unfold Least at hl
      rw [if_pos g] at hl
      exact .inr (restS_edge _ _ _ hl.2.1 s e)
    · cases e

theorem tops_in {fs : List Fl} (hs : fs.all nearF = true) {y : Int} (hy : inS y = true) : ∀ z ∈ topsD fs y, inS z = true := by
  intro z hz
  unfold topsD at hz
  rcases List.mem_cons.1 hz with e | e
  · rw [e]; exact hy
  · obtain ⟨s, h1, h2⟩ := List.mem_map.1 e
    rw [List.mem_filter] at h1
    have hlt : y < s.1 := by simpa using h1.2
    rcases shelvesD_edge s h1.1 with q | ⟨f, hf, -, q⟩
    · have := (inS_iff.1 hy).1; unfold far at q; omega
    · have hn := List.all_eq_true.1 hs f hf
      unfold nearF at hn
      simp only [List.all_cons, List.all_nil, Bool.and_true, Bool.and_eq_true] at hn
      rw [← h2]
      rcases q with q | q
      · rw [q]; exact hn.2.1
      · rw [q]; exact hn.2.2.2

theorem tops_len (fs : List Fl) (y : Int) : (topsD fs y).length ≤ 2 * fs.length + 2 := by
  unfold topsD
  have h1 := shelvesD_len fs
  have h2 := List.length_filter_le (fun x : Int × (Int × Int) => decide (y < x.1)) (shelvesD fs)
  rw [List.length_cons, List.length_map]
  omega

theorem tops_low {fs : List Fl} {y z : Int} (h : z ∈ topsD fs y) : y ≤ z := by
  unfold topsD at h
  rcases List.mem_cons.1 h with e | e
  · omega
  · obtain ⟨s, h1, h2⟩ := List.mem_map.1 e
    rw [List.mem_filter] at h1
    have : y < s.1 := by simpa using h1.2
    omega

theorem take_lt {ts : List Int} (hr : ts.Pairwise (· < ·)) {k : Nat} {z : Int} (h : ts[k]? = some z) : ∀ u ∈ ts.take k, u < z := by
  intro u hu
  obtain ⟨j, hj⟩ := List.getElem?_of_mem hu
  rw [List.getElem?_take] at hj
  split at hj
  · next g => exact rise_at hr hj h g
  · cases hj

theorem take_next {ts : List Int} {k : Nat} {z : Int} (h : ts[k]? = some z) : ts.take k ++ [z] = ts.take (k + 1) := by rw [List.take_add_one, h]; rfl

set_option maxRecDepth 100000 in
set_option maxHeartbeats 1000000 in
theorem pfirst_gen (w : World) (F : Nat → Prop) (p : Addr) (fs : List Fl) (y : Int) (f : Nat) (ca cb : Array Value) (q : Int → Bool) (R : World → List Int → Prop) (h : InP w F p fs) (hs : fs.all nearF = true) (hy : inS y = true)
    (eg : ∀ args w, (callFunc f args).run Tryz.prog w = .ok (.enter f args) w) (hR : R w []) (hk : ∀ w1 w2 pre, R w1 pre → Below w1.heap.size w1 w2 → R w2 pre)
    (hc : ∀ w1 pre z, InP w1 F p fs → R w1 pre → inS z = true → pre.length ≤ 3000 → (∀ u ∈ pre, u < z) ∧ y ≤ z → Calls Tryz.prog f (ca ++ #[.int .i64 z] ++ cb) w1 fun e w' => e = .returned (.bool (q z)) ∧ InP w' F p fs ∧ R w' (pre ++ [z])) :
    Calls Tryz.prog 74 #[.pointer (some p), .int .i64 y, .func (.func f) ca cb] w fun r w' => r = .returned (.int .i64 (atD q (topsD fs y))) ∧ InP w' F p fs ∧ R w' (askL q (topsD fs y)) := by
  have hf := h.1
  obtain ⟨sb, rfl⟩ := inP_form h
  obtain ⟨T, hT⟩ : ∃ T, topsD fs y = T := ⟨_, rfl⟩
  have hlen : T.length ≤ 3000 := by rw [← hT]; have := tops_len fs y; omega
  have hin : ∀ z ∈ T, inS z = true := by rw [← hT]; exact tops_in hs hy
  have haft : ∀ k z, T[k]? = some z → afterD fs z = match T[k + 1]? with | some x => (x, true) | none => (0, false) := by rw [← hT]; exact afterD_tops (near_of hs) y
  have hrise : T.Pairwise (· < ·) := by rw [← hT]; exact tops_rise (near_of hs) y
  have hge : ∀ z ∈ T, y ≤ z := by rw [← hT]; exact fun z hz => tops_low hz
  have HGE := Lib.hid hge
  clear hge
  have h0 : T[0]? = some y := by rw [← hT]; rfl
  rw [hT]
  have HH := Lib.hid (⟨hlen, hin, haft, hrise⟩ : T.length ≤ 3000 ∧ (∀ z ∈ T, inS z = true) ∧ (∀ k z, T[k]? = some z → afterD fs z = match T[k + 1]? with | some x => (x, true) | none => (0, false)) ∧ T.Pairwise (· < ·))
  have HC := Lib.hid hc
  have HK := Lib.hid hk
  have HS := Lib.hid hs
  have H0 := Lib.hid (⟨h, hR, h0⟩ : InP w F ⟨sb, 0, none⟩ fs ∧ R w [] ∧ T[0]? = some y)
  clear hlen hin haft hrise h0 hc hk hs h hR hT hy hf
  go_enter Tryz.func74, Tryz.ntmps74
  go_wp2_with fail
  go_loopw [1] (fun i wr => ∃ (k : Nat) (z : Int), i = .int .i64 z ∧ Hid (k ≤ stopN q T ∧ T[k]? = some z ∧ InP wr F ⟨sb, 0, none⟩ fs ∧ R wr (T.take k))) (fun i _ => (2251799813685248 - intOf i).toNat)
  case atStart => exact ⟨0, y, rfl, Lib.hid ⟨Nat.zero_le _, H0.out.2.2, H0.out.1, by simpa using H0.out.2.1⟩⟩
  case round =>
    clear H0
    obtain ⟨k, z, rfl, H⟩ := hrel
    have hzin := HH.out.2.1 z (List.mem_of_getElem? H.out.2.1)
    have hkl : k < T.length := (List.getElem?_eq_some_iff.1 H.out.2.1).1
    have hcall := HC.out wr (T.take k) z H.out.2.2.1 H.out.2.2.2 hzin (by rw [List.length_take]; have := HH.out.1; omega) ⟨take_lt HH.out.2.2.2 H.out.2.1, HGE.out z (List.mem_of_getElem? H.out.2.1)⟩
    rw [take_next H.out.2.1] at hcall
    have HZ := Lib.hid (⟨hzin, hkl⟩ : inS z = true ∧ k < T.length)
    have HF := Lib.hid (show ∀ v, q z = v → Calls Tryz.prog f (ca ++ #[.int .i64 z] ++ cb) wr fun e w' => e = .returned (.bool v) ∧ InP w' F ⟨sb, 0, none⟩ fs ∧ R w' (T.take (k + 1)) from fun v e => by rw [← e]; exact hcall)
    clear hzin hkl hcall
    have hstop : stopN q T = k → atD q T = z ∧ askL q T = T.take (k + 1) := fun e => by
      unfold atD askL
      rw [e, List.getD_eq_getElem?_getD, H.out.2.1]
      exact ⟨rfl, rfl⟩
    cases hq : q z with
    | true =>
      have hst := stopN_is q T k z H.out.1 H.out.2.1 hq
      obtain ⟨e1, e2⟩ := hstop hst
      have HV := Lib.hid (HF.out true hq)
      have HE := Lib.hid (⟨e1, e2⟩ : atD q T = z ∧ askL q T = T.take (k + 1))
      clear hst hstop e1 e2 hq
      go_wp2_with (go_at_fn f; refine HV.out.mono ?_; rintro e w1 ⟨rfl, s1, r1⟩; have N1 := Lib.hid (⟨s1, r1⟩ : InP w1 F ⟨sb, 0, none⟩ fs ∧ R w1 (T.take (k + 1))); clear s1 r1)
      go_ret
      exact ⟨by rw [HE.out.1]; rfl, N1.out.1, by rw [HE.out.2]; exact N1.out.2⟩
    | false =>
      have HV := Lib.hid (HF.out false hq)
      have haf := HH.out.2.2.1 k z H.out.2.1
      cases hx : T[k + 1]? with
      | none =>
        rw [hx] at haf
        have hst : stopN q T = k := by
          have h1 := List.getElem?_eq_none_iff.1 hx
          have h2 := stopN_lt q T (by intro e; have := HZ.out.2; rw [e] at this; simp at this)
          have := H.out.1
          omega
        obtain ⟨e1, e2⟩ := hstop hst
        have HA := Lib.hid haf
        have HE := Lib.hid (⟨e1, e2⟩ : atD q T = z ∧ askL q T = T.take (k + 1))
        clear hst hstop e1 e2 hq haf hx
        go_upto_region 2 with (go_at_fn f; refine HV.out.mono ?_; rintro e w1 ⟨rfl, s1, r1⟩; obtain ⟨pb, hp, hl⟩ := inP_list s1; have HL := Lib.hid (pafter_any w1 0 ⟨pb, 0, none⟩ fs z hl HS.out); have N1 := Lib.hid (⟨s1, r1⟩ : InP w1 F ⟨sb, 0, none⟩ fs ∧ R w1 (T.take (k + 1))); clear s1 r1 hl)
        have hl2 := HL.out
        rw [HA.out] at hl2
        have HL2 := Lib.hid hl2
        clear hl2 HL
        go_wp2_with (first
          | (go_at_call 88; refine HL2.out.mono ?_; rintro e w2 ⟨rfl, k2⟩; have N2 := Lib.hid k2; clear k2))
        go_ret
        exact ⟨by rw [HE.out.1]; rfl, inP_below N1.out.1 N2.out, by rw [HE.out.2]; exact HK.out _ _ _ N1.out.2 N2.out⟩
      | some z' =>
        rw [hx] at haf
        have hk1 : k + 1 ≤ stopN q T := by
          have h1 := H.out.1
          rcases Nat.lt_or_ge k (stopN q T) with g | g
          · exact g
          · exfalso
            have e : stopN q T = k := by omega
            rcases stopN_yes q T z (by rw [e]; exact H.out.2.1) with g2 | g2
            · rw [hq] at g2; cases g2
            · have := (List.getElem?_eq_some_iff.1 hx).1; omega
        have hlt := rise_at HH.out.2.2.2 H.out.2.1 hx (Nat.lt_succ_self k)
        have HA := Lib.hid haf
        have HX := Lib.hid (⟨hk1, hx, hlt⟩ : k + 1 ≤ stopN q T ∧ T[k + 1]? = some z' ∧ z < z')
        clear hstop hq haf hx hk1 hlt
        go_upto_region 2 with (go_at_fn f; refine HV.out.mono ?_; rintro e w1 ⟨rfl, s1, r1⟩; obtain ⟨pb, hp, hl⟩ := inP_list s1; have HL := Lib.hid (pafter_any w1 0 ⟨pb, 0, none⟩ fs z hl HS.out); have N1 := Lib.hid (⟨s1, r1⟩ : InP w1 F ⟨sb, 0, none⟩ fs ∧ R w1 (T.take (k + 1))); clear s1 r1 hl)
        have hl2 := HL.out
        rw [HA.out] at hl2
        have HL2 := Lib.hid hl2
        clear hl2 HL
        go_wp2_with (first
          | (go_at_call 88; refine HL2.out.mono ?_; rintro e w2 ⟨rfl, k2⟩; have N2 := Lib.hid k2; clear k2))
        go_roundw
        case rel => exact ⟨k + 1, z', rfl, Lib.hid ⟨HX.out.1, HX.out.2.1, inP_below N1.out.1 N2.out, HK.out _ _ _ N1.out.2 N2.out⟩⟩
        case measure =>
          have h1 := (inS_iff.1 HZ.out.1).2
          have h2 := HX.out.2.2
          simp [intOf]
          omega

theorem pfirst_of (w : World) (F : Nat → Prop) (p : Addr) (fs : List Fl) (y : Int) (f : Nat) (cb : Array Value) (q : Int → Bool) (R : World → List Int → Prop) (h : InP w F p fs) (hs : fs.all nearF = true) (hy : inS y = true)
    (eg : ∀ args w, (callFunc f args).run Tryz.prog w = .ok (.enter f args) w) (hR : R w []) (hk : ∀ w1 w2 pre, R w1 pre → Below w1.heap.size w1 w2 → R w2 pre)
    (hc : ∀ w1 pre z, InP w1 F p fs → R w1 pre → inS z = true → pre.length ≤ 3000 → Calls Tryz.prog f (#[.int .i64 z] ++ cb) w1 fun e w' => e = .returned (.bool (q z)) ∧ InP w' F p fs ∧ R w' (pre ++ [z])) :
    Calls Tryz.prog 74 #[.pointer (some p), .int .i64 y, .func (.func f) #[] cb] w fun r w' => r = .returned (.int .i64 (atD q (topsD fs y))) ∧ InP w' F p fs ∧ R w' (askL q (topsD fs y)) := by
  refine pfirst_gen w F p fs y f #[] cb q R h hs hy eg hR hk fun w1 pre z a b c d _ => ?_
  rw [show (#[] ++ #[.int .i64 z] ++ cb : Array Value) = #[.int .i64 z] ++ cb by simp]
  exact hc w1 pre z a b c d

theorem pfirst_val (w : World) (F : Nat → Prop) (p : Addr) (fs : List Fl) (y : Int) (f : Nat) (a : Value) (q : Int → Bool) (R : World → List Int → Prop) (h : InP w F p fs) (hs : fs.all nearF = true) (hy : inS y = true)
    (eg : ∀ args w, (callFunc f args).run Tryz.prog w = .ok (.enter f args) w) (hR : R w []) (hk : ∀ w1 w2 pre, R w1 pre → Below w1.heap.size w1 w2 → R w2 pre)
    (hc : ∀ w1 pre z, InP w1 F p fs → R w1 pre → inS z = true → pre.length ≤ 3000 → Calls Tryz.prog f #[a, .int .i64 z] w1 fun e w' => e = .returned (.bool (q z)) ∧ InP w' F p fs ∧ R w' (pre ++ [z])) :
    Calls Tryz.prog 74 #[.pointer (some p), .int .i64 y, .func (.func f) #[a] #[]] w fun r w' => r = .returned (.int .i64 (atD q (topsD fs y))) ∧ InP w' F p fs ∧ R w' (askL q (topsD fs y)) := by
  refine pfirst_gen w F p fs y f #[a] #[] q R h hs hy eg hR hk fun w1 pre z a1 b c d _ => ?_
  rw [show (#[a] ++ #[.int .i64 z] ++ #[] : Array Value) = #[a, .int .i64 z] by simp]
  exact hc w1 pre z a1 b c d

theorem spaceOk : SpaceOk InP where
  keep := fun w w' F G p fs h k hG => inP_keep h k hG
  lt := fun w F p fs h => inP_lt h
  new := pnew_any
  put := fun w F p fs f h hl hs hf hsd => pput_any w F p fs f h hl hs hf hsd
  last := fun w F p fs h hs => plast_any w F p fs h
  bottom := fun w F p fs c h hs hc => pbottom_any w F p fs c h hc
  clear := fun w F p fs c y h hs hc => pclear_any w F p fs c y h hc
  floats := fun w F p fs h hs => pfloats_any w F p fs h
  rows := fun y h w hy hh => prows_any y h w hy hh
  bounds := fun w F p fs a z h hs ha hz => pbounds_any w F p fs a z h hs ha hz
  free := fun w F p fs x y a z h hs ha hz => pfree_any w F p fs x y a z h hs ha hz
  first := fun w F p fs y f cb q R h hs hy eg hR hk hc => pfirst_of w F p fs y f cb q R h hs hy eg hR hk hc
  firstV := fun w F p fs y f a q R h hs hy eg hR hk hc => pfirst_val w F p fs y f a q R h hs hy eg hR hk hc
  firstG := fun w F p fs y f ca cb q R h hs hy eg hR hk hc => pfirst_gen w F p fs y f ca cb q R h hs hy eg hR hk hc

end Go.Proofs.YtdibdfalahjmbaaGreat.Space
