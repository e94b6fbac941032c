/- The contract of First; all contracts of the program's spaces at once. -/
import Derived.Test.YtfomhdhiibcdfaaGreatPart48
import Derived.Test.YtfomhdhiibcdfaaGreatPart49
namespace Go.Proofs.YtfomhdhiibcdfaaGreat.Space
open Go.RowKit Go.Sort Go.Proofs.YtfomhdhiibcdfaaGreat.Rect Go.Proofs.YtfomhdhiibcdfaaGreat.More Go.Proofs.YtfomhdhiibcdfaaGreat.Shelf
set_option linter.unusedVariables false
set_option linter.unusedSimpArgs false

theorem pput_any (w : World) (F : Nat → Prop) (p : Addr) (fs : List Fl) (f : Fl) (h : InP w F p fs) (hlen : fs.length < 1000) (hs : fs.all nearF = true) (hf : nearF f = true) (hsd : f.s = 1 ∨ f.s = 2) :
    Calls Tryz.prog 35 #[.pointer (some p), .int .i64 f.s, .agg #[.int .i64 f.l, .int .i64 f.t, .int .i64 f.r, .int .i64 f.b]] w fun r w' => (∃ v, r = .returned v) ∧ (∃ F', InP w' F' p (fs ++ [f]) ∧ ∀ k, F' k → F k ∨ w.heap.size ≤ k) ∧ But F w w' := by
  obtain ⟨hf1, sb, pb, g, n, c, A, cA, rfl, rfl, hsp⟩ := h
  have key : ∀ r w', ((∃ v, r = Ending.returned v) ∧ (∃ g' n' c' A' cA', Spc w' sb pb g' n' c' A' cA' (fs ++ [f]) ∧ (g' = g ∨ w.heap.size ≤ g') ∧ (∀ k, blk A' = some k → blk A = some k ∨ w.heap.size ≤ k)) ∧ But (spaceB sb pb g A) w w') →
      (∃ v, r = Ending.returned v) ∧ (∃ F', InP w' F' ⟨sb, 0, none⟩ (fs ++ [f]) ∧ ∀ k, F' k → spaceB sb pb g A k ∨ w.heap.size ≤ k) ∧ But (spaceB sb pb g A) w w' := by
    rintro r w' ⟨hv, ⟨g', n', c', A', cA', q1, q2, q3⟩, hb⟩
    refine ⟨hv, ⟨spaceB sb pb g' A', ⟨by rw [List.length_append]; simp; omega, sb, pb, g', n', c', A', cA', rfl, rfl, q1⟩, ?_⟩, hb⟩
    rintro k (e | e | e | e)
    · exact .inl (.inl e)
    · exact .inl (.inr (.inl e))
    · rcases q2 with q | q
      · exact .inl (.inr (.inr (.inl (by omega))))
      · exact .inr (by omega)
    · exact (q3 k e).elim (fun q => .inl (.inr (.inr (.inr q)))) .inr
  rcases hsd with e | e
  · have := (pput_left w sb pb g n c A cA fs f hsp hlen hs hf e).mono key
    rw [← e] at this
    exact this
  · have := (pput_right w sb pb g n c A cA fs f hsp hlen hs hf e).mono key
    rw [← e] at this
    exact this

/-! Where something is first so, asked from top to top. -/

theorem find_next : ∀ (U : List Int) (y : Int) (k : Nat) (z : Int), (y :: U).Pairwise (· < ·) → (y :: U)[k]? = some z → U.find? (fun e => decide (z < e)) = U[k]?
  | U, y, 0, z, hr, hz => by
    have e : y = z := by simpa using hz
    subst e
    cases U with
    | nil => rfl
    | cons u U =>
      have := (List.pairwise_cons.1 hr).1 u (List.mem_cons_self ..)
      simp [this]
  | [], y, k + 1, z, hr, hz => by simp at hz
  | u :: U, y, k + 1, z, hr, hz => by
    have hr2 := (List.pairwise_cons.1 hr).2
    have hz2 : (u :: U)[k]? = some z := by simpa using hz
    have hle : u ≤ z := by
      cases k with
      | zero => simp at hz2; omega
      | succ k => exact Int.le_of_lt ((List.pairwise_cons.1 hr2).1 z (List.mem_of_getElem? (show U[k]? = some z by simpa using hz2)))
    rw [List.find?_cons, show decide (z < u) = false by simp; omega, find_next U u k z hr2 hz2]
    simp

theorem afterD_tops {fs : List Fl} (hn : Near fs) (y : Int) (k : Nat) (z : Int) (h : (topsD fs y)[k]? = some z) : afterD fs z = match (topsD fs y)[k + 1]? with | some x => (x, true) | none => (0, false) := by
  have hr := tops_rise hn y
  have hyz : y ≤ z := by
    cases k with
    | zero => simp [topsD] at h; omega
    | succ k =>
      unfold topsD at h hr
      exact Int.le_of_lt ((List.pairwise_cons.1 hr).1 z (List.mem_of_getElem? (show (((shelvesD fs).filter (fun x => decide (y < x.1))).map (·.1))[k]? = some z by simpa using h)))
  have h2 := find_next _ _ k z hr h
  have e1 : (topsD fs y)[k + 1]? = (((shelvesD fs).filter (fun x => decide (y < x.1))).map (·.1))[k]? := by unfold topsD; simp
  rw [e1, ← h2, tops_filter]
  have e2 : (((shelvesD fs).map (·.1)).filter (fun e => decide (y < e))).find? (fun e => decide (z < e)) = ((shelvesD fs).map (·.1)).find? (fun e => decide (z < e)) := by
    rw [List.find?_filter]
    congr 1
    funext e
    by_cases q : z < e
    · simp [q]; omega
    · simp [q]
  rw [e2, List.find?_map]
  unfold afterD
  show (match (shelvesD fs).find? (fun x => decide (z < x.1)) with | some x => (x.1, true) | none => (0, false)) = match ((shelvesD fs).find? (fun x => decide (z < x.1))).map (·.1) with | some x => (x, true) | none => (0, false)
  cases (shelvesD fs).find? (fun x => decide (z < x.1)) <;> rfl

theorem stopN_is (q : Int → Bool) : ∀ (ts : List Int) (k : Nat) (z : Int), k ≤ stopN q ts → ts[k]? = some z → q z = true → stopN q ts = k
  | [], k, z, h, hz, hq => by simp at hz
  | [x], k, z, h, hz, hq => by simp [stopN] at h; rw [h]; rfl
  | x :: y :: xs, k, z, h, hz, hq => by
    unfold stopN at h ⊢
    cases k with
    | zero =>
      have e : x = z := by simpa using hz
      subst e
      rw [if_pos hq]
    | succ k =>
      by_cases g : q x = true
      · rw [if_pos g] at h; omega
      · rw [if_neg g] at h ⊢
        rw [stopN_is q (y :: xs) k z (by omega) (by simpa using hz) hq]

theorem restS_edge {fs : List Fl} : ∀ (q : Nat) (b : Int × Int) (y : Int), edge fs y → ∀ s ∈ restS fs q b y, edge fs s.1
  | 0, b, y, h, s, hs => by simp [restS] at hs
  | q + 1, b, y, h, s, hs => by
    have hl := nextF_least fs y
    have he : (nextF fs y).2 = true → edge fs (nextF fs y).1 := fun e => by unfold Least at hl; rw [if_pos e] at hl; exact hl.2.1
    unfold restS at hs
    by_cases g : (nextF fs y).2 = true
    · rw [if_pos g, if_pos g] at hs
      split at hs
      · exact restS_edge q _ _ (he g) s hs
      · rcases List.mem_cons.1 hs with e | e
        · rw [e]; exact h
        · exact restS_edge q _ _ (he g) s e
    · rw [if_neg g, if_neg g] at hs
      split at hs
      · cases hs
      · rw [List.mem_singleton.1 hs]; exact h

theorem shelvesD_edge {fs : List Fl} : ∀ s ∈ shelvesD fs, s.1 = -far ∨ edge fs s.1 := by
  intro s hs
  unfold shelvesD at hs
  rcases List.mem_cons.1 hs with e | e
  · rw [e]; exact .inl rfl
  · have hl := nextF_least fs (-far)
    split at e
    · next g =>
      unfold Least at hl
      rw [if_pos g] at hl
      exact .inr (restS_edge _ _ _ hl.2.1 s e)
    · cases e

theorem tops_in {fs : List Fl} (hs : fs.all nearF = true) {y : Int} (hy : inS y = true) : ∀ z ∈ topsD fs y, inS z = true := by
  intro z hz
  unfold topsD at hz
  rcases List.mem_cons.1 hz with e | e
  · rw [e]; exact hy
  · obtain ⟨s, h1, h2⟩ := List.mem_map.1 e
    rw [List.mem_filter] at h1
    have hlt : y < s.1 := by simpa using h1.2
    rcases shelvesD_edge s h1.1 with q | ⟨f, hf, -, q⟩
    · have := (inS_iff.1 hy).1; unfold far at q; omega
    · have hn := List.all_eq_true.1 hs f hf
      unfold nearF at hn
      simp only [List.all_cons, List.all_nil, Bool.and_true, Bool.and_eq_true] at hn
      rw [← h2]
      rcases q with q | q
      · rw [q]; exact hn.2.1
      · rw [q]; exact hn.2.2.2

theorem tops_len (fs : List Fl) (y : Int) : (topsD fs y).length ≤ 2 * fs.length + 2 := by
  unfold topsD
  have h1 := shelvesD_len fs
  have h2 := List.length_filter_le (fun x : Int × (Int × Int) => decide (y < x.1)) (shelvesD fs)
  rw [List.length_cons, List.length_map]
  omega

theorem tops_low {fs : List Fl} {y z : Int} (h : z ∈ topsD fs y) : y ≤ z := by
  unfold topsD at h
  rcases List.mem_cons.1 h with e | e
  · omega
  · obtain ⟨s, h1, h2⟩ := List.mem_map.1 e
    rw [List.mem_filter] at h1
    have : y < s.1 := by simpa using h1.2
    omega

/-- Who has been asked before is higher up. -/
theorem take_lt {ts : List Int} (hr : ts.Pairwise (· < ·)) {k : Nat} {z : Int} (h : ts[k]? = some z) : ∀ u ∈ ts.take k, u < z := by
  intro u hu
  obtain ⟨j, hj⟩ := List.getElem?_of_mem hu
  rw [List.getElem?_take] at hj
  split at hj
  · next g => exact rise_at hr hj h g
  · cases hj

theorem take_next {ts : List Int} {k : Nat} {z : Int} (h : ts[k]? = some z) : ts.take k ++ [z] = ts.take (k + 1) := by rw [List.take_add_one, h]; rfl

/-- What the program's spaces answer. -/
theorem spaceOk : SpaceOk InP where
  keep := fun w w' F G p fs h k hG => inP_keep h k hG
  lt := fun w F p fs h => inP_lt h
  new := pnew_any
  put := fun w F p fs f h hl hs hf hsd => pput_any w F p fs f h hl hs hf hsd
  bottom := fun w F p fs c h hs hc => pbottom_any w F p fs c h hc
  floats := fun w F p fs h hs => pfloats_any w F p fs h

end Go.Proofs.YtfomhdhiibcdfaaGreat.Space
