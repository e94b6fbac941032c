/- The contract of Put: its walks. -/
import Derived.Test.YtfomhdhiibcdfaaGreatPart47
import Derived.Test.YtfomhdhiibcdfaaGreatPart27
namespace Go.Proofs.YtfomhdhiibcdfaaGreat.Space
open Go.RowKit Go.Sort Go.Proofs.YtfomhdhiibcdfaaGreat.Rect Go.Proofs.YtfomhdhiibcdfaaGreat.More Go.Proofs.YtfomhdhiibcdfaaGreat.Shelf
set_option linter.unusedVariables false
set_option linter.unusedSimpArgs false

set_option maxRecDepth 100000 in
set_option maxHeartbeats 1000000 in
theorem pput_left (w : World) (sb pb g n c : Nat) (A : Option Addr) (cA : Nat) (fs : List Fl) (f : Fl) (h : Spc w sb pb g n c A cA fs) (hlen : fs.length < 1000) (hs : fs.all nearF = true) (hf : nearF f = true) (hsd : f.s = 1) :
    Calls Tryz.prog 35 #[.pointer (some ⟨sb, 0, none⟩), .int .i64 1, .agg #[.int .i64 f.l, .int .i64 f.t, .int .i64 f.r, .int .i64 f.b]] w fun r w' => (∃ v, r = .returned v) ∧ (∃ g' n' c' A' cA', Spc w' sb pb g' n' c' A' cA' (fs ++ [f]) ∧ (g' = g ∨ w.heap.size ≤ g') ∧ (∀ k, blk A' = some k → blk A = some k ∨ w.heap.size ≤ k)) ∧ But (spaceB sb pb g A) w w' := by
  have hlt := h.lt
  have HL := Lib.hid h
  have HLT := Lib.hid hlt
  have hadd : ∀ w1, Below w.heap.size w w1 → _ := fun w1 k => padd_but w1 0 pb g n c fs f (h.lst.below k) (Nat.zero_le _) hlen hs hf
  rw [hsd] at hadd
  have HADD := Lib.hid hadd
  have HN := Lib.hid hlen
  have c0 : w.cell? ⟨sb, 0, none⟩ = some (.pointer (some ⟨pb, 0, none⟩)) := h.row.at' 0
  have hsb : sb < w.heap.size := hlt sb (.inl rfl)
  have HSB := Lib.hid hsb
  have HC0 := Lib.hid c0
  have HSD := Lib.hid hsd
  clear h hadd hlen hs hf hlt hsd
  go_enter Tryz.func35, Tryz.ntmps35
  go_upto_region 2 with fail
  generalize hW : World.alloc w _ = W
  obtain ⟨rb, hrb⟩ : ∃ rb, w.heap.size = rb := ⟨_, rfl⟩
  have hkW : Below w.heap.size w W := by rw [← hW]; exact ba1 _ _
  have e0 : W.cell? ⟨rb, 0, none⟩ = some (.int .i64 f.l) := by rw [← hW, ← hrb]; simp [go_sem]
  have e1 : W.cell? ⟨rb, 1, none⟩ = some (.int .i64 f.t) := by rw [← hW, ← hrb]; simp [go_sem]
  have e2 : W.cell? ⟨rb, 2, none⟩ = some (.int .i64 f.r) := by rw [← hW, ← hrb]; simp [go_sem]
  have e3 : W.cell? ⟨rb, 3, none⟩ = some (.int .i64 f.b) := by rw [← hW, ← hrb]; simp [go_sem]
  rw [hrb]
  have KW := Lib.hid hkW
  have hrl : rb < W.heap.size := block_lt_of_cell e0
  have HRL := Lib.hid hrl
  have HRB := Lib.hid hrb
  have HE := Lib.hid (⟨e0, e1, e2, e3⟩ : W.cell? ⟨rb, 0, none⟩ = some (.int .i64 f.l) ∧ W.cell? ⟨rb, 1, none⟩ = some (.int .i64 f.t) ∧ W.cell? ⟨rb, 2, none⟩ = some (.int .i64 f.r) ∧ W.cell? ⟨rb, 3, none⟩ = some (.int .i64 f.b))
  clear hW hkW hrb e0 e1 e2 e3 hrl c0 hsb
  refine Hold.wp_region_hold [.val (.pointer (some ⟨sb, 0, none⟩)), .val (.pointer (some ⟨sb, 0, none⟩)), .val (.pointer (some ⟨sb, 0, none⟩)), .val (.pointer (some ⟨pb, 0, none⟩)), .val (.int .i64 1), .val (.agg #[.int .i64 f.l, .int .i64 f.t, .int .i64 f.r, .int .i64 f.b])] (by kernel_rfl) (by kernel_rfl) (by kernel_rfl) ?_ ?_
  · simp only [Hold.fill, Hold.Leave.value]
    refine ⟨?_, ?_, ?_, ?_, ?_, ?_, trivial⟩
    · intro gg w' hw hk
      go_simp
      exact ⟨rfl, rfl⟩
    · intro gg w' hw hk
      go_simp
      exact ⟨rfl, rfl⟩
    · intro gg w' hw hk
      go_simp
      exact ⟨rfl, rfl⟩
    · intro gg w' hw hk
      have q0 := ((thru KW.out hw).cell (p := ⟨sb, 0, none⟩) HSB.out).trans HC0.out
      go_simp
      exact ⟨rfl, rfl⟩
    · intro gg w' hw hk
      go_simp
      exact ⟨rfl, rfl⟩
    · intro gg w' hw hk
      have q0 := (hw.cell (p := ⟨rb, 0, none⟩) HRL.out).trans HE.out.1
      have q1 := (hw.cell (p := ⟨rb, 1, none⟩) HRL.out).trans HE.out.2.1
      have q2 := (hw.cell (p := ⟨rb, 2, none⟩) HRL.out).trans HE.out.2.2.1
      have q3 := (hw.cell (p := ⟨rb, 3, none⟩) HRL.out).trans HE.out.2.2.2
      go_simp
      exact ⟨rfl, rfl⟩
  intro gg w2 k2 hgg
  clear hgg
  simp only [Hold.fill, Hold.Leave.value, List.length_cons, List.length_nil, List.drop_succ_cons, List.drop_zero]
  have K2 := Lib.hid k2
  clear k2
  go_upto_region 3 with (first
    | (go_at_call 54; refine (HADD.out _ (thru KW.out K2.out)).mono ?_; rintro e w3 ⟨⟨v, rfl⟩, ⟨g', n', c', hl3, hg3⟩, hb3⟩; have H3 := Lib.hid (⟨hl3, hg3, hb3⟩ : Lst w3 0 pb g' n' c' (shelvesD (fs ++ [f])) ∧ (g' = g ∨ w2.heap.size ≤ g') ∧ But (two g pb) w2 w3); clear hl3 hg3 hb3))
  have kw2 := thru KW.out K2.out
  have hsz : w.heap.size ≤ w2.heap.size := kw2.size
  have hl2 := HL.out.but (But.of_below (S := fun _ => False) kw2) (fun _ _ q => q)
  have hown : MineE encF 84 w3 0 A fs.length cA fs := mineE_but hl2.own H3.out.2.2 (fun j e q => by rcases q with q | q; exact (HL.out.n3 j e).2.2 q; exact (HL.out.n3 j e).2.1 q)
  have hrow : RowAt w3 sb (spaceRow pb A fs.length cA fs) := hl2.row.but (by simp) H3.out.2.2 (fun q => by rcases q with q | q; exact HL.out.n2 q; exact HL.out.n1 q)
  have hrb2 : ¬ (two g pb) rb := by
    rintro (q | q)
    · have := HLT.out g (.inr (.inr (.inl rfl))); have := HRB.out; omega
    · have := HLT.out pb (.inr (.inl rfl)); have := HRB.out; omega
  have hrl2 : rb < w2.heap.size := Nat.lt_of_lt_of_le HRL.out K2.out.size
  have hbox : ∀ j, w3.cell? ⟨rb, j, none⟩ = W.cell? ⟨rb, j, none⟩ := fun j => (H3.out.2.2.cell hrl2 hrb2).trans (K2.out.cell (p := ⟨rb, j, none⟩) HRL.out)
  have d0 := (hbox 0).trans HE.out.1
  have d1 := (hbox 1).trans HE.out.2.1
  have d2 := (hbox 2).trans HE.out.2.2.1
  have d3 := (hbox 3).trans HE.out.2.2.2
  have HD := Lib.hid (⟨d0, d1, d2, d3⟩ : w3.cell? ⟨rb, 0, none⟩ = some (.int .i64 f.l) ∧ w3.cell? ⟨rb, 1, none⟩ = some (.int .i64 f.t) ∧ w3.cell? ⟨rb, 2, none⟩ = some (.int .i64 f.r) ∧ w3.cell? ⟨rb, 3, none⟩ = some (.int .i64 f.b))
  have HO := Lib.hid (⟨hown, hrow⟩ : MineE encF 84 w3 0 A fs.length cA fs ∧ RowAt w3 sb (spaceRow pb A fs.length cA fs))
  have hbut3 : But (spaceB sb pb g A) w w3 := (But.of_below kw2).trans H3.out.2.2 (fun j _ q => by rcases q with q | q; exact .inr (.inr (.inl q)); exact .inr (.inl q))
  have HB3 := Lib.hid hbut3
  have hg3 : g' = g ∨ w.heap.size ≤ g' := H3.out.2.1.elim .inl fun e => .inr (by omega)
  have hgl3 : g' < w3.heap.size := H3.out.1.glt.2
  have HG3 := Lib.hid (⟨hg3, hgl3⟩ : (g' = g ∨ w.heap.size ≤ g') ∧ g' < w3.heap.size)
  have hw3 : w.heap.size ≤ w3.heap.size := hbut3.size
  have HW3 := Lib.hid hw3
  have L3 := Lib.hid H3.out.1
  have HNG := Lib.hid (show ∀ k, blk A = some k → k ≠ g' from fun k e => by
    have q1 := (HL.out.n3 k e).2.2
    have q2 := HLT.out k (.inr (.inr (.inr e)))
    rcases hg3 with q | q <;> omega)
  have HSG := Lib.hid (show sb ≠ g' by
    have q1 := HL.out.n2
    have q2 := HSB.out
    rcases hg3 with q | q <;> omega)
  have hrl3 : rb < w3.heap.size := block_lt_of_cell d0
  have HRL3 := Lib.hid hrl3
  have HRS := Lib.hid (show rb ≠ sb by have := HRB.out; have := HSB.out; omega)
  have HRA := Lib.hid (show ∀ k, blk A = some k → rb ≠ k from fun k e => by
    have q2 := HLT.out k (.inr (.inr (.inr e)))
    have := HRB.out
    omega)
  clear kw2 hsz hl2 hown hrow hrb2 hrl2 hbox d0 d1 d2 d3 hbut3 hg3 hgl3 hw3 H3 hrl3
  refine wp_region_told_first [.val (.pointer (some ⟨sb, 0, none⟩)), .val (.pointer (some ⟨sb, 0, none⟩)), .val (.pointer (some ⟨sb, 0, none⟩)), .val (.pointer (some ⟨sb, 1, none⟩)), .val (.slice A fs.length cA), .val (.int .i64 1), .val (.agg #[.int .i64 f.l, .int .i64 f.t, .int .i64 f.r, .int .i64 f.b]), .val (.agg #[.int .i64 1, .int .i64 f.l, .int .i64 f.t, .int .i64 f.r, .int .i64 f.b]), .row (.cells #[.int .i64 1, .int .i64 f.l, .int .i64 f.t, .int .i64 f.r, .int .i64 f.b] 84) 1 1] (by kernel_rfl) (by kernel_rfl) (by kernel_rfl) (v0 := .pointer (some ⟨sb, 0, none⟩)) rfl rfl (by kernel_rfl) (by kernel_rfl) (.inl ⟨rfl, fun w => by go_simp⟩) (fun _ _ _ h => h) ?_ ?_
  · simp only [Told.fill, Told.Leave.value]
    refine ⟨?_, ?_, ?_, ?_, ?_, ?_, ?_, ?_, ?_, trivial⟩
    · intro gg w' hw hk
      go_simp
      exact ⟨rfl, rfl⟩
    · intro gg w' hw hk
      go_simp
      exact ⟨rfl, rfl⟩
    · intro gg w' hw hk
      go_simp
      exact ⟨rfl, rfl⟩
    · intro gg w' hw hk
      go_simp
      exact ⟨rfl, rfl⟩
    · intro gg w' hw hk
      have q0 : w'.cell? ⟨sb, 1, none⟩ = some (.slice A fs.length cA) := (HO.out.2.below (by simp) hw).at' 1
      go_simp
      exact ⟨rfl, rfl⟩
    · intro gg w' hw hk
      go_simp
      exact ⟨rfl, rfl⟩
    · intro gg w' hw hk
      have q0 := (hw.cell (p := ⟨rb, 0, none⟩) HRL3.out).trans HD.out.1
      have q1 := (hw.cell (p := ⟨rb, 1, none⟩) HRL3.out).trans HD.out.2.1
      have q2 := (hw.cell (p := ⟨rb, 2, none⟩) HRL3.out).trans HD.out.2.2.1
      have q3 := (hw.cell (p := ⟨rb, 3, none⟩) HRL3.out).trans HD.out.2.2.2
      go_simp
      exact ⟨rfl, rfl⟩
    · intro gg w' hw hk
      go_simp
      exact ⟨rfl, rfl⟩
    · intro gg w' hw hk
      go_simp
  intro gg4 w4 k4 hbox hap
  obtain ⟨g4, h4⟩ := hbox 8 _ _ rfl rfl
  clear hbox hap
  simp only [Told.fill, Told.Leave.value, List.length_cons, List.length_nil, List.drop_succ_cons, List.drop_zero]
  generalize gg4 8 = r at g4 h4 ⊢
  have K4 := Lib.hid k4
  have O4 := Lib.hid (⟨HO.out.1.below k4, HO.out.2.below (by simp) k4, L3.out.below k4⟩ : MineE encF 84 w4 0 A fs.length cA fs ∧ RowAt w4 sb (spaceRow pb A fs.length cA fs) ∧ Lst w4 0 pb g' n' c' (shelvesD (fs ++ [f])))
  have hsrc : SrcE encF w4 (some ⟨r, 0, none⟩) 1 1 [f] := srcE_of encF w4 f 84 r (by rw [h4]; simp [encF, cellsFl, HSD.out])
  have HS4 := Lib.hid hsrc
  clear h4 g4 k4 hsrc
  have hns : ∀ k, blk A = some k → k ≠ sb := fun k e => (HL.out.n3 k e).1
  have HNS := Lib.hid hns
  clear hns
  go_simp
  go_upto_region 4 with (first
    | (at_builtin; refine wpList_append_E (bytes := 40) (by omega) infoPF _ rfl _ _ rfl 0 A fs.length cA fs rfl O4.out.1 (some ⟨r, 0, none⟩) 1 1 [f] rfl HS4.out (by have := HN.out; omega) (Nat.zero_le _) ?_; intro A' cA' w5 hA; have hcl := hA.2.1.cell (show w4.cell? ⟨sb, 1, none⟩ = some (.slice A fs.length cA) from O4.out.2.1.at' 1) (by intro e; exact HNS.out sb (by first | exact e | exact e.symm) rfl); have hfz := (hA.2.1.frozen_far ⟨sb, 1, none⟩ (O4.out.2.1.lt (by simp)) (by intro e; exact HNS.out sb (by first | exact e | exact e.symm) rfl)).trans (O4.out.2.1.frz 1); have HA := Lib.hid hA; clear hA))
  have hlen2 : (fs ++ [f]).length = fs.length + 1 := by simp
  obtain ⟨Z, hZ⟩ : ∃ Z, World.setCell w5 ⟨sb, 1, none⟩ (.slice A' (fs.length + 1) cA') = Z := ⟨_, rfl⟩
  rw [hZ]
  have hg5 := but_grown HA.out.2.1
  have hA' : ∀ k, blk A' = some k → blk A = some k ∨ w4.heap.size ≤ k := fun k e => by
    rcases HA.out.2.2 with q | q
    · rw [q] at e; exact .inl e
    · rw [q] at e; injection e with e; exact .inr (by omega)
  have hw4 : w3.heap.size ≤ w4.heap.size := K4.out.size
  have hset : But (fun k => k = sb) w5 Z := by rw [← hZ]; exact But.set (S := fun k => k = sb) sb 1 _ rfl
  have hsb4 : sb < w4.heap.size := O4.out.2.1.lt (by simp)
  have hnA : ∀ k, blk A' = some k → k ≠ sb := fun k e => by
    rcases hA' k e with q | q
    · exact HNS.out k q
    · omega
  have hr5 : RowAt w5 sb (spaceRow pb A fs.length cA fs) := O4.out.2.1.but (by simp) hg5 (fun q => HNS.out sb q rfl)
  have hrowZ : RowAt Z sb (spaceRow pb A' (fs.length + 1) cA' fs) := by
    rw [← hZ]
    exact hr5.set 1 (.slice A' (fs.length + 1) cA') (by simp)
  have hrb4 : rb < w4.heap.size := Nat.lt_of_lt_of_le HRL3.out hw4
  have hrb5 : rb < w5.heap.size := Nat.lt_of_lt_of_le hrb4 hg5.size
  have hcr : ∀ j, Z.cell? ⟨rb, j, none⟩ = w3.cell? ⟨rb, j, none⟩ := fun j => (hset.cell hrb5 HRS.out).trans ((hg5.cell hrb4 (fun q => HRA.out rb q rfl)).trans (K4.out.cell (p := ⟨rb, j, none⟩) HRL3.out))
  have hrest : Rest w Z sb rb pb g' n' c' A' cA' (fs ++ [f]) (spaceB sb pb g A) f.t f.b := by
    refine ⟨?_, ?_, HL.out.n1, HSG.out, fun k e => ⟨hnA k e, ?_, ?_⟩, ?_, (hcr 1).trans HD.out.2.1, (hcr 3).trans HD.out.2.2.2, HRS.out⟩
    · exact lst_but (lst_but O4.out.2.2 hg5 (fun q => (HL.out.n3 pb q).2.1 rfl) (fun q => HNG.out g' q rfl)) hset (fun q => HL.out.n1 q.symm) (fun q => HSG.out q.symm)
    · rw [hlen2]
      exact mineE_but HA.out.1 hset (fun j e q => hnA j e q)
    · rcases hA' k e with q | q
      · exact (HL.out.n3 k q).2.1
      · have := HLT.out pb (.inr (.inl rfl)); have := HW3.out; omega
    · rcases hA' k e with q | q
      · exact HNG.out k q
      · have := HG3.out.2; omega
    · refine ((HB3.out.trans (But.of_below (S := fun _ => False) K4.out) (fun _ _ q => q.elim)).trans hg5 (fun j _ q => .inr (.inr (.inr q)))).trans hset (fun j _ q => .inl q)
  have hAw : ∀ k, blk A' = some k → blk A = some k ∨ w.heap.size ≤ k := fun k e => by
    rcases hA' k e with q | q
    · exact .inl q
    · have := HW3.out; exact .inr (by omega)
  have HR := Lib.hid (⟨hrest, hrowZ⟩ : Rest w Z sb rb pb g' n' c' A' cA' (fs ++ [f]) (spaceB sb pb g A) f.t f.b ∧ RowAt Z sb (spaceRow pb A' (fs.length + 1) cA' fs))
  have HAW := Lib.hid hAw
  clear hZ hg5 hA' hw4 hset hsb4 hnA hr5 hrowZ hrb4 hrb5 hcr hrest hAw hcl hfz hlen2
  refine Hold.wp_region_hold [.val (.pointer (some ⟨sb, 0, none⟩)), .val (.pointer (some ⟨sb, 0, none⟩)), .val (.pointer (some ⟨sb, 2, none⟩)), .val (.pointer (some ⟨rb, 1, none⟩)), .val (.int .i64 f.t)] (by kernel_rfl) (by kernel_rfl) (by kernel_rfl) ?_ ?_
  · simp only [Hold.fill, Hold.Leave.value]
    refine ⟨?_, ?_, ?_, ?_, ?_, trivial⟩
    · intro gg w' hw hk
      go_simp
      exact ⟨rfl, rfl⟩
    · intro gg w' hw hk
      go_simp
      exact ⟨rfl, rfl⟩
    · intro gg w' hw hk
      go_simp
      exact ⟨rfl, rfl⟩
    · intro gg w' hw hk
      go_simp
      exact ⟨rfl, rfl⟩
    · intro gg w' hw hk
      have q0 := (HR.out.1.below hw).c1
      go_simp
      exact ⟨rfl, rfl⟩
  intro gq4 x4 kq4 hgq4
  clear hgq4
  simp only [Hold.fill, Hold.Leave.value, List.length_cons, List.length_nil, List.drop_succ_cons, List.drop_zero]
  have P4 := Lib.hid (⟨HR.out.1.below kq4, HR.out.2.below (by simp) kq4⟩ : Rest w x4 sb rb pb g' n' c' A' cA' (fs ++ [f]) (spaceB sb pb g A) f.t f.b ∧ RowAt x4 sb _)
  clear kq4
  go_upto_region 5 with (first
    | (go_at_call 55; refine (low_add sb 2 (lastD fs) f.t (decide (0 < fs.length)) _ _ P4.out.2 rfl rfl).mono ?_; rintro e y4 ⟨⟨v4, rfl⟩, r4, b4⟩; have N4 := Lib.hid (⟨P4.out.1.low b4 (.inl rfl), r4⟩ : Rest w y4 sb rb pb g' n' c' A' cA' (fs ++ [f]) (spaceB sb pb g A) f.t f.b ∧ RowAt y4 sb _); clear r4 b4))
  refine Hold.wp_region_hold [.val (.pointer (some ⟨sb, 0, none⟩)), .val (.int .i64 1), .val (.pointer (some ⟨sb, 0, none⟩)), .val (.pointer (some ⟨sb, 4, none⟩)), .val (.pointer (some ⟨sb, 6, none⟩)), .val (.pointer (some ⟨rb, 3, none⟩)), .val (.int .i64 f.b)] (by kernel_rfl) (by kernel_rfl) (by kernel_rfl) ?_ ?_
  · simp only [Hold.fill, Hold.Leave.value]
    refine ⟨?_, ?_, ?_, ?_, ?_, ?_, ?_, trivial⟩
    · intro gg w' hw hk
      go_simp
      exact ⟨rfl, rfl⟩
    · intro gg w' hw hk
      go_simp
      exact ⟨rfl, rfl⟩
    · intro gg w' hw hk
      go_simp
      exact ⟨rfl, rfl⟩
    · intro gg w' hw hk
      go_simp
      exact ⟨rfl, rfl⟩
    · intro gg w' hw hk
      go_simp
      exact ⟨rfl, rfl⟩
    · intro gg w' hw hk
      go_simp
      exact ⟨rfl, rfl⟩
    · intro gg w' hw hk
      have q0 := (N4.out.1.below hw).c3
      go_simp
      exact ⟨rfl, rfl⟩
  intro gq5 x5 kq5 hgq5
  clear hgq5
  simp only [Hold.fill, Hold.Leave.value, List.length_cons, List.length_nil, List.drop_succ_cons, List.drop_zero]
  have P5 := Lib.hid (⟨N4.out.1.below kq5, N4.out.2.below (by simp) kq5⟩ : Rest w x5 sb rb pb g' n' c' A' cA' (fs ++ [f]) (spaceB sb pb g A) f.t f.b ∧ RowAt x5 sb _)
  clear kq5
  go_upto_region 6 with (first
    | (go_at_call 55; refine (low_add sb 6 (botS fs 1).1 f.b (botS fs 1).2 _ _ P5.out.2 rfl rfl).mono ?_; rintro e y5 ⟨⟨v5, rfl⟩, r5, b5⟩; have N5 := Lib.hid (⟨P5.out.1.low b5 (.inl rfl), r5⟩ : Rest w y5 sb rb pb g' n' c' A' cA' (fs ++ [f]) (spaceB sb pb g A) f.t f.b ∧ RowAt y5 sb _); clear r5 b5))
  refine Hold.wp_region_hold [.val (.pointer (some ⟨sb, 0, none⟩)), .val (.pointer (some ⟨sb, 0, none⟩)), .val (.pointer (some ⟨sb, 4, none⟩)), .val (.pointer (some ⟨sb, 10, none⟩)), .val (.pointer (some ⟨rb, 3, none⟩)), .val (.int .i64 f.b)] (by kernel_rfl) (by kernel_rfl) (by kernel_rfl) ?_ ?_
  · simp only [Hold.fill, Hold.Leave.value]
    refine ⟨?_, ?_, ?_, ?_, ?_, ?_, trivial⟩
    · intro gg w' hw hk
      go_simp
      exact ⟨rfl, rfl⟩
    · intro gg w' hw hk
      go_simp
      exact ⟨rfl, rfl⟩
    · intro gg w' hw hk
      go_simp
      exact ⟨rfl, rfl⟩
    · intro gg w' hw hk
      go_simp
      exact ⟨rfl, rfl⟩
    · intro gg w' hw hk
      go_simp
      exact ⟨rfl, rfl⟩
    · intro gg w' hw hk
      have q0 := (N5.out.1.below hw).c3
      go_simp
      exact ⟨rfl, rfl⟩
  intro gq6 x6 kq6 hgq6
  clear hgq6
  simp only [Hold.fill, Hold.Leave.value, List.length_cons, List.length_nil, List.drop_succ_cons, List.drop_zero]
  have P6 := Lib.hid (⟨N5.out.1.below kq6, N5.out.2.below (by simp) kq6⟩ : Rest w x6 sb rb pb g' n' c' A' cA' (fs ++ [f]) (spaceB sb pb g A) f.t f.b ∧ RowAt x6 sb _)
  clear kq6
  go_wp2_with (first
    | (go_at_call 55; refine (low_add sb 10 (botS fs 3).1 f.b (botS fs 3).2 _ _ P6.out.2 rfl rfl).mono ?_; rintro e y6 ⟨⟨v6, rfl⟩, r6, b6⟩; have N6 := Lib.hid (⟨P6.out.1.low b6 (.inl rfl), r6⟩ : Rest w y6 sb rb pb g' n' c' A' cA' (fs ++ [f]) (spaceB sb pb g A) f.t f.b ∧ RowAt y6 sb _); clear r6 b6))
  go_end0
  have hfin := N6.out.2
  have hlen2 : (fs ++ [f]).length = fs.length + 1 := by simp
  refine ⟨⟨_, rfl⟩, ⟨g', n', c', A', cA', ⟨N6.out.1.lst, N6.out.1.own, ?_, N6.out.1.n1, N6.out.1.n2, N6.out.1.n3⟩, HG3.out.1, HAW.out⟩, N6.out.1.but⟩
  rw [hlen2, ← put_left pb A' (fs.length + 1) cA' fs f HSD.out]
  exact hfin

set_option maxRecDepth 100000 in
set_option maxHeartbeats 1000000 in
theorem pput_right (w : World) (sb pb g n c : Nat) (A : Option Addr) (cA : Nat) (fs : List Fl) (f : Fl) (h : Spc w sb pb g n c A cA fs) (hlen : fs.length < 1000) (hs : fs.all nearF = true) (hf : nearF f = true) (hsd : f.s = 2) :
    Calls Tryz.prog 35 #[.pointer (some ⟨sb, 0, none⟩), .int .i64 2, .agg #[.int .i64 f.l, .int .i64 f.t, .int .i64 f.r, .int .i64 f.b]] w fun r w' => (∃ v, r = .returned v) ∧ (∃ g' n' c' A' cA', Spc w' sb pb g' n' c' A' cA' (fs ++ [f]) ∧ (g' = g ∨ w.heap.size ≤ g') ∧ (∀ k, blk A' = some k → blk A = some k ∨ w.heap.size ≤ k)) ∧ But (spaceB sb pb g A) w w' := by
  have hlt := h.lt
  have HL := Lib.hid h
  have HLT := Lib.hid hlt
  have hadd : ∀ w1, Below w.heap.size w w1 → _ := fun w1 k => padd_but w1 0 pb g n c fs f (h.lst.below k) (Nat.zero_le _) hlen hs hf
  rw [hsd] at hadd
  have HADD := Lib.hid hadd
  have HN := Lib.hid hlen
  have c0 : w.cell? ⟨sb, 0, none⟩ = some (.pointer (some ⟨pb, 0, none⟩)) := h.row.at' 0
  have hsb : sb < w.heap.size := hlt sb (.inl rfl)
  have HSB := Lib.hid hsb
  have HC0 := Lib.hid c0
  have HSD := Lib.hid hsd
  clear h hadd hlen hs hf hlt hsd
  go_enter Tryz.func35, Tryz.ntmps35
  go_upto_region 2 with fail
  generalize hW : World.alloc w _ = W
  obtain ⟨rb, hrb⟩ : ∃ rb, w.heap.size = rb := ⟨_, rfl⟩
  have hkW : Below w.heap.size w W := by rw [← hW]; exact ba1 _ _
  have e0 : W.cell? ⟨rb, 0, none⟩ = some (.int .i64 f.l) := by rw [← hW, ← hrb]; simp [go_sem]
  have e1 : W.cell? ⟨rb, 1, none⟩ = some (.int .i64 f.t) := by rw [← hW, ← hrb]; simp [go_sem]
  have e2 : W.cell? ⟨rb, 2, none⟩ = some (.int .i64 f.r) := by rw [← hW, ← hrb]; simp [go_sem]
  have e3 : W.cell? ⟨rb, 3, none⟩ = some (.int .i64 f.b) := by rw [← hW, ← hrb]; simp [go_sem]
  rw [hrb]
  have KW := Lib.hid hkW
  have hrl : rb < W.heap.size := block_lt_of_cell e0
  have HRL := Lib.hid hrl
  have HRB := Lib.hid hrb
  have HE := Lib.hid (⟨e0, e1, e2, e3⟩ : W.cell? ⟨rb, 0, none⟩ = some (.int .i64 f.l) ∧ W.cell? ⟨rb, 1, none⟩ = some (.int .i64 f.t) ∧ W.cell? ⟨rb, 2, none⟩ = some (.int .i64 f.r) ∧ W.cell? ⟨rb, 3, none⟩ = some (.int .i64 f.b))
  clear hW hkW hrb e0 e1 e2 e3 hrl c0 hsb
  refine Hold.wp_region_hold [.val (.pointer (some ⟨sb, 0, none⟩)), .val (.pointer (some ⟨sb, 0, none⟩)), .val (.pointer (some ⟨sb, 0, none⟩)), .val (.pointer (some ⟨pb, 0, none⟩)), .val (.int .i64 2), .val (.agg #[.int .i64 f.l, .int .i64 f.t, .int .i64 f.r, .int .i64 f.b])] (by kernel_rfl) (by kernel_rfl) (by kernel_rfl) ?_ ?_
  · simp only [Hold.fill, Hold.Leave.value]
    refine ⟨?_, ?_, ?_, ?_, ?_, ?_, trivial⟩
    · intro gg w' hw hk
      go_simp
      exact ⟨rfl, rfl⟩
    · intro gg w' hw hk
      go_simp
      exact ⟨rfl, rfl⟩
    · intro gg w' hw hk
      go_simp
      exact ⟨rfl, rfl⟩
    · intro gg w' hw hk
      have q0 := ((thru KW.out hw).cell (p := ⟨sb, 0, none⟩) HSB.out).trans HC0.out
      go_simp
      exact ⟨rfl, rfl⟩
    · intro gg w' hw hk
      go_simp
      exact ⟨rfl, rfl⟩
    · intro gg w' hw hk
      have q0 := (hw.cell (p := ⟨rb, 0, none⟩) HRL.out).trans HE.out.1
      have q1 := (hw.cell (p := ⟨rb, 1, none⟩) HRL.out).trans HE.out.2.1
      have q2 := (hw.cell (p := ⟨rb, 2, none⟩) HRL.out).trans HE.out.2.2.1
      have q3 := (hw.cell (p := ⟨rb, 3, none⟩) HRL.out).trans HE.out.2.2.2
      go_simp
      exact ⟨rfl, rfl⟩
  intro gg w2 k2 hgg
  clear hgg
  simp only [Hold.fill, Hold.Leave.value, List.length_cons, List.length_nil, List.drop_succ_cons, List.drop_zero]
  have K2 := Lib.hid k2
  clear k2
  go_upto_region 3 with (first
    | (go_at_call 54; refine (HADD.out _ (thru KW.out K2.out)).mono ?_; rintro e w3 ⟨⟨v, rfl⟩, ⟨g', n', c', hl3, hg3⟩, hb3⟩; have H3 := Lib.hid (⟨hl3, hg3, hb3⟩ : Lst w3 0 pb g' n' c' (shelvesD (fs ++ [f])) ∧ (g' = g ∨ w2.heap.size ≤ g') ∧ But (two g pb) w2 w3); clear hl3 hg3 hb3))
  have kw2 := thru KW.out K2.out
  have hsz : w.heap.size ≤ w2.heap.size := kw2.size
  have hl2 := HL.out.but (But.of_below (S := fun _ => False) kw2) (fun _ _ q => q)
  have hown : MineE encF 84 w3 0 A fs.length cA fs := mineE_but hl2.own H3.out.2.2 (fun j e q => by rcases q with q | q; exact (HL.out.n3 j e).2.2 q; exact (HL.out.n3 j e).2.1 q)
  have hrow : RowAt w3 sb (spaceRow pb A fs.length cA fs) := hl2.row.but (by simp) H3.out.2.2 (fun q => by rcases q with q | q; exact HL.out.n2 q; exact HL.out.n1 q)
  have hrb2 : ¬ (two g pb) rb := by
    rintro (q | q)
    · have := HLT.out g (.inr (.inr (.inl rfl))); have := HRB.out; omega
    · have := HLT.out pb (.inr (.inl rfl)); have := HRB.out; omega
  have hrl2 : rb < w2.heap.size := Nat.lt_of_lt_of_le HRL.out K2.out.size
  have hbox : ∀ j, w3.cell? ⟨rb, j, none⟩ = W.cell? ⟨rb, j, none⟩ := fun j => (H3.out.2.2.cell hrl2 hrb2).trans (K2.out.cell (p := ⟨rb, j, none⟩) HRL.out)
  have d0 := (hbox 0).trans HE.out.1
  have d1 := (hbox 1).trans HE.out.2.1
  have d2 := (hbox 2).trans HE.out.2.2.1
  have d3 := (hbox 3).trans HE.out.2.2.2
  have HD := Lib.hid (⟨d0, d1, d2, d3⟩ : w3.cell? ⟨rb, 0, none⟩ = some (.int .i64 f.l) ∧ w3.cell? ⟨rb, 1, none⟩ = some (.int .i64 f.t) ∧ w3.cell? ⟨rb, 2, none⟩ = some (.int .i64 f.r) ∧ w3.cell? ⟨rb, 3, none⟩ = some (.int .i64 f.b))
  have HO := Lib.hid (⟨hown, hrow⟩ : MineE encF 84 w3 0 A fs.length cA fs ∧ RowAt w3 sb (spaceRow pb A fs.length cA fs))
  have hbut3 : But (spaceB sb pb g A) w w3 := (But.of_below kw2).trans H3.out.2.2 (fun j _ q => by rcases q with q | q; exact .inr (.inr (.inl q)); exact .inr (.inl q))
  have HB3 := Lib.hid hbut3
  have hg3 : g' = g ∨ w.heap.size ≤ g' := H3.out.2.1.elim .inl fun e => .inr (by omega)
  have hgl3 : g' < w3.heap.size := H3.out.1.glt.2
  have HG3 := Lib.hid (⟨hg3, hgl3⟩ : (g' = g ∨ w.heap.size ≤ g') ∧ g' < w3.heap.size)
  have hw3 : w.heap.size ≤ w3.heap.size := hbut3.size
  have HW3 := Lib.hid hw3
  have L3 := Lib.hid H3.out.1
  have HNG := Lib.hid (show ∀ k, blk A = some k → k ≠ g' from fun k e => by
    have q1 := (HL.out.n3 k e).2.2
    have q2 := HLT.out k (.inr (.inr (.inr e)))
    rcases hg3 with q | q <;> omega)
  have HSG := Lib.hid (show sb ≠ g' by
    have q1 := HL.out.n2
    have q2 := HSB.out
    rcases hg3 with q | q <;> omega)
  have hrl3 : rb < w3.heap.size := block_lt_of_cell d0
  have HRL3 := Lib.hid hrl3
  have HRS := Lib.hid (show rb ≠ sb by have := HRB.out; have := HSB.out; omega)
  have HRA := Lib.hid (show ∀ k, blk A = some k → rb ≠ k from fun k e => by
    have q2 := HLT.out k (.inr (.inr (.inr e)))
    have := HRB.out
    omega)
  clear kw2 hsz hl2 hown hrow hrb2 hrl2 hbox d0 d1 d2 d3 hbut3 hg3 hgl3 hw3 H3 hrl3
  refine wp_region_told_first [.val (.pointer (some ⟨sb, 0, none⟩)), .val (.pointer (some ⟨sb, 0, none⟩)), .val (.pointer (some ⟨sb, 0, none⟩)), .val (.pointer (some ⟨sb, 1, none⟩)), .val (.slice A fs.length cA), .val (.int .i64 2), .val (.agg #[.int .i64 f.l, .int .i64 f.t, .int .i64 f.r, .int .i64 f.b]), .val (.agg #[.int .i64 2, .int .i64 f.l, .int .i64 f.t, .int .i64 f.r, .int .i64 f.b]), .row (.cells #[.int .i64 2, .int .i64 f.l, .int .i64 f.t, .int .i64 f.r, .int .i64 f.b] 84) 1 1] (by kernel_rfl) (by kernel_rfl) (by kernel_rfl) (v0 := .pointer (some ⟨sb, 0, none⟩)) rfl rfl (by kernel_rfl) (by kernel_rfl) (.inl ⟨rfl, fun w => by go_simp⟩) (fun _ _ _ h => h) ?_ ?_
  · simp only [Told.fill, Told.Leave.value]
    refine ⟨?_, ?_, ?_, ?_, ?_, ?_, ?_, ?_, ?_, trivial⟩
    · intro gg w' hw hk
      go_simp
      exact ⟨rfl, rfl⟩
    · intro gg w' hw hk
      go_simp
      exact ⟨rfl, rfl⟩
    · intro gg w' hw hk
      go_simp
      exact ⟨rfl, rfl⟩
    · intro gg w' hw hk
      go_simp
      exact ⟨rfl, rfl⟩
    · intro gg w' hw hk
      have q0 : w'.cell? ⟨sb, 1, none⟩ = some (.slice A fs.length cA) := (HO.out.2.below (by simp) hw).at' 1
      go_simp
      exact ⟨rfl, rfl⟩
    · intro gg w' hw hk
      go_simp
      exact ⟨rfl, rfl⟩
    · intro gg w' hw hk
      have q0 := (hw.cell (p := ⟨rb, 0, none⟩) HRL3.out).trans HD.out.1
      have q1 := (hw.cell (p := ⟨rb, 1, none⟩) HRL3.out).trans HD.out.2.1
      have q2 := (hw.cell (p := ⟨rb, 2, none⟩) HRL3.out).trans HD.out.2.2.1
      have q3 := (hw.cell (p := ⟨rb, 3, none⟩) HRL3.out).trans HD.out.2.2.2
      go_simp
      exact ⟨rfl, rfl⟩
    · intro gg w' hw hk
      go_simp
      exact ⟨rfl, rfl⟩
    · intro gg w' hw hk
      go_simp
  intro gg4 w4 k4 hbox hap
  obtain ⟨g4, h4⟩ := hbox 8 _ _ rfl rfl
  clear hbox hap
  simp only [Told.fill, Told.Leave.value, List.length_cons, List.length_nil, List.drop_succ_cons, List.drop_zero]
  generalize gg4 8 = r at g4 h4 ⊢
  have K4 := Lib.hid k4
  have O4 := Lib.hid (⟨HO.out.1.below k4, HO.out.2.below (by simp) k4, L3.out.below k4⟩ : MineE encF 84 w4 0 A fs.length cA fs ∧ RowAt w4 sb (spaceRow pb A fs.length cA fs) ∧ Lst w4 0 pb g' n' c' (shelvesD (fs ++ [f])))
  have hsrc : SrcE encF w4 (some ⟨r, 0, none⟩) 1 1 [f] := srcE_of encF w4 f 84 r (by rw [h4]; simp [encF, cellsFl, HSD.out])
  have HS4 := Lib.hid hsrc
  clear h4 g4 k4 hsrc
  have hns : ∀ k, blk A = some k → k ≠ sb := fun k e => (HL.out.n3 k e).1
  have HNS := Lib.hid hns
  clear hns
  go_simp
  go_upto_region 4 with (first
    | (at_builtin; refine wpList_append_E (bytes := 40) (by omega) infoPF _ rfl _ _ rfl 0 A fs.length cA fs rfl O4.out.1 (some ⟨r, 0, none⟩) 1 1 [f] rfl HS4.out (by have := HN.out; omega) (Nat.zero_le _) ?_; intro A' cA' w5 hA; have hcl := hA.2.1.cell (show w4.cell? ⟨sb, 1, none⟩ = some (.slice A fs.length cA) from O4.out.2.1.at' 1) (by intro e; exact HNS.out sb (by first | exact e | exact e.symm) rfl); have hfz := (hA.2.1.frozen_far ⟨sb, 1, none⟩ (O4.out.2.1.lt (by simp)) (by intro e; exact HNS.out sb (by first | exact e | exact e.symm) rfl)).trans (O4.out.2.1.frz 1); have HA := Lib.hid hA; clear hA))
  have hlen2 : (fs ++ [f]).length = fs.length + 1 := by simp
  obtain ⟨Z, hZ⟩ : ∃ Z, World.setCell w5 ⟨sb, 1, none⟩ (.slice A' (fs.length + 1) cA') = Z := ⟨_, rfl⟩
  rw [hZ]
  have hg5 := but_grown HA.out.2.1
  have hA' : ∀ k, blk A' = some k → blk A = some k ∨ w4.heap.size ≤ k := fun k e => by
    rcases HA.out.2.2 with q | q
    · rw [q] at e; exact .inl e
    · rw [q] at e; injection e with e; exact .inr (by omega)
  have hw4 : w3.heap.size ≤ w4.heap.size := K4.out.size
  have hset : But (fun k => k = sb) w5 Z := by rw [← hZ]; exact But.set (S := fun k => k = sb) sb 1 _ rfl
  have hsb4 : sb < w4.heap.size := O4.out.2.1.lt (by simp)
  have hnA : ∀ k, blk A' = some k → k ≠ sb := fun k e => by
    rcases hA' k e with q | q
    · exact HNS.out k q
    · omega
  have hr5 : RowAt w5 sb (spaceRow pb A fs.length cA fs) := O4.out.2.1.but (by simp) hg5 (fun q => HNS.out sb q rfl)
  have hrowZ : RowAt Z sb (spaceRow pb A' (fs.length + 1) cA' fs) := by
    rw [← hZ]
    exact hr5.set 1 (.slice A' (fs.length + 1) cA') (by simp)
  have hrb4 : rb < w4.heap.size := Nat.lt_of_lt_of_le HRL3.out hw4
  have hrb5 : rb < w5.heap.size := Nat.lt_of_lt_of_le hrb4 hg5.size
  have hcr : ∀ j, Z.cell? ⟨rb, j, none⟩ = w3.cell? ⟨rb, j, none⟩ := fun j => (hset.cell hrb5 HRS.out).trans ((hg5.cell hrb4 (fun q => HRA.out rb q rfl)).trans (K4.out.cell (p := ⟨rb, j, none⟩) HRL3.out))
  have hrest : Rest w Z sb rb pb g' n' c' A' cA' (fs ++ [f]) (spaceB sb pb g A) f.t f.b := by
    refine ⟨?_, ?_, HL.out.n1, HSG.out, fun k e => ⟨hnA k e, ?_, ?_⟩, ?_, (hcr 1).trans HD.out.2.1, (hcr 3).trans HD.out.2.2.2, HRS.out⟩
    · exact lst_but (lst_but O4.out.2.2 hg5 (fun q => (HL.out.n3 pb q).2.1 rfl) (fun q => HNG.out g' q rfl)) hset (fun q => HL.out.n1 q.symm) (fun q => HSG.out q.symm)
    · rw [hlen2]
      exact mineE_but HA.out.1 hset (fun j e q => hnA j e q)
    · rcases hA' k e with q | q
      · exact (HL.out.n3 k q).2.1
      · have := HLT.out pb (.inr (.inl rfl)); have := HW3.out; omega
    · rcases hA' k e with q | q
      · exact HNG.out k q
      · have := HG3.out.2; omega
    · refine ((HB3.out.trans (But.of_below (S := fun _ => False) K4.out) (fun _ _ q => q.elim)).trans hg5 (fun j _ q => .inr (.inr (.inr q)))).trans hset (fun j _ q => .inl q)
  have hAw : ∀ k, blk A' = some k → blk A = some k ∨ w.heap.size ≤ k := fun k e => by
    rcases hA' k e with q | q
    · exact .inl q
    · have := HW3.out; exact .inr (by omega)
  have HR := Lib.hid (⟨hrest, hrowZ⟩ : Rest w Z sb rb pb g' n' c' A' cA' (fs ++ [f]) (spaceB sb pb g A) f.t f.b ∧ RowAt Z sb (spaceRow pb A' (fs.length + 1) cA' fs))
  have HAW := Lib.hid hAw
  clear hZ hg5 hA' hw4 hset hsb4 hnA hr5 hrowZ hrb4 hrb5 hcr hrest hAw hcl hfz hlen2
  refine Hold.wp_region_hold [.val (.pointer (some ⟨sb, 0, none⟩)), .val (.pointer (some ⟨sb, 0, none⟩)), .val (.pointer (some ⟨sb, 2, none⟩)), .val (.pointer (some ⟨rb, 1, none⟩)), .val (.int .i64 f.t)] (by kernel_rfl) (by kernel_rfl) (by kernel_rfl) ?_ ?_
  · simp only [Hold.fill, Hold.Leave.value]
    refine ⟨?_, ?_, ?_, ?_, ?_, trivial⟩
    · intro gg w' hw hk
      go_simp
      exact ⟨rfl, rfl⟩
    · intro gg w' hw hk
      go_simp
      exact ⟨rfl, rfl⟩
    · intro gg w' hw hk
      go_simp
      exact ⟨rfl, rfl⟩
    · intro gg w' hw hk
      go_simp
      exact ⟨rfl, rfl⟩
    · intro gg w' hw hk
      have q0 := (HR.out.1.below hw).c1
      go_simp
      exact ⟨rfl, rfl⟩
  intro gq4 x4 kq4 hgq4
  clear hgq4
  simp only [Hold.fill, Hold.Leave.value, List.length_cons, List.length_nil, List.drop_succ_cons, List.drop_zero]
  have P4 := Lib.hid (⟨HR.out.1.below kq4, HR.out.2.below (by simp) kq4⟩ : Rest w x4 sb rb pb g' n' c' A' cA' (fs ++ [f]) (spaceB sb pb g A) f.t f.b ∧ RowAt x4 sb _)
  clear kq4
  go_upto_region 5 with (first
    | (go_at_call 55; refine (low_add sb 2 (lastD fs) f.t (decide (0 < fs.length)) _ _ P4.out.2 rfl rfl).mono ?_; rintro e y4 ⟨⟨v4, rfl⟩, r4, b4⟩; have N4 := Lib.hid (⟨P4.out.1.low b4 (.inl rfl), r4⟩ : Rest w y4 sb rb pb g' n' c' A' cA' (fs ++ [f]) (spaceB sb pb g A) f.t f.b ∧ RowAt y4 sb _); clear r4 b4))
  refine Hold.wp_region_hold [.val (.pointer (some ⟨sb, 0, none⟩)), .val (.int .i64 2), .val (.pointer (some ⟨sb, 0, none⟩)), .val (.pointer (some ⟨sb, 4, none⟩)), .val (.pointer (some ⟨sb, 8, none⟩)), .val (.pointer (some ⟨rb, 3, none⟩)), .val (.int .i64 f.b)] (by kernel_rfl) (by kernel_rfl) (by kernel_rfl) ?_ ?_
  · simp only [Hold.fill, Hold.Leave.value]
    refine ⟨?_, ?_, ?_, ?_, ?_, ?_, ?_, trivial⟩
    · intro gg w' hw hk
      go_simp
      exact ⟨rfl, rfl⟩
    · intro gg w' hw hk
      go_simp
      exact ⟨rfl, rfl⟩
    · intro gg w' hw hk
      go_simp
      exact ⟨rfl, rfl⟩
    · intro gg w' hw hk
      go_simp
      exact ⟨rfl, rfl⟩
    · intro gg w' hw hk
      go_simp
      exact ⟨rfl, rfl⟩
    · intro gg w' hw hk
      go_simp
      exact ⟨rfl, rfl⟩
    · intro gg w' hw hk
      have q0 := (N4.out.1.below hw).c3
      go_simp
      exact ⟨rfl, rfl⟩
  intro gq5 x5 kq5 hgq5
  clear hgq5
  simp only [Hold.fill, Hold.Leave.value, List.length_cons, List.length_nil, List.drop_succ_cons, List.drop_zero]
  have P5 := Lib.hid (⟨N4.out.1.below kq5, N4.out.2.below (by simp) kq5⟩ : Rest w x5 sb rb pb g' n' c' A' cA' (fs ++ [f]) (spaceB sb pb g A) f.t f.b ∧ RowAt x5 sb _)
  clear kq5
  go_upto_region 6 with (first
    | (go_at_call 55; refine (low_add sb 8 (botS fs 2).1 f.b (botS fs 2).2 _ _ P5.out.2 rfl rfl).mono ?_; rintro e y5 ⟨⟨v5, rfl⟩, r5, b5⟩; have N5 := Lib.hid (⟨P5.out.1.low b5 (.inl rfl), r5⟩ : Rest w y5 sb rb pb g' n' c' A' cA' (fs ++ [f]) (spaceB sb pb g A) f.t f.b ∧ RowAt y5 sb _); clear r5 b5))
  refine Hold.wp_region_hold [.val (.pointer (some ⟨sb, 0, none⟩)), .val (.pointer (some ⟨sb, 0, none⟩)), .val (.pointer (some ⟨sb, 4, none⟩)), .val (.pointer (some ⟨sb, 10, none⟩)), .val (.pointer (some ⟨rb, 3, none⟩)), .val (.int .i64 f.b)] (by kernel_rfl) (by kernel_rfl) (by kernel_rfl) ?_ ?_
  · simp only [Hold.fill, Hold.Leave.value]
    refine ⟨?_, ?_, ?_, ?_, ?_, ?_, trivial⟩
    · intro gg w' hw hk
      go_simp
      exact ⟨rfl, rfl⟩
    · intro gg w' hw hk
      go_simp
      exact ⟨rfl, rfl⟩
    · intro gg w' hw hk
      go_simp
      exact ⟨rfl, rfl⟩
    · intro gg w' hw hk
      go_simp
      exact ⟨rfl, rfl⟩
    · intro gg w' hw hk
      go_simp
      exact ⟨rfl, rfl⟩
    · intro gg w' hw hk
      have q0 := (N5.out.1.below hw).c3
      go_simp
      exact ⟨rfl, rfl⟩
  intro gq6 x6 kq6 hgq6
  clear hgq6
  simp only [Hold.fill, Hold.Leave.value, List.length_cons, List.length_nil, List.drop_succ_cons, List.drop_zero]
  have P6 := Lib.hid (⟨N5.out.1.below kq6, N5.out.2.below (by simp) kq6⟩ : Rest w x6 sb rb pb g' n' c' A' cA' (fs ++ [f]) (spaceB sb pb g A) f.t f.b ∧ RowAt x6 sb _)
  clear kq6
  go_wp2_with (first
    | (go_at_call 55; refine (low_add sb 10 (botS fs 3).1 f.b (botS fs 3).2 _ _ P6.out.2 rfl rfl).mono ?_; rintro e y6 ⟨⟨v6, rfl⟩, r6, b6⟩; have N6 := Lib.hid (⟨P6.out.1.low b6 (.inl rfl), r6⟩ : Rest w y6 sb rb pb g' n' c' A' cA' (fs ++ [f]) (spaceB sb pb g A) f.t f.b ∧ RowAt y6 sb _); clear r6 b6))
  go_end0
  have hfin := N6.out.2
  have hlen2 : (fs ++ [f]).length = fs.length + 1 := by simp
  refine ⟨⟨_, rfl⟩, ⟨g', n', c', A', cA', ⟨N6.out.1.lst, N6.out.1.own, ?_, N6.out.1.n1, N6.out.1.n2, N6.out.1.n3⟩, HG3.out.1, HAW.out⟩, N6.out.1.but⟩
  rw [hlen2, ← put_right pb A' (fs.length + 1) cA' fs f HSD.out]
  exact hfin

end Go.Proofs.YtfomhdhiibcdfaaGreat.Space
