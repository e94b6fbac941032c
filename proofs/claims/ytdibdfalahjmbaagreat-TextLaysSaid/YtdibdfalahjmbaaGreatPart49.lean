
import Derived.Test.YtdibdfalahjmbaaGreatPart42
namespace Go.Proofs.YtdibdfalahjmbaaGreat.Text

open Go.RowKit Go.Sort Go.Proofs.YtdibdfalahjmbaaGreat.Rect Go.Proofs.YtdibdfalahjmbaaGreat.More Go.Proofs.YtdibdfalahjmbaaGreat.Shelf Go.Proofs.YtdibdfalahjmbaaGreat.Space Go.Proofs.YtdibdfalahjmbaaGreat.Place Go.Proofs.YtdibdfalahjmbaaGreat.Line

set_option linter.unusedVariables false

set_option linter.unusedSimpArgs false

set_option maxRecDepth 100000 in
set_option maxHeartbeats 800000 in
theorem t_on {w0 : World} {f t : Int} {AI : Option Addr} {ni ci : Nat} {P : RFast} {q : RLoose} {s : Ly} {its : List It} {a : Act} {w : World} {k : Nat} (h : AtS w0 f t AI ni ci P q s k a w) (hk : k ≤ ni) :
    Code.wp Tryz.prog c5 (Goes .normal fun a' w' => ∃ q', AtS w0 f t AI ni ci P q' (s) k a' w') a w := by
  refine wp_goes fun Q hQ => ?_
  have HQ := Lib.hid hQ
  clear hQ
  have HD := Lib.hid (⟨h.d, h.b⟩ : Dat w P q s ∧ Below w0.heap.size w0 w)
  refine h.fr.open (C := fun a => Code.wp Tryz.prog c5 Q a w) ?_
  clear h
  intros
  conv => arg 2; whnf
  have hki : (k : Int) ≤ (ni : Int) := by omega
  clear hk
  go_wp2_with fail
  exact HQ.out _ _ ⟨q, ⟨⟨rfl, rfl, rfl, rfl, rfl, rfl, rfl, rfl, rfl, rfl, rfl⟩, HD.out.1, HD.out.2⟩⟩

set_option maxRecDepth 100000 in
set_option maxHeartbeats 800000 in
theorem t_off {w0 : World} {f t : Int} {AI : Option Addr} {ni ci : Nat} {P : RFast} {q : RLoose} {s : Ly} {its : List It} {a : Act} {w : World} {k : Nat} (h : AtS w0 f t AI ni ci P q s k a w) (hk : ni < k) :
    Code.wp Tryz.prog c5 (Goes (.exit 0) fun a' w' => ∃ q', AtS w0 f t AI ni ci P q' (s) k a' w') a w := by
  refine wp_goes fun Q hQ => ?_
  have HQ := Lib.hid hQ
  clear hQ
  have HD := Lib.hid (⟨h.d, h.b⟩ : Dat w P q s ∧ Below w0.heap.size w0 w)
  refine h.fr.open (C := fun a => Code.wp Tryz.prog c5 Q a w) ?_
  clear h
  intros
  conv => arg 2; whnf
  have hki : ¬ (k : Int) ≤ (ni : Int) := by omega
  clear hk
  go_wp2_with fail
  exact HQ.out _ _ ⟨q, ⟨⟨rfl, rfl, rfl, rfl, rfl, rfl, rfl, rfl, rfl, rfl, rfl⟩, HD.out.1, HD.out.2⟩⟩

set_option maxRecDepth 100000 in
set_option maxHeartbeats 800000 in
theorem t_next {w0 : World} {f t : Int} {AI : Option Addr} {ni ci : Nat} {P : RFast} {q : RLoose} {s : Ly} {its : List It} {a : Act} {w : World} {k : Nat} (h : AtS w0 f t AI ni ci P q s k a w) (hk : k ≤ 1000) :
    Code.wp Tryz.prog c6 (Goes .normal fun a' w' => ∃ q', AtS w0 f t AI ni ci P q' (s) ((k + 1 : Nat) : Int) a' w') a w := by
  refine wp_goes fun Q hQ => ?_
  have HQ := Lib.hid hQ
  clear hQ
  have HD := Lib.hid (⟨h.d, h.b⟩ : Dat w P q s ∧ Below w0.heap.size w0 w)
  refine h.fr.open (C := fun a => Code.wp Tryz.prog c6 Q a w) ?_
  clear h
  intros
  conv => arg 2; whnf
  have hwk : IntKind.i64.wrap ((k : Int) + 1) = (k : Int) + 1 := IntWalk.i64_in _ (by omega)
  clear hk
  go_wp2_with fail
  exact HQ.out _ _ ⟨q, ⟨⟨rfl, rfl, rfl, rfl, rfl, rfl, rfl, rfl, rfl, rfl, (by show some (Value.int .i64 ((k : Int) + 1)) = _; rw [Int.natCast_succ])⟩, HD.out.1, HD.out.2⟩⟩

set_option maxRecDepth 100000 in
set_option maxHeartbeats 800000 in
theorem n_any {w0 : World} {f t : Int} {AI : Option Addr} {ni ci : Nat} {P : RFast} {q : RLoose} {s : Ly} {its : List It} {a : Act} {w : World} {k : Int} (h : AtS w0 f t AI ni ci P q s k a w) (E : Env w0 AI ni P its) :
    Code.wp Tryz.prog c42 (Goes .normal fun a' w' => ∃ q', AtS w0 f t AI ni ci P q' ({ s with row := [], wait := [] }) k a' w') a w := by
  have HB := Lib.hid E.hB
  clear E
  refine wp_goes fun Q hQ => ?_
  have HQ := Lib.hid hQ
  clear hQ
  have HD := Lib.hid (⟨h.d, h.b⟩ : Dat w P q s ∧ Below w0.heap.size w0 w)
  refine h.fr.open (C := fun a => Code.wp Tryz.prog c42 Q a w) ?_
  clear h
  intros
  conv => arg 2; whnf
  go_wp2_with fail
  have k1 : Below w.heap.size w (World.alloc w (.cells #[] 3)) := ba1 _ _
  have D1 := HD.out.1.norow k1 (Nat.le_refl _) (emptyE_mine encN 3 w P.B HD.out.1.hB)
  have k2 := ba1 (World.alloc w (.cells #[] 3)) (.cells #[] 3)
  have D2 := D1.nowait k2 (Nat.le_refl _) (emptyE_mine encN 3 _ P.B D1.hB)
  have hs : (World.alloc w (.cells #[] 3)).heap.size = w.heap.size + 1 := by simp
  rw [hs] at D2
  exact HQ.out _ _ ⟨{ q with A1 := some ⟨w.heap.size, 0, none⟩, c1 := 0, A2 := some ⟨w.heap.size + 1, 0, none⟩, c2 := 0 }, ⟨⟨rfl, rfl, rfl, rfl, rfl, rfl, rfl, rfl, rfl, rfl, rfl⟩, D2, (HD.out.2.trans (k1.mono HD.out.2.size)).trans (k2.mono (Nat.le_trans HD.out.2.size k1.size))⟩⟩

set_option maxRecDepth 100000 in
set_option maxHeartbeats 800000 in
theorem e_off {w0 : World} {f t : Int} {AI : Option Addr} {ni ci : Nat} {P : RFast} {q : RLoose} {s : Ly} {its : List It} {a : Act} {w : World} {k : Nat} (h : AtS w0 f t AI ni ci P q s k a w) (hk : ni ≤ k) :
    Code.wp Tryz.prog cE (Goes .normal fun a' w' => ∃ q', AtS w0 f t AI ni ci P q' (s) k a' w') a w := by
  refine wp_goes fun Q hQ => ?_
  have HQ := Lib.hid hQ
  clear hQ
  have HD := Lib.hid (⟨h.d, h.b⟩ : Dat w P q s ∧ Below w0.heap.size w0 w)
  refine h.fr.open (C := fun a => Code.wp Tryz.prog cE Q a w) ?_
  clear h
  intros
  conv => arg 2; whnf
  have hki : ¬ (k : Int) < (ni : Int) := by omega
  clear hk
  go_wp2_with fail
  exact HQ.out _ _ ⟨q, ⟨⟨rfl, rfl, rfl, rfl, rfl, rfl, rfl, rfl, rfl, rfl, rfl⟩, HD.out.1, HD.out.2⟩⟩

set_option maxRecDepth 100000 in
set_option maxHeartbeats 800000 in
theorem e_on {w0 : World} {f t : Int} {AI : Option Addr} {ni ci : Nat} {P : RFast} {q : RLoose} {s : Ly} {its : List It} {a : Act} {w : World} {k : Nat} (h : AtS w0 f t AI ni ci P q s k a w) (E : Env w0 AI ni P its) {Z : Int} (hlo : Lo Z s.m) (hZ : Z ≤ 140737488355328 + 140000000000000) (hfs : s.m.fs.length ≤ 1000) (hm : s.m.az = []) (hrow : s.row.length ≤ 30) (hk : k < its.length) (hsd : (itAt its k).sd = 0) :
    Code.wp Tryz.prog cE (Goes .normal fun a' w' => ∃ q', AtS w0 f t AI ni ci P q' (s.onto its k) k a' w') a w := by
  have HR0 := Lib.hid (h.d.refin hlo hZ hfs (n := 30) (by rw [hm]; exact Nat.zero_le _) (by omega))
  have HLo := Lib.hid (⟨hlo, hZ, hrow⟩ : Lo Z s.m ∧ Z ≤ 140737488355328 + 140000000000000 ∧ s.row.length ≤ 30)
  have HVt := Lib.hid (fun z => (add_empty (z := z) hm : (s.m.add z).2 = true))
  clear hlo hZ hfs hm hrow
  refine wp_goes fun Q hQ => ?_
  have HQ := Lib.hid hQ
  clear hQ
  have HD := Lib.hid (⟨h.d, h.b⟩ : Dat w P q s ∧ Below w0.heap.size w0 w)
  refine h.fr.open (C := fun a => Code.wp Tryz.prog cE Q a w) ?_
  clear h
  intros
  conv => arg 2; whnf
  obtain ⟨x, hx⟩ : ∃ x, itAt its k = x := ⟨_, rfl⟩
  obtain ⟨ad, rfl, hadb, d0, d1, d2, d3⟩ := E.item hk HD.out.2
  rw [hx] at d0 d1 d2 d3
  have HAd := Lib.hid (⟨hadb, d0, d1, d2, d3⟩ : ad.block < w.heap.size ∧ AtI w (ad.add (k * 4)) x)
  have HK := Lib.hid (⟨hk, hx, E.right hk hx, E.n30, E.hn⟩ : k < its.length ∧ itAt its k = x ∧ RightI x ∧ its.length ≤ 30 ∧ ni = its.length)
  have HE := Lib.hid E
  have hki : (k : Int) < (ni : Int) := by have := E.hn; omega
  have hk0 : ¬ (k : Int) < 0 := by omega
  have hwk : IntKind.i64.wrap ((k : Int) + 1) = (k : Int) + 1 := IntWalk.i64_in _ (by have := E.hn; have := E.n30; omega)
  clear hadb hk hx E
  have HSd := Lib.hid (HK.out.2.1 ▸ hsd : x.sd = 0)
  have HV := Lib.hid (HVt.out x.z)
  clear hsd HVt
  go_upto_region 44 with fail
  clear d0 d1 d2 d3
  have HC := Lib.hid (fun w' (i : Below w.heap.size w w') => show Dat w' P q s ∧ AtI w' (ad.add (k * 4)) x from ⟨HD.out.1.below i, HAd.out.2.below (by rw [block_of_add]; exact HAd.out.1) i⟩)
  have HRi := Lib.hid (fun w' (i : Below w.heap.size w w') => HR0.out.thru i)
  have HZ := Lib.hid (HK.out.2.2.1.size HSd.out)
  refine HoldLate.wp_region_hold_late [15] [.val (.agg #[.slice q.AF q.nF q.cF, .int .i64 s.m.f, .int .i64 s.m.t, .int .i64 s.m.y, .int .i64 s.m.top, .slice q.AZ q.nZ q.cZ]), .val (.slice (some ad) ni ci), .val (.int .i64 (k : Int)), .val (.pointer (some (ad.add (k * 4)))), .val (.pointer (some ⟨(ad.add (k * 4)).block, (ad.add (k * 4)).off + 2, none⟩)), .val (.int .i64 x.wd), .val (.slice (some ad) ni ci), .val (.int .i64 (k : Int)), .val (.pointer (some (ad.add (k * 4)))), .val (.pointer (some ⟨(ad.add (k * 4)).block, (ad.add (k * 4)).off + 3, none⟩)), .val (.int .i64 x.ht), .val (.agg #[.int .i64 x.wd, .int .i64 x.ht]), .some (AddR w 31 q (s.m.add x.z).1 true), .some (AddR w 31 q (s.m.add x.z).1 true), .some (AddM w 31 q (s.m.add x.z).1), .val (.bool true)] (by kernel_rfl) (by kernel_rfl) (by kernel_rfl) ?_ ?_ ?_
  · simp only [Hold.fill, Hold.Leave.value]
    refine ⟨?_, ?_, ?_, ?_, ?_, ?_, ?_, ?_, ?_, ?_, ?_, ?_, ?_, ?_, ?_, ?_, trivial⟩
    · intro gg w' hw hk
      have q0 : w'.cell? ⟨P.m, 0, none⟩ = some (.slice q.AF q.nF q.cF) := ((HC.out w' hw).1.m).at' 0
      have q1 : w'.cell? ⟨P.m, 1, none⟩ = some (.int .i64 s.m.f) := ((HC.out w' hw).1.m).at' 1
      have q2 : w'.cell? ⟨P.m, 2, none⟩ = some (.int .i64 s.m.t) := ((HC.out w' hw).1.m).at' 2
      have q3 : w'.cell? ⟨P.m, 3, none⟩ = some (.int .i64 s.m.y) := ((HC.out w' hw).1.m).at' 3
      have q4 : w'.cell? ⟨P.m, 4, none⟩ = some (.int .i64 s.m.top) := ((HC.out w' hw).1.m).at' 4
      have q5 : w'.cell? ⟨P.m, 5, none⟩ = some (.slice q.AZ q.nZ q.cZ) := ((HC.out w' hw).1.m).at' 5
      go_simp
      exact ⟨rfl, rfl⟩
    · intro gg w' hw hk
      go_simp
      exact ⟨rfl, rfl⟩
    · intro gg w' hw hk
      go_simp
      exact ⟨rfl, rfl⟩
    · intro gg w' hw hk
      go_simp
      exact ⟨rfl, rfl⟩
    · intro gg w' hw hk
      go_simp
      exact ⟨rfl, rfl⟩
    · intro gg w' hw hk
      have q0 : w'.cell? ⟨(ad.add (k * 4)).block, (ad.add (k * 4)).off + 2, none⟩ = some (.int .i64 x.wd) := (HC.out w' hw).2.2.2.1
      go_simp
      exact ⟨rfl, rfl⟩
    · intro gg w' hw hk
      go_simp
      exact ⟨rfl, rfl⟩
    · intro gg w' hw hk
      go_simp
      exact ⟨rfl, rfl⟩
    · intro gg w' hw hk
      go_simp
      exact ⟨rfl, rfl⟩
    · intro gg w' hw hk
      go_simp
      exact ⟨rfl, rfl⟩
    · intro gg w' hw hk
      have q0 : w'.cell? ⟨(ad.add (k * 4)).block, (ad.add (k * 4)).off + 3, none⟩ = some (.int .i64 x.ht) := (HC.out w' hw).2.2.2.2
      go_simp
      exact ⟨rfl, rfl⟩
    · intro gg w' hw hk
      go_simp
      exact ⟨rfl, rfl⟩
    · refine ⟨addR_keeps _ _ _ _ _, fun gg w' hw hk => ?_⟩
      have h := addR_call (W := w) (HRi.out w' hw) HZ.out (by omega) hw.size
      rw [HV.out] at h
      go_simp
      exact Hold.gives_call h
    · refine ⟨addR_keeps _ _ _ _ _, fun gg w' hw hk => ?_⟩
      have h := hk ⟨12, .data⟩ (by simp) rfl _ rfl
      go_simp
      exact ⟨Below.refl _ _, h⟩
    · refine ⟨addM_keeps _ _ _ _, fun gg w' hw hk => ?_⟩
      have h : AddR w 31 q (s.m.add x.z).1 true w' (gg 13) := hk ⟨13, .data⟩ (by simp) rfl _ rfl
      refine addR_cases h ?_
      clear h hk
      intro A3 n3 c3 e h2
      go_simp
      exact ⟨Below.refl _ _, A3, n3, c3, rfl, h2.out.1, h2.out.2⟩
    · intro gg w' hw hk
      have h : AddR w 31 q (s.m.add x.z).1 true w' (gg 13) := hk ⟨13, .data⟩ (by simp) rfl _ rfl
      refine addR_cases h ?_
      clear h hk
      intro A3 n3 c3 e h2
      go_simp
      exact ⟨rfl, rfl⟩
  · simp only [Hold.fill, Hold.Leave.value]
    intro i hi o v ho hv gg w' hw hk w1
    simp only [List.mem_cons, List.not_mem_nil, or_false] at hi
    subst hi
    obtain rfl := Option.some.inj (show some _ = some o from ho)
    have hv2 : Value.bool true = v := Hold.Leave.val.inj (Option.some.inj (show some (Hold.Leave.val (Value.bool true)) = some (Hold.Leave.val v) from hv))
    subst hv2
    have h : AddR w 31 q (s.m.add x.z).1 true w' (gg 13) := hk ⟨13, .data⟩ (by simp) rfl _ rfl
    refine addR_cases h ?_
    clear h hk
    intro A3 n3 c3 e h2
    go_simp
  intro Q9 hQ9 gg w4 k4 hgg
  simp only [Hold.fill, Hold.Leave.value, List.length_cons, List.length_nil, List.drop_succ_cons, List.drop_zero]
  have h14 := hgg 14 _ rfl
  obtain ⟨A3, n3, c3, e14, r14, f14⟩ := h14
  rw [e14]
  generalize gg 12 = u12
  generalize gg 13 = u13'
  clear hgg e14
  have D4 := HD.out.1.below k4
  have q0 : w4.cell? ⟨P.m, 0, none⟩ = some (.slice q.AF q.nF q.cF) := D4.m.at' 0
  have f0 : w4.frozen? ⟨P.m, 0, none⟩ = false := D4.m.frz 0
  have q1 : w4.cell? ⟨P.m, 1, none⟩ = some (.int .i64 s.m.f) := D4.m.at' 1
  have f1 : w4.frozen? ⟨P.m, 1, none⟩ = false := D4.m.frz 1
  have q2 : w4.cell? ⟨P.m, 2, none⟩ = some (.int .i64 s.m.t) := D4.m.at' 2
  have f2 : w4.frozen? ⟨P.m, 2, none⟩ = false := D4.m.frz 2
  have q3 : w4.cell? ⟨P.m, 3, none⟩ = some (.int .i64 s.m.y) := D4.m.at' 3
  have f3 : w4.frozen? ⟨P.m, 3, none⟩ = false := D4.m.frz 3
  have q4 : w4.cell? ⟨P.m, 4, none⟩ = some (.int .i64 s.m.top) := D4.m.at' 4
  have f4 : w4.frozen? ⟨P.m, 4, none⟩ = false := D4.m.frz 4
  have q5 : w4.cell? ⟨P.m, 5, none⟩ = some (.slice q.AZ q.nZ q.cZ) := D4.m.at' 5
  have f5 : w4.frozen? ⟨P.m, 5, none⟩ = false := D4.m.frz 5
  have v6 := row_six D4.m (.slice q.AF q.nF q.cF) (.int .i64 (s.m.add x.z).1.f) (.int .i64 (s.m.add x.z).1.t) (.int .i64 (s.m.add x.z).1.y) (.int .i64 (s.m.add x.z).1.top) (.slice A3 n3 c3)
  have HU := Lib.hid (D4.added (W := w) (but_only v6.2) v6.1 r14 (add_same s.m x.z).1 (add_tp HLo.out.1 HLo.out.2.1 HZ.out) f14 fun i j _ e => HD.out.1.low i j e)
  have b4 := HD.out.2.trans (k4.mono HD.out.2.size)
  have HUb := Lib.hid (b4.trans ((but_only v6.2).below b4.size (fun j e => by rw [e, ← HE.out.hB]; exact HD.out.1.b2)))
  clear v6 D4 r14 f14 k4 HC HRi b4
  have HQ9 := Lib.hid hQ9
  clear hQ9
  go_wp2_with fail
  refine HQ9.out _ _ ?_
  clear HQ9
  clear q0 q1 q2 q3 q4 q5 f0 f1 f2 f3 f4 f5
  generalize (World.setCell (World.setCell (World.setCell (World.setCell (World.setCell (World.setCell w4 ⟨P.m, 0, none⟩ (.slice q.AF q.nF q.cF)) ⟨P.m, 1, none⟩ (.int .i64 (s.m.add x.z).1.f)) ⟨P.m, 2, none⟩ (.int .i64 (s.m.add x.z).1.t)) ⟨P.m, 3, none⟩ (.int .i64 (s.m.add x.z).1.y)) ⟨P.m, 4, none⟩ (.int .i64 (s.m.add x.z).1.top)) ⟨P.m, 5, none⟩ (.slice A3 n3 c3)) = U at *
  go_wp2_with (first
    | (at_builtin; refine wpList_append_E (bytes := 8) (by omega) infoN _ rfl (.tmp 274) (.tmp 276) rfl P.B q.A1 s.row.length q.c1 s.row rfl (HU.out.ro.alloc _) (some ⟨U.heap.size, 0, none⟩) 1 1 [k] rfl (oneE_src encN U k 3) (by have := HLo.out.2.2; omega) (by have := HU.out.hB; simp; omega) ?_; intro A7 c7 w7 hA7; have HR7 := Lib.hid ((HU.out.below (ba1 U _)).onrow k hA7); have HN7 := Lib.hid (Eq.refl A7); clear hA7))
  refine HQ.out _ _ ?_
  rw [show s.onto its k = { s with m := (s.m.add x.z).1, row := s.row ++ [k] } by unfold Ly.onto; rw [HK.out.2.1]]
  exact ⟨{ q with AZ := A3, nZ := n3, cZ := c3, A1 := A7, c1 := c7 }, ⟨⟨rfl, rfl, rfl, rfl, rfl, rfl, rfl, rfl, (by show some (Value.slice A7 (s.row.length + 1) c7) = some (Value.slice A7 (s.row ++ [k]).length c7); rw [List.length_append]; rfl), rfl, rfl⟩, HR7.out.1, (HUb.out.trans ((ba1 U _).mono HUb.out.size)).trans (by have := HR7.out.2; rw [HE.out.hB] at this; exact this)⟩⟩

end Go.Proofs.YtdibdfalahjmbaaGreat.Text
