/- The program's one who lays items places a float. -/
import Derived.Test.YtdibdfalahjmbaaPart35
namespace Go.Proofs.Ytdibdfalahjmbaa.Text
open Go.RowKit Go.Sort Go.Proofs.Ytdibdfalahjmbaa.Rect Go.Proofs.Ytdibdfalahjmbaa.More Go.Proofs.Ytdibdfalahjmbaa.Shelf Go.Proofs.Ytdibdfalahjmbaa.Space Go.Proofs.Ytdibdfalahjmbaa.Place Go.Proofs.Ytdibdfalahjmbaa.Line
set_option linter.unusedVariables false
set_option linter.unusedSimpArgs false

section
variable {S : World → (Nat → Prop) → Addr → List Fl → Prop}

set_option maxRecDepth 100000 in
set_option maxHeartbeats 2000000 in
theorem kput_any (hO : SpaceOk S) (hP : PlaceOk S) {w : World} {P : Fast} {q : Loose} {its : List It} {s : Ly} (h : Kat S w P q its s) {k : Nat} (hk : k < its.length) (hb : s.box.length = its.length) (hlen : s.m.fs.length < 1000) (h49 : s.m.fs.all near49 = true) (hr : RightW (wantAt its s.m k s.m.y)) :
    Calls Try.prog 37 #[.pointer (some ⟨P.kb, 0, none⟩), .int .i64 (k : Int)] w fun e w' => (∃ v, e = .returned v) ∧ ∃ F', Kat S w' P { q with F := F' } its (s.putN its k) ∧ Grew P q { q with F := F' } w w' := by
  have hki : (k : Int) < (s.box.length : Int) := by omega
  have hk0 : ¬ (k : Int) < 0 := by omega
  obtain ⟨m', hm'⟩ : ∃ m', putM s.m (wantAt its s.m k s.m.y) = m' := ⟨_, rfl⟩
  obtain ⟨r, hr'⟩ : ∃ r, placed s.m.fs (wantAt its s.m k s.m.y) = r := ⟨_, rfl⟩
  have hput : s.putN its k = { s with m := m', box := s.box.set k (bxOf r) } := by unfold Ly.putN putK; rw [hm', hr']
  have hfs : m'.fs = s.m.fs ++ [r] := by rw [← hm', ← hr']; rfl
  have HM := Lib.hid (⟨by rw [← hm']; rfl, by rw [← hm']; rfl, by rw [← hm']; rfl, by rw [← hm']; rfl, by rw [← hm']; rfl⟩ : m'.f = s.m.f ∧ m'.t = s.m.t ∧ m'.y = s.m.y ∧ m'.top = s.m.top ∧ m'.az = s.m.az)
  have HW := Lib.hid (fun (st : Nat) w' G (j : stK S w P q its (two' s m') st w' G) => show ∃ F', Kat S w' P { q with F := F' } its { s with m := (two' s m' st).m } by
    obtain ⟨-, ⟨q', a, -, -⟩, -⟩ := j
    exact ⟨q', by cases st <;> exact a⟩)
  have HMM := Lib.hid (fun st => show (two' s m' st).m.f = s.m.f ∧ (two' s m' st).m.t = s.m.t ∧ (two' s m' st).m.y = s.m.y by
    cases st
    · exact ⟨rfl, rfl, rfl⟩
    · exact ⟨HM.out.1, HM.out.2.1, HM.out.2.2.1⟩)
  have HKr := Lib.hid (fun (st : Nat) w' G (j : stK S w P q its (two' s m') st w' G) => show RowAt w' P.kb [.pointer (some ⟨P.bb, 0, none⟩), .pointer (some P.p)] ∨ True from .inr trivial)
  have HC0 := Lib.hid (fun (st : Nat) w' G (j : stK S w P q its (two' s m') st w' G) => (show w'.cell? ⟨P.kb, 0, none⟩ = some (.pointer (some ⟨P.bb, 0, none⟩)) ∧ w'.cell? ⟨P.kb, 1, none⟩ = some (.pointer (some P.p)) ∧ w'.cell? ⟨P.kb, 7, none⟩ = some (.slice (some ⟨P.bx, 0, none⟩) s.box.length s.box.length) by
    obtain ⟨q', a⟩ := HW.out st w' G j
    exact ⟨a.kr.at' 0, a.kr.at' 1, a.kr.at' 7⟩))
  have HY := Lib.hid (fun (st : Nat) w' G (j : stK S w P q its (two' s m') st w' G) => show Calls Try.prog 23 #[.pointer (some ⟨P.bb, 0, none⟩)] w' fun e w'' => e = .returned (.int .i64 s.m.y) ∧ Below w'.heap.size w' w'' by
    obtain ⟨q', a⟩ := HW.out st w' G j
    have := ly_any w' P.p P.bb _ a.bl
    rw [show ({ s with m := (two' s m' st).m } : Ly).m.y = s.m.y from (HMM.out st).2.2] at this
    exact this)
  have HWa := Lib.hid (fun (st : Nat) w' G (j : stK S w P q its (two' s m') st w' G) => show Calls Try.prog 55 #[.pointer (some ⟨P.kb, 0, none⟩), .int .i64 (k : Int), .int .i64 s.m.y] w' fun e w'' => e = .returned (wantAt its s.m k s.m.y).v ∧ Below w'.heap.size w' w'' by
    obtain ⟨q', a⟩ := HW.out st w' G j
    have := want_any hO a hk s.m.y
    rw [show wantAt its ({ s with m := (two' s m' st).m } : Ly).m k s.m.y = wantAt its s.m k s.m.y by unfold wantAt; rw [show ({ s with m := (two' s m' st).m } : Ly).m.f = s.m.f from (HMM.out st).1, show ({ s with m := (two' s m' st).m } : Ly).m.t = s.m.t from (HMM.out st).2.1]] at this
    exact this)
  have HPu := Lib.hid (fun w' G (j : stK S w P q its (two' s m') 0 w' G) => stK_space hO (m' := m') (v := Fl.box r) (f := 15) (args := #[.pointer (some P.p), (wantAt its s.m k s.m.y).v]) j (fun F hF a => by
      have := hP.put w' F P.p s.m.fs (wantAt its s.m k s.m.y) hF hlen h49 hr
      rw [hr', ← hfs] at this
      exact this) rfl HM.out.1 HM.out.2.1 HM.out.2.2.1 HM.out.2.2.2.1 HM.out.2.2.2.2)
  have HK0 := Lib.hid (stK_start (ss := two' s m') hO h)
  rw [hput]
  generalize wantAt its s.m k s.m.y = x at *
  have HL := Lib.hid (⟨hk, hb⟩ : k < its.length ∧ s.box.length = its.length)
  clear h hk hb hlen h49 hr hm' hr' hput hfs HKr
  go_enter Try.func37, Try.ntmps37
  refine DrawT.wp_region_tail (stK S w P q its (two' s m')) 1 [.val (.pointer (some ⟨P.kb, 0, none⟩)), .val (.pointer (some ⟨P.kb, 0, none⟩)), .val (.pointer (some ⟨P.kb, 7, none⟩)), .val (.pointer (some ⟨P.kb, 7, none⟩)), .val (.slice (some ⟨P.bx, 0, none⟩) s.box.length s.box.length), .val (.int .i64 (k : Int)), .val (.pointer (some ⟨P.kb, 0, none⟩)), .val (.pointer (some ⟨P.kb, 0, none⟩)), .val (.pointer (some ⟨P.kb, 1, none⟩)), .val (.pointer (some P.p)), .val (.pointer (some ⟨P.kb, 0, none⟩)), .val (.int .i64 (k : Int)), .val (.pointer (some ⟨P.kb, 0, none⟩)), .val (.pointer (some ⟨P.kb, 0, none⟩)), .val (.pointer (some ⟨P.kb, 0, none⟩)), .val (.pointer (some ⟨P.bb, 0, none⟩)), .val (.int .i64 s.m.y), .val (x.v), .turn 0 (Fl.box r)] (by kernel_rfl) (by kernel_rfl) (by kernel_rfl) (stK_kept hO) HK0.out ?_ ?_
  · simp only [Draw.fill, Draw.Leave.value]
    refine ⟨?_, ?_, ?_, ?_, ?_, ?_, ?_, ?_, ?_, ?_, ?_, ?_, ?_, ?_, ?_, ?_, ?_, ?_, ?_, trivial⟩
    · intro st gg w' G hw hk
      go_simp
      exact ⟨rfl, rfl⟩
    · intro st gg w' G hw hk
      go_simp
      exact ⟨rfl, rfl⟩
    · intro st gg w' G hw hk
      go_simp
      exact ⟨rfl, rfl⟩
    · intro st gg w' G hw hk
      go_simp
      exact ⟨rfl, rfl⟩
    · intro st gg w' G hw hk
      have q0 : w'.cell? ⟨P.kb, 7, none⟩ = some (.slice (some ⟨P.bx, 0, none⟩) s.box.length s.box.length) := (HC0.out st w' G hw).2.2
      go_simp
      exact ⟨rfl, rfl⟩
    · intro st gg w' G hw hk
      go_simp
      exact ⟨rfl, rfl⟩
    · intro st gg w' G hw hk
      go_simp
      exact ⟨rfl, rfl⟩
    · intro st gg w' G hw hk
      go_simp
      exact ⟨rfl, rfl⟩
    · intro st gg w' G hw hk
      go_simp
      exact ⟨rfl, rfl⟩
    · intro st gg w' G hw hk
      have q0 : w'.cell? ⟨P.kb, 1, none⟩ = some (.pointer (some P.p)) := (HC0.out st w' G hw).2.1
      go_simp
      exact ⟨rfl, rfl⟩
    · intro st gg w' G hw hk
      go_simp
      exact ⟨rfl, rfl⟩
    · intro st gg w' G hw hk
      go_simp
      exact ⟨rfl, rfl⟩
    · intro st gg w' G hw hk
      go_simp
      exact ⟨rfl, rfl⟩
    · intro st gg w' G hw hk
      go_simp
      exact ⟨rfl, rfl⟩
    · intro st gg w' G hw hk
      go_simp
      exact ⟨rfl, rfl⟩
    · intro st gg w' G hw hk
      have q0 : w'.cell? ⟨P.kb, 0, none⟩ = some (.pointer (some ⟨P.bb, 0, none⟩)) := (HC0.out st w' G hw).1
      go_simp
      exact ⟨rfl, rfl⟩
    · intro st gg w' G hw hk
      go_simp
      exact Draw.stays_call (HY.out st w' G hw)
    · intro st gg w' G hw hk
      go_simp
      exact Draw.stays_call (HWa.out st w' G hw)
    · intro gg w' G hw hk
      go_simp
      exact Draw.turns_call (HPu.out w' G hw)
  intro gg w5 G5 hkw hbox hput hap
  simp only [Draw.fill, Draw.Leave.value, List.length_cons, List.length_nil, List.drop_succ_cons, List.drop_zero]
  obtain ⟨-, ⟨q5, a5, b5, -⟩, -⟩ := hkw
  have S5 := Lib.hid (⟨a5, b5⟩ : Kat S w5 P { q with F := q5 } its { s with m := m' } ∧ Grew P q { q with F := q5 } w w5)
  obtain ⟨bo, hbo, d0, d1, d2, d3, fz⟩ := box_cells a5.bo (k := k) (by show k < s.box.length; have := HL.out; omega)
  have f0 := fz (k * 4)
  have f1 := fz (k * 4 + 1)
  have f2 := fz (k * 4 + 2)
  have f3 := fz (k * 4 + 3)
  clear a5 b5 hbo fz hbox hput hap HC0 HY HWa HPu HK0 HW HMM
  go_simp
  go_wp2_with fail
  obtain ⟨a5, b5⟩ := S5.out
  obtain ⟨c1, c2⟩ := mineB_put a5.bo (k := k) (by show k < s.box.length; have := HL.out; omega) (bxOf r)
  obtain ⟨e1, e2⟩ := a5.boxed hO (bs := s.box.set k (bxOf r)) List.length_set c1 c2
  go_end0
  exact ⟨⟨_, rfl⟩, q5, e1, b5.trans e2⟩

end

end Go.Proofs.Ytdibdfalahjmbaa.Text
