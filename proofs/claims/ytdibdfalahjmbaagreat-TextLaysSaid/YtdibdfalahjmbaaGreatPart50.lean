
import Derived.Test.YtdibdfalahjmbaaGreatPart43
import Derived.Test.YtdibdfalahjmbaaGreatPart44
import Derived.Test.YtdibdfalahjmbaaGreatPart46
import Derived.Test.YtdibdfalahjmbaaGreatPart47
import Derived.Test.YtdibdfalahjmbaaGreatPart48
import Derived.Test.YtdibdfalahjmbaaGreatPart49
import Derived.Test.YtdibdfalahjmbaaGreatPart30
namespace Go.Proofs.YtdibdfalahjmbaaGreat.Text

open Go.RowKit Go.Sort Go.Proofs.YtdibdfalahjmbaaGreat.Rect Go.Proofs.YtdibdfalahjmbaaGreat.More Go.Proofs.YtdibdfalahjmbaaGreat.Shelf Go.Proofs.YtdibdfalahjmbaaGreat.Space Go.Proofs.YtdibdfalahjmbaaGreat.Place Go.Proofs.YtdibdfalahjmbaaGreat.Line

set_option linter.unusedVariables false

set_option linter.unusedSimpArgs false

theorem block_leaves {c : Code} {n : Nat} {J : Act → World → Prop} {a : Act} {w : World} (h : c.wp Tryz.prog (Goes (.exit n) J) a w) : (Code.block n c).wp Tryz.prog (Goes .normal J) a w := by
  refine wp_block (wp_mono h ?_)
  rintro e a w ⟨rfl, j⟩
  show (if n = n then Goes .normal J .normal a w else _)
  rw [if_pos rfl]
  exact ⟨rfl, j⟩

theorem block_ends {c : Code} {n : Nat} {J : Act → World → Prop} {a : Act} {w : World} (h : c.wp Tryz.prog (Goes .normal J) a w) : (Code.block n c).wp Tryz.prog (Goes .normal J) a w := by
  refine wp_block (wp_mono h ?_)
  rintro e a w ⟨rfl, j⟩
  exact ⟨rfl, j⟩

section

variable {w0 : World} {f t : Int} {AI : Option Addr} {ni ci : Nat} {P : RFast} {q : RLoose} {s : Ly} {its : List It} {a : Act} {w : World} {k : Nat}

theorem fin_go {X : Code} {Q : Exit → Act → World → Prop} (h : AtS w0 f t AI ni ci P q s k a w) (E : Env w0 AI ni P its) (hA : Able its 140737488355328 k s) (hf : s.m.f = f) (ht : s.m.t = t)
    (hX : ∀ a w, (∃ q', AtS w0 f t AI ni ci P q' (s.fin its) k a w) → X.wp Tryz.prog Q a w) : (Code.seq cC (.seq cD (.seq c42 X))).wp Tryz.prog Q a w := by
  by_cases hm : s.m.az = []
  · have hw := hA.kp.none hm
    have hrow : s.row = [] := List.map_eq_nil_iff.1 (hA.kp.az.symm.trans hm)
    have e : ({ s with row := [], wait := [] } : Ly) = s.fin its := by
      rw [fin_still hA.kp hm]
      obtain ⟨m, row, wait, box, out⟩ := s
      dsimp only at hw hrow
      subst hw hrow
      rfl
    refine wp_first (c_off (its := its) h hm) ?_
    rintro a w ⟨q, h⟩
    refine wp_first (d_off (its := its) h hw) ?_
    rintro a w ⟨q, h⟩
    refine wp_first (n_any h E) ?_
    rintro a w ⟨q, h⟩
    rw [e] at h
    exact hX a w ⟨q, h⟩
  · refine wp_first (c_on h E hA hm) ?_
    rintro a w ⟨q, h⟩
    refine wp_first (J := fun a' w' => ∃ q', AtS w0 f t AI ni ci P q' (s.mid its s.wait.length) k a' w') ?_ ?_
    · by_cases hw : s.wait = []
      · have e : s.mid its s.wait.length = s.mid its 0 := by rw [hw]; rfl
        rw [e]
        exact d_off (its := its) h hw
      · exact d_any h E hA hm hf ht hw
    · rintro a w ⟨q, h⟩
      refine wp_first (n_any h E) ?_
      rintro a w ⟨q, h⟩
      rw [mid_last hm] at h
      exact hX a w ⟨q, h⟩

theorem fin_fl {Z : Int} (hA : Able its Z k s) : (s.fin its).m.fs.length ≤ 1000 := by
  have h1 := hA.fs
  by_cases hm : s.m.az = []
  · rw [fin_still hA.kp hm]; omega
  · rw [← mid_last hm]
    have := mid_fl (its := its) hm s.wait.length
    show (s.mid its s.wait.length).m.fs.length ≤ 1000
    omega

theorem round_item (h : AtS w0 f t AI ni ci P q s k a w) (E : Env w0 AI ni P its) (hA : Able its 140737488355328 k s) (hf : s.m.f = f) (ht : s.m.t = t) (hk : k < its.length) :
    cRound.wp Tryz.prog (Goes .normal fun a' w' => ∃ q', AtS w0 f t AI ni ci P q' (s.step its k) ((k + 1 : Nat) : Int) a' w') a w := by
  rw [cRound_is]
  refine wp_first (t_on (its := its) h (by have := E.hn; omega)) ?_
  rintro a w ⟨q, h⟩
  refine wp_first (J := fun a' w' => ∃ q', AtS w0 f t AI ni ci P q' (s.step its k) k a' w') ?_ ?_
  · rw [cIn_is]
    by_cases h0 : (itAt its k).sd = 0
    · cases hv : (s.m.add (itAt its k).z).2 with
      | true =>
        have e : s.step its k = s.onto its k := step_fits h0 hv
        rw [e]
        exact block_leaves (wp_leaves (a_fits h E hA hk h0 hv))
      | false =>
        refine block_ends (wp_first (a_not h E hA hk h0 hv) ?_)
        rintro a w ⟨q, h⟩
        refine wp_first (b_off h E (.inr ⟨hk, h0⟩)) ?_
        rintro a w ⟨q, h⟩
        refine fin_go h E hA hf ht ?_
        rintro a w ⟨q, h⟩
        have hz := hA.hz
        have hn := E.n30
        have F := fin_keep hA.hr hA.kp hA.hk (by omega)
        have e : s.step its k = (s.fin its).onto its k := step_ends h0 hv
        rw [e]
        exact e_on h E F.1 (by omega) (fin_fl hA) F.2.1 (Nat.zero_le _) hk h0
    · refine block_leaves ?_
      refine wp_first (a_off h E (.inr ⟨hk, h0⟩)) ?_
      rintro a w ⟨q, h⟩
      by_cases hm : s.m.az = []
      · rw [step_put h0 hm]
        exact wp_leaves (b_put h E hA hf ht hk h0 hm)
      · by_cases hw : s.wait = []
        · cases hb : (s.m.beside (wantAt its s.m k s.m.top)).2 with
          | some r =>
            rw [step_side h0 hm hw hb]
            exact wp_leaves (b_side h E hA hf ht hk h0 hm hw hb)
          | none =>
            rw [step_waits h0 hm (.inr hb)]
            exact wp_leaves (b_waits2 h E hA hf ht hk h0 hm hw hb)
        · rw [step_waits h0 hm (.inl hw)]
          exact wp_leaves (b_waits1 h E hA hf ht hk h0 hm hw)
  · rintro a w ⟨q, h⟩
    exact t_next (its := its) h (by have := E.n30; omega)

theorem round_last (h : AtS w0 f t AI ni ci P q s k a w) (E : Env w0 AI ni P its) (hA : Able its 140737488355328 k s) (hf : s.m.f = f) (ht : s.m.t = t) (hk : k = its.length) :
    cRound.wp Tryz.prog (Goes .normal fun a' w' => ∃ q', AtS w0 f t AI ni ci P q' (s.fin its) ((k + 1 : Nat) : Int) a' w') a w := by
  rw [cRound_is]
  refine wp_first (t_on (its := its) h (by have := E.hn; omega)) ?_
  rintro a w ⟨q, h⟩
  refine wp_first (J := fun a' w' => ∃ q', AtS w0 f t AI ni ci P q' (s.fin its) k a' w') ?_ ?_
  · rw [cIn_is]
    refine block_ends (wp_first (a_off h E (.inl (by omega))) ?_)
    rintro a w ⟨q, h⟩
    refine wp_first (b_off h E (.inl (by omega))) ?_
    rintro a w ⟨q, h⟩
    refine fin_go h E hA hf ht ?_
    rintro a w ⟨q, h⟩
    exact e_off (its := its) h (by have := E.hn; omega)
  · rintro a w ⟨q, h⟩
    exact t_next (its := its) h (by have := E.n30; omega)

end

theorem layloop_any {w0 : World} {f t y : Int} {fs : List Fl} {AI : Option Addr} {ni ci : Nat} {P : RFast} {its : List It} (E : Env w0 AI ni P its) (hA : ∀ k, k ≤ its.length → Able its 140737488355328 k (layK fs f t y its k)) (hft : ∀ k, k ≤ its.length → (layK fs f t y its k).m.f = f ∧ (layK fs f t y its k).m.t = t)
    {q : RLoose} {a : Act} {w : World} (h : AtS w0 f t AI ni ci P q (layK fs f t y its 0) 0 a w) {Q : Exit → Act → World → Prop} (hQ : ∀ q a w, AtS w0 f t AI ni ci P q (layD fs f t y its) ((ni + 1 : Nat) : Int) a w → Q (.exit 0) a w) : (Code.loop cRound).wp Tryz.prog Q a w := by
  refine wp_loop_ghost (fun n a w => ∃ (k : Nat) (q : RLoose) (s : Ly), n + k = ni + 1 ∧ (k ≤ ni → s = layK fs f t y its k) ∧ (k = ni + 1 → s = layD fs f t y its) ∧ AtS w0 f t AI ni ci P q s k a w) (ni + 1) ⟨0, q, _, rfl, fun _ => rfl, fun e => by omega, h⟩ ?_
  rintro n a w ⟨k, q, s, hn, h1, h2, h⟩
  have hni := E.hn
  rcases Nat.lt_trichotomy k ni with hk | hk | hk
  · have hs := h1 (by omega)
    subst hs
    refine wp_mono (round_item h E (hA k (by omega)) (hft k (by omega)).1 (hft k (by omega)).2 (by omega)) ?_
    rintro e a w ⟨rfl, q, h⟩
    exact ⟨n - 1, by omega, k + 1, q, _, by omega, fun _ => rfl, fun e => by omega, h⟩
  · have hs := h1 (by omega)
    subst hs
    refine wp_mono (round_last h E (hA k (by omega)) (hft k (by omega)).1 (hft k (by omega)).2 (by omega)) ?_
    rintro e a w ⟨rfl, q, h⟩
    exact ⟨n - 1, by omega, k + 1, q, _, by omega, fun e => by omega, fun _ => by rw [hk, hni]; rfl, h⟩
  · have hk2 : k = ni + 1 := by omega
    have hs := h2 hk2
    subst hs
    rw [cRound_is]
    refine wp_seq (wp_mono (t_off (its := its) h (by omega)) ?_)
    rintro e a w ⟨rfl, q, h⟩
    rw [hk2] at h
    exact hQ q a w h

end Go.Proofs.YtdibdfalahjmbaaGreat.Text
