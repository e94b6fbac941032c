/- The contracts of the document's own answers of a list: how wide each content is, and where it begins. -/
import Derived.Test.YtnmfgcdenngpfaaWidthDRefs
import Derived.Test.YtnmfgcdenngpfaaTreeRefs
import Derived.Test.YtnmfgcdenngpfaaMoreHold
namespace Go.Proofs.Ytnmfgcdenngpfaa.Width
open Go.RowKit Go.Sort Go.Proofs.Ytnmfgcdenngpfaa.Record Go.Proofs.Ytnmfgcdenngpfaa.Script Go.Proofs.Ytnmfgcdenngpfaa.Tree Go.Proofs.Ytnmfgcdenngpfaa.More

theorem atp0 {w : World} {p : Addr} {b : Bx} (h : AtP w p b) : w.cell? p = some (.int .i64 b.d) := h.1
theorem atp1 {w : World} {p : Addr} {b : Bx} (h : AtP w p b) : w.cell? ⟨p.block, p.off + 1, none⟩ = some (.int .i64 b.k) := h.2.1
theorem atp2 {w : World} {p : Addr} {b : Bx} (h : AtP w p b) : w.cell? ⟨p.block, p.off + 2, none⟩ = some (.int .i64 b.s) := h.2.2.1
theorem atp3 {w : World} {p : Addr} {b : Bx} (h : AtP w p b) : w.cell? ⟨p.block, p.off + 3, none⟩ = some (.int .i64 b.c) := h.2.2.2.1
theorem atp4 {w : World} {p : Addr} {b : Bx} (h : AtP w p b) : w.cell? ⟨p.block, p.off + 4, none⟩ = some (.int .i64 b.w) := h.2.2.2.2.1
theorem atp5 {w : World} {p : Addr} {b : Bx} (h : AtP w p b) : w.cell? ⟨p.block, p.off + 5, none⟩ = some (.int .i64 b.h) := h.2.2.2.2.2.1
theorem atp6 {w : World} {p : Addr} {b : Bx} (h : AtP w p b) : w.cell? ⟨p.block, p.off + 6, none⟩ = some (.int .i64 b.m0) := h.2.2.2.2.2.2.1
theorem atp7 {w : World} {p : Addr} {b : Bx} (h : AtP w p b) : w.cell? ⟨p.block, p.off + 7, none⟩ = some (.int .i64 b.m1) := h.2.2.2.2.2.2.2.1
theorem atp8 {w : World} {p : Addr} {b : Bx} (h : AtP w p b) : w.cell? ⟨p.block, p.off + 8, none⟩ = some (.int .i64 b.m2) := h.2.2.2.2.2.2.2.2.1
theorem atp9 {w : World} {p : Addr} {b : Bx} (h : AtP w p b) : w.cell? ⟨p.block, p.off + 9, none⟩ = some (.int .i64 b.m3) := h.2.2.2.2.2.2.2.2.2.1
theorem atp10 {w : World} {p : Addr} {b : Bx} (h : AtP w p b) : w.cell? ⟨p.block, p.off + 10, none⟩ = some (.int .i64 b.e0) := h.2.2.2.2.2.2.2.2.2.2.1
theorem atp11 {w : World} {p : Addr} {b : Bx} (h : AtP w p b) : w.cell? ⟨p.block, p.off + 11, none⟩ = some (.int .i64 b.e1) := h.2.2.2.2.2.2.2.2.2.2.2.1
theorem atp12 {w : World} {p : Addr} {b : Bx} (h : AtP w p b) : w.cell? ⟨p.block, p.off + 12, none⟩ = some (.int .i64 b.e2) := h.2.2.2.2.2.2.2.2.2.2.2.2.1
theorem atp13 {w : World} {p : Addr} {b : Bx} (h : AtP w p b) : w.cell? ⟨p.block, p.off + 13, none⟩ = some (.int .i64 b.e3) := h.2.2.2.2.2.2.2.2.2.2.2.2.2

theorem boxes_at {w : World} {ad : Addr} {bs : List Bx} {i : Nat} {y : Bx} (hx : Boxes w w.heap.size (some ad) bs) (hi : i < bs.length) (hy : bs.getD i noB = y) : ∀ w', Below w.heap.size w w' → AtP w' (ad.add (i * 14)) y := fun w' k => by
  obtain ⟨ad', e, hb, hc⟩ := hx i hi
  injection e with e
  subst e
  rw [← hy]
  exact hc.below (by rw [block_of_add]; exact hb) k

set_option maxRecDepth 100000 in
set_option maxHeartbeats 2000000 in
theorem refwidth_m (A : Option Addr) (n c : Nat) (bs : List Bx) (hn : n = bs.length) (hlen : n ≤ 1000) (hs : Shape (dOf bs) n) (hf : Fine bs n) : ∀ m (i : Nat) (w : World), i < m → i < n → Boxes w w.heap.size A bs →
    Calls Try.prog 22 #[.slice A n c, .int .i64 (i : Int)] w fun e w' => e = .returned (.int .i64 (widD bs i)) ∧ Below w.heap.size w w'
  | 0, _, _, hm, _, _ => by omega
  | m + 1, i, w, hm, hi, hx => by
    obtain ⟨ad, rfl, hab, -⟩ := hx i (by rw [← hn]; exact hi)
    obtain ⟨y, hy⟩ : ∃ y, bs.getD i noB = y := ⟨_, rfl⟩
    have HAt := Lib.hid (boxes_at hx (by rw [← hn]; exact hi) hy)
    have HP := Lib.hid (refpar_any (some ad) n c bs i w hn (by omega) hi hx (fun k hk => hf.depth (by omega)))
    have hin : (i : Int) < (n : Int) := by omega
    have hi0 : ¬ (i : Int) < 0 := by omega
    have hsm := small_of (hf.check hi)
    rw [hy] at hsm
    rcases Nat.eq_zero_or_pos i with h0 | h0
    · have hp := par_bounds (dOf bs) i
      have hp1 : par (dOf bs) i = -1 := by omega
      rw [hp1] at HP
      rw [widD_top (by omega), hy]
      clear hsm hp hp1 hx hy hs hf h0 hn
      go_enter Try.func22, Try.ntmps22
      go_upto_region 2 with (first
        | (go_at_call 29; refine HP.out.mono ?_; rintro e w1 ⟨rfl, k1⟩; have K1 := Lib.hid k1; have c4 := atp4 (HAt.out w1 k1); clear k1))
      go_wp2_with fail
      go_ret
      exact ⟨rfl, K1.out⟩
    · obtain ⟨p, hp0, hpi, -, -⟩ := hs.parent i h0 hi
      have hp1 : par (dOf bs) i = (p : Int) := hp0
      rw [hp1] at HP
      rw [widD_in hp1, hy]
      have HW := Lib.hid (fun w' (k : Below w.heap.size w w') => (refwidth_m (some ad) n c bs hn hlen hs hf m p w' (by omega) (by omega) (hx.thru k)))
      have hwb := wide_bound hs hf (p + 1) p (by omega) (by omega)
      obtain ⟨x, hxx⟩ : ∃ x, widD bs p = x := ⟨_, rfl⟩
      rw [hxx] at HW hwb
      rw [hxx]
      have HC := Lib.hid (fun w => refcon_any y hsm x (by omega) w)
      have hp2 : ¬ (p : Int) < 0 := by omega
      by_cases c4' : 0 ≤ y.w
      · rw [show conZ y x = y.w by unfold conZ; rw [if_pos c4']]
        clear hsm hp0 hp1 hx hy hs hf hwb hxx HC HW hn
        go_enter Try.func22, Try.ntmps22
        go_upto_region 4 with (first
          | (go_at_call 29; refine HP.out.mono ?_; rintro e w1 ⟨rfl, k1⟩; have K1 := Lib.hid k1; have c4 := atp4 (HAt.out w1 k1); clear k1))
        go_wp2_with fail
        go_ret
        exact ⟨rfl, K1.out⟩
      · obtain ⟨z, hz⟩ : ∃ z, conZ y x = z := ⟨_, rfl⟩
        rw [hz] at HC
        rw [hz]
        clear hsm hp0 hp1 hx hy hs hf hwb hxx hz hn
        go_enter Try.func22, Try.ntmps22
        go_upto_region 4 with (first
          | (go_at_call 29; refine HP.out.mono ?_; rintro e w1 ⟨rfl, k1⟩; have K1 := Lib.hid k1; have c4 := atp4 (HAt.out w1 k1); clear k1))
        go_upto_region 6 with fail
        clear c4
        replace HAt := Lib.hid (fun w' (k : Below w1.heap.size w1 w') => HAt.out w' (thru K1.out k))
        replace HW := Lib.hid (fun w' (k : Below w1.heap.size w1 w') => HW.out w' (thru K1.out k))
        refine Hold.wp_region_hold [.val (.slice (some ad) n c), .val (.int .i64 (i : Int)), .val (.pointer (some (ad.add (i * 14)))), .val y.v, .val (.slice (some ad) n c), .val (.int .i64 (p : Int)), .val (.int .i64 x), .val (.int .i64 z)] (by kernel_rfl) (by kernel_rfl) (by kernel_rfl) ?_ ?_
        · simp only [Hold.fill, Hold.Leave.value]
          refine ⟨?_, ?_, ?_, ?_, ?_, ?_, ?_, ?_, trivial⟩
          · intro gg w' hw hk
            go_simp
            exact ⟨rfl, rfl⟩
          · intro gg w' hw hk
            go_simp
            exact ⟨rfl, rfl⟩
          · intro gg w' hw hk
            go_simp
            exact ⟨rfl, rfl⟩
          · intro gg w' hw hk
            have c0 := atp0 (HAt.out w' hw)
            have c1 := atp1 (HAt.out w' hw)
            have c2 := atp2 (HAt.out w' hw)
            have c3 := atp3 (HAt.out w' hw)
            have c4 := atp4 (HAt.out w' hw)
            have c5 := atp5 (HAt.out w' hw)
            have c6 := atp6 (HAt.out w' hw)
            have c7 := atp7 (HAt.out w' hw)
            have c8 := atp8 (HAt.out w' hw)
            have c9 := atp9 (HAt.out w' hw)
            have c10 := atp10 (HAt.out w' hw)
            have c11 := atp11 (HAt.out w' hw)
            have c12 := atp12 (HAt.out w' hw)
            have c13 := atp13 (HAt.out w' hw)
            go_simp
            exact ⟨rfl, rfl⟩
          · intro gg w' hw hk
            go_simp
            exact ⟨rfl, rfl⟩
          · intro gg w' hw hk
            go_simp
            exact ⟨rfl, rfl⟩
          · intro gg w' hw hk
            go_simp
            exact Hold.stays_call (HW.out w' hw)
          · intro gg w' hw hk
            go_simp
            exact Hold.stays_call (HC.out w')
        intro gg w2 k2 hgg
        clear hgg
        simp only [Hold.fill, Hold.Leave.value, List.length_cons, List.length_nil, List.drop_succ_cons, List.drop_zero]
        have K2 := Lib.hid (thru K1.out k2)
        clear k2
        go_wp2_with fail
        go_ret
        exact ⟨rfl, K2.out⟩

theorem refwidth_any (A : Option Addr) (n c : Nat) (bs : List Bx) (i : Nat) (w : World) (hn : n = bs.length) (hlen : n ≤ 1000) (hs : Shape (dOf bs) n) (hf : Fine bs n) (hi : i < n) (hx : Boxes w w.heap.size A bs) :
    Calls Try.prog 22 #[.slice A n c, .int .i64 (i : Int)] w fun e w' => e = .returned (.int .i64 (widD bs i)) ∧ Below w.heap.size w w' :=
  refwidth_m A n c bs hn hlen hs hf (i + 1) i w (by omega) hi hx

set_option maxRecDepth 100000 in
set_option maxHeartbeats 2000000 in
theorem refleft_m (A : Option Addr) (n c : Nat) (bs : List Bx) (hn : n = bs.length) (hlen : n ≤ 1000) (hs : Shape (dOf bs) n) (hf : Fine bs n) : ∀ m (i : Nat) (w : World), i < m → i < n → Boxes w w.heap.size A bs →
    Calls Try.prog 20 #[.slice A n c, .int .i64 (i : Int)] w fun e w' => e = .returned (.int .i64 (lefD bs i)) ∧ Below w.heap.size w w'
  | 0, _, _, hm, _, _ => by omega
  | m + 1, i, w, hm, hi, hx => by
    obtain ⟨ad, rfl, hab, hat⟩ := hx i (by rw [← hn]; exact hi)
    obtain ⟨y, hy⟩ : ∃ y, bs.getD i noB = y := ⟨_, rfl⟩
    have HAt := Lib.hid (boxes_at hx (by rw [← hn]; exact hi) hy)
    have hin : (i : Int) < (n : Int) := by omega
    have hi0 : ¬ (i : Int) < 0 := by omega
    have hsm := small_of (hf.check hi)
    rw [hy] at hsm hat
    have HO := Lib.hid (fun w => refopen_any y w)
    obtain ⟨o, ho⟩ : ∃ o, openB y.k = o := ⟨_, rfl⟩
    rw [ho] at HO
    have c0 := atp0 hat
    have c1 := atp1 hat
    have c2 := atp2 hat
    have c3 := atp3 hat
    have c4 := atp4 hat
    have c5 := atp5 hat
    have c6 := atp6 hat
    have c7 := atp7 hat
    have c8 := atp8 hat
    have c9 := atp9 hat
    have c10 := atp10 hat
    have c11 := atp11 hat
    have c12 := atp12 hat
    have c13 := atp13 hat
    clear hat
    by_cases hk5 : y.k = 5
    · have hkb : (y.k == 5) = true := by simp [hk5]
      rw [lefD_self (by rw [hy]; unfold selfB; simp [hk5])]
      clear hsm hx hy hs hf HO ho hk5 hn
      go_enter Try.func20, Try.ntmps20
      go_wp2_with fail
      go_ret
      exact ⟨rfl, Below.refl _ _⟩
    · have hkb : (y.k == 5) = false := by rw [beq_eq_false_iff_ne]; exact hk5
      cases o
      · have hv : selfB y = false := by unfold selfB; simp [hk5, ho]
        rcases Nat.eq_zero_or_pos i with h0 | h0
        · subst h0
          have := (fine_root hf hi).1
          rw [hy] at this
          unfold openB at ho
          simp [this] at ho
        · obtain ⟨p, hp0, hpi, -, -⟩ := hs.parent i h0 hi
          have hp1 : par (dOf bs) i = (p : Int) := hp0
          have HPr := Lib.hid (fun w' (k : Below w.heap.size w w') => refpar_any (some ad) n c bs i w' hn (by omega) hi (hx.thru k) (fun k hk => hf.depth (by omega)))
          rw [hp1] at HPr
          rw [lefD_in (by rw [hy]; exact hv) hp1, hy]
          have HW := Lib.hid (fun w' (k : Below w.heap.size w w') => (refleft_m (some ad) n c bs hn hlen hs hf m p w' (by omega) (by omega) (hx.thru k)))
          have hwb := left_bound hs hf (p + 1) p (by omega) (by omega)
          obtain ⟨x, hxx⟩ : ∃ x, lefD bs p = x := ⟨_, rfl⟩
          rw [hxx] at HW hwb
          rw [hxx]
          have h2 := hsm.m3
          have h3 := hsm.e3
          have a1 : IntKind.i64.wrap (x + y.m3) = x + y.m3 := IntWalk.i64_in _ (by omega)
          obtain ⟨z, hz⟩ : ∃ z, x + y.m3 + y.e3 = z := ⟨_, rfl⟩
          have a2 : IntKind.i64.wrap (x + y.m3 + y.e3) = z := by rw [IntWalk.i64_in _ (by omega)]; exact hz
          rw [hz]
          clear hsm hp0 hp1 hx hy hs hf hwb hxx hz h2 h3 hv ho hk5 hn
          go_enter Try.func20, Try.ntmps20
          go_upto_region 3 with (first
            | (go_at_call 34; refine (HO.out _).mono ?_; rintro e w1 ⟨rfl, k1⟩; have K1 := Lib.hid k1; clear k1))
          clear c0 c1 c2 c3 c4 c5 c6 c7 c8 c9 c10 c11 c12 c13
          replace HAt := Lib.hid (fun w' (k : Below w1.heap.size w1 w') => HAt.out w' (thru K1.out k))
          replace HW := Lib.hid (fun w' (k : Below w1.heap.size w1 w') => HW.out w' (thru K1.out k))
          replace HPr := Lib.hid (fun w' (k : Below w1.heap.size w1 w') => HPr.out w' (thru K1.out k))
          refine Hold.wp_region_hold [.val (.slice (some ad) n c), .val (.slice (some ad) n c), .val (.int .i64 (i : Int)), .val (.int .i64 (p : Int)), .val (.int .i64 x), .val (.slice (some ad) n c), .val (.int .i64 (i : Int)), .val (.pointer (some (ad.add (i * 14)))), .val (.pointer (some ⟨(ad.add (i * 14)).block, (ad.add (i * 14)).off + 6, none⟩)), .val (.pointer (some ⟨(ad.add (i * 14)).block, (ad.add (i * 14)).off + 9, none⟩)), .val (.int .i64 y.m3), .val (.int .i64 (x + y.m3)), .val (.slice (some ad) n c), .val (.int .i64 (i : Int)), .val (.pointer (some (ad.add (i * 14)))), .val (.pointer (some ⟨(ad.add (i * 14)).block, (ad.add (i * 14)).off + 10, none⟩)), .val (.pointer (some ⟨(ad.add (i * 14)).block, (ad.add (i * 14)).off + 13, none⟩)), .val (.int .i64 y.e3), .val (.int .i64 z)] (by kernel_rfl) (by kernel_rfl) (by kernel_rfl) ?_ ?_
          · simp only [Hold.fill, Hold.Leave.value]
            refine ⟨?_, ?_, ?_, ?_, ?_, ?_, ?_, ?_, ?_, ?_, ?_, ?_, ?_, ?_, ?_, ?_, ?_, ?_, ?_, trivial⟩
            · intro gg w' hw hk
              go_simp
              exact ⟨rfl, rfl⟩
            · intro gg w' hw hk
              go_simp
              exact ⟨rfl, rfl⟩
            · intro gg w' hw hk
              go_simp
              exact ⟨rfl, rfl⟩
            · intro gg w' hw hk
              go_simp
              exact Hold.stays_call (HPr.out w' hw)
            · intro gg w' hw hk
              go_simp
              exact Hold.stays_call (HW.out w' hw)
            · intro gg w' hw hk
              go_simp
              exact ⟨rfl, rfl⟩
            · intro gg w' hw hk
              go_simp
              exact ⟨rfl, rfl⟩
            · intro gg w' hw hk
              go_simp
              exact ⟨rfl, rfl⟩
            · intro gg w' hw hk
              go_simp
              exact ⟨rfl, rfl⟩
            · intro gg w' hw hk
              go_simp
              exact ⟨rfl, rfl⟩
            · intro gg w' hw hk
              have c9 := atp9 (HAt.out w' hw)
              go_simp
              exact ⟨rfl, rfl⟩
            · intro gg w' hw hk
              go_simp
              exact ⟨rfl, rfl⟩
            · intro gg w' hw hk
              go_simp
              exact ⟨rfl, rfl⟩
            · intro gg w' hw hk
              go_simp
              exact ⟨rfl, rfl⟩
            · intro gg w' hw hk
              go_simp
              exact ⟨rfl, rfl⟩
            · intro gg w' hw hk
              go_simp
              exact ⟨rfl, rfl⟩
            · intro gg w' hw hk
              go_simp
              exact ⟨rfl, rfl⟩
            · intro gg w' hw hk
              have c13 := atp13 (HAt.out w' hw)
              go_simp
              exact ⟨rfl, rfl⟩
            · intro gg w' hw hk
              go_simp
              exact ⟨rfl, rfl⟩
          intro gg w2 k2 hgg
          clear hgg
          simp only [Hold.fill, Hold.Leave.value, List.length_cons, List.length_nil, List.drop_succ_cons, List.drop_zero]
          have K2 := Lib.hid (thru K1.out k2)
          clear k2
          go_wp2_with fail
          go_ret
          exact ⟨rfl, K2.out⟩
      · rw [lefD_self (by rw [hy]; unfold selfB; simp [ho])]
        clear hsm hx hy hs hf ho hk5 hn
        go_enter Try.func20, Try.ntmps20
        go_wp2_with (first
          | (go_at_call 34; refine (HO.out _).mono ?_; rintro e w1 ⟨rfl, k1⟩; have K1 := Lib.hid k1; clear k1))
        go_ret
        exact ⟨rfl, K1.out⟩

theorem refleft_any (A : Option Addr) (n c : Nat) (bs : List Bx) (i : Nat) (w : World) (hn : n = bs.length) (hlen : n ≤ 1000) (hs : Shape (dOf bs) n) (hf : Fine bs n) (hi : i < n) (hx : Boxes w w.heap.size A bs) :
    Calls Try.prog 20 #[.slice A n c, .int .i64 (i : Int)] w fun e w' => e = .returned (.int .i64 (lefD bs i)) ∧ Below w.heap.size w w' :=
  refleft_m A n c bs hn hlen hs hf (i + 1) i w (by omega) hi hx

end Go.Proofs.Ytnmfgcdenngpfaa.Width
