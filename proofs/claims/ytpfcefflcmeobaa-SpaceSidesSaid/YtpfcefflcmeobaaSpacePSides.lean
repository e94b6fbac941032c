/- The law of the two sides: three spaces, put into by turns. -/
import Derived.Test.YtpfcefflcmeobaaSpacePFrees
namespace Go.Proofs.Ytpfcefflcmeobaa.Space
open Go.RowKit Go.Sort Go.Proofs.Ytpfcefflcmeobaa.Rect Go.Proofs.Ytpfcefflcmeobaa.More Go.Proofs.Ytpfcefflcmeobaa.Shelf
set_option linter.unusedVariables false

/-- The floats of one side. -/
def lefts (fs : List Fl) : List Fl := fs.filter (fun f => f.s == 1)
def rights (fs : List Fl) : List Fl := fs.filter (fun f => f.s == 2)

theorem filter_take {fs : List Fl} {k : Nat} {f : Fl} (h : fs[k]? = some f) (P : Fl → Bool) : (fs.take (k + 1)).filter P = (fs.take k).filter P ++ (if P f then [f] else []) := by
  rw [List.take_add_one, h]
  show (fs.take k ++ [f]).filter P = _
  rw [List.filter_append]
  congr 1
  by_cases g : P f = true <;> simp [g]

theorem mem_cleared {fs : List Fl} {c : Int} {f : Fl} : f ∈ cleared fs c ↔ f ∈ fs ∧ clrB c f.s = true := List.mem_filter

theorem side_left (fs : List Fl) (y : Int) : clearS fs 1 y = clearS (lefts fs) 3 y := clearS_eq y fun f => by
  rw [mem_cleared, mem_cleared]
  unfold lefts clrB
  rw [List.mem_filter]
  simp
  exact fun _ => eq_comm
theorem side_right (fs : List Fl) (y : Int) : clearS fs 2 y = clearS (rights fs) 3 y := clearS_eq y fun f => by
  rw [mem_cleared, mem_cleared]
  unfold rights clrB
  rw [List.mem_filter]
  simp
  exact fun _ => eq_comm
theorem side_both (fs : List Fl) (y : Int) (h : fs.all sideF = true) : clearS fs 3 y = max (clearS fs 1 y) (clearS fs 2 y) := clearS_both y fun f => by
  rw [mem_cleared, mem_cleared, mem_cleared]
  unfold clrB
  constructor
  · rintro ⟨h1, -⟩
    rcases sideF_iff.1 (List.all_eq_true.1 h f h1) with e | e
    · left; exact ⟨h1, by rw [e]; rfl⟩
    · right; exact ⟨h1, by rw [e]; rfl⟩
  · rintro (⟨h1, -⟩ | ⟨h1, -⟩)
    · exact ⟨h1, rfl⟩
    · exact ⟨h1, rfl⟩
theorem clear_empty {fs : List Fl} {c y : Int} (h : ∀ f, ¬ f ∈ cleared fs c) : clearS fs c y = y := by
  rcases (clearS_is fs c y).1 with e | ⟨f, hf, -⟩
  · exact e
  · exact absurd hf (h f)
theorem left_other (fs : List Fl) (y : Int) : clearS (lefts fs) 2 y = y := clear_empty fun f hf => by
  obtain ⟨h1, h2⟩ := mem_cleared.1 hf
  unfold lefts at h1
  have h3 := (List.mem_filter.1 h1).2
  simp at h3
  rw [h3] at h2
  exact absurd h2 (by decide)
theorem right_other (fs : List Fl) (y : Int) : clearS (rights fs) 1 y = y := clear_empty fun f hf => by
  obtain ⟨h1, h2⟩ := mem_cleared.1 hf
  unfold rights at h1
  have h3 := (List.mem_filter.1 h1).2
  simp at h3
  rw [h3] at h2
  exact absurd h2 (by decide)

theorem But.more {F G : Nat → Prop} {w w' : World} (h : But F w w') (hg : ∀ k, F k → G k) : But G w w' := ⟨h.os, h.tape, h.output, h.size, fun k hk hs => h.block k hk (fun q => hs (hg k q))⟩

/-- Three spaces that have nothing to do with each other. -/
def Three (S : World → (Nat → Prop) → Addr → List Fl → Prop) (w wr : World) (G : Nat → Prop) (p1 p2 p3 : Addr) (a b c : List Fl) : Prop :=
  ∃ F1 F2 F3 : Nat → Prop, S wr F1 p1 a ∧ S wr F2 p2 b ∧ S wr F3 p3 c ∧ (∀ k, F1 k → ¬ F2 k) ∧ (∀ k, F1 k → ¬ F3 k) ∧ (∀ k, F2 k → ¬ F3 k) ∧ (∀ k, F1 k ∨ F2 k ∨ F3 k → G k) ∧ (∀ k, G k → w.heap.size ≤ k ∧ k < wr.heap.size) ∧ Below w.heap.size w wr

section
variable {S : World → (Nat → Prop) → Addr → List Fl → Prop} {w wr w' : World} {G : Nat → Prop} {p1 p2 p3 : Addr} {a b c : List Fl}

theorem three_below (h : Three S w wr G p1 p2 p3 a b c) : Below w.heap.size w wr := by
  obtain ⟨-, -, -, -, -, -, -, -, -, -, -, h⟩ := h
  exact h
theorem three_lt (h : Three S w wr G p1 p2 p3 a b c) : ∀ k, G k → k < wr.heap.size := by
  obtain ⟨-, -, -, -, -, -, -, -, -, -, h, -⟩ := h
  exact fun k hk => (h k hk).2
theorem three_s1 (h : Three S w wr G p1 p2 p3 a b c) : ∃ F, S wr F p1 a := by obtain ⟨F1, F2, F3, h1, h2, h3, -⟩ := h; exact ⟨F1, h1⟩
theorem three_s2 (h : Three S w wr G p1 p2 p3 a b c) : ∃ F, S wr F p2 b := by obtain ⟨F1, F2, F3, h1, h2, h3, -⟩ := h; exact ⟨F2, h2⟩
theorem three_s3 (h : Three S w wr G p1 p2 p3 a b c) : ∃ F, S wr F p3 c := by obtain ⟨F1, F2, F3, h1, h2, h3, -⟩ := h; exact ⟨F3, h3⟩

theorem three_thru (hO : SpaceOk S) (h : Three S w wr G p1 p2 p3 a b c) (k : Below wr.heap.size wr w') : Three S w w' G p1 p2 p3 a b c := by
  obtain ⟨F1, F2, F3, h1, h2, h3, h4, h5, h6, h7, h8, h9⟩ := h
  exact ⟨F1, F2, F3, hO.thru h1 k, hO.thru h2 k, hO.thru h3 k, h4, h5, h6, h7, fun j hj => ⟨(h8 j hj).1, Nat.lt_of_lt_of_le (h8 j hj).2 k.size⟩, thru h9 k⟩

theorem three_to {a' b' c' : List Fl} (h : Three S w wr G p1 p2 p3 a b c) (ha : a = a') (hb : b = b') (hc : c = c') : Three S w wr G p1 p2 p3 a' b' c' := by
  subst ha hb hc
  exact h

theorem three_turn (h : Three S w wr G p1 p2 p3 a b c) : Three S w wr G p2 p3 p1 b c a := by
  obtain ⟨F1, F2, F3, h1, h2, h3, h4, h5, h6, h7, h8, h9⟩ := h
  exact ⟨F2, F3, F1, h2, h3, h1, h6, fun k hk q => h4 k q hk, fun k hk q => h5 k q hk, fun k hk => h7 k (by rcases hk with q | q | q; exact .inr (.inl q); exact .inr (.inr q); exact .inl q), h8, h9⟩

/-- What a Put leaves. -/
def Putted (S : World → (Nat → Prop) → Addr → List Fl → Prop) (w wr : World) (G : Nat → Prop) (p1 p2 p3 : Addr) (a b c : List Fl) (r : Ending) (w' : World) : Prop :=
  (∃ v, r = .returned v) ∧ ∃ G', Three S w w' G' p1 p2 p3 a b c ∧ (∀ k, G' k → G k ∨ wr.heap.size ≤ k) ∧ But G wr w'

theorem three_put1 (hO : SpaceOk S) (h : Three S w wr G p1 p2 p3 a b c) (f : Fl) (hlen : a.length < 1000) (hs : a.all nearF = true) (hf : nearF f = true) (hsd : f.s = 1 ∨ f.s = 2) :
    Calls Try.prog 31 #[.pointer (some p1), .int .i64 f.s, .agg #[.int .i64 f.l, .int .i64 f.t, .int .i64 f.r, .int .i64 f.b]] wr (Putted S w wr G p1 p2 p3 (a ++ [f]) b c) := by
  obtain ⟨F1, F2, F3, h1, h2, h3, h4, h5, h6, h7, h8, h9⟩ := h
  refine (hO.put wr F1 p1 a f h1 hlen hs hf hsd).mono ?_
  rintro r w' ⟨hv, ⟨F1', g1, g2⟩, g3⟩
  have l2 := hO.lt _ _ _ _ h2
  have l3 := hO.lt _ _ _ _ h3
  have l1 := hO.lt _ _ _ _ g1
  have gz := g3.size
  refine ⟨hv, fun k => (G k ∨ wr.heap.size ≤ k) ∧ k < w'.heap.size, ⟨F1', F2, F3, g1, hO.keep _ _ _ _ _ _ h2 g3 (fun k hk q => h4 k q hk), hO.keep _ _ _ _ _ _ h3 g3 (fun k hk q => h5 k q hk), ?_, ?_, h6, ?_, ?_, ?_⟩, fun k hk => hk.1, But.more g3 fun k hk => h7 k (.inl hk)⟩
  · intro k hk q
    rcases g2 k hk with e | e
    · exact h4 k e q
    · have := l2 k q; omega
  · intro k hk q
    rcases g2 k hk with e | e
    · exact h5 k e q
    · have := l3 k q; omega
  · rintro k (hk | hk | hk)
    · refine ⟨?_, l1 k hk⟩
      rcases g2 k hk with e | e
      · exact .inl (h7 k (.inl e))
      · exact .inr e
    · exact ⟨.inl (h7 k (.inr (.inl hk))), by have := l2 k hk; omega⟩
    · exact ⟨.inl (h7 k (.inr (.inr hk))), by have := l3 k hk; omega⟩
  · rintro k ⟨hk | hk, hl⟩
    · exact ⟨(h8 k hk).1, hl⟩
    · exact ⟨by have := h9.size; omega, hl⟩
  · exact h9.trans (g3.below h9.size fun k hk => (h8 k (h7 k (.inl hk))).1)

theorem three_put2 (hO : SpaceOk S) (h : Three S w wr G p1 p2 p3 a b c) (f : Fl) (hlen : b.length < 1000) (hs : b.all nearF = true) (hf : nearF f = true) (hsd : f.s = 1 ∨ f.s = 2) :
    Calls Try.prog 31 #[.pointer (some p2), .int .i64 f.s, .agg #[.int .i64 f.l, .int .i64 f.t, .int .i64 f.r, .int .i64 f.b]] wr (Putted S w wr G p1 p2 p3 a (b ++ [f]) c) :=
  (three_put1 hO (three_turn h) f hlen hs hf hsd).mono fun r w' ⟨hv, G', t, g⟩ => ⟨hv, G', three_turn (three_turn t), g⟩
theorem three_put3 (hO : SpaceOk S) (h : Three S w wr G p1 p2 p3 a b c) (f : Fl) (hlen : c.length < 1000) (hs : c.all nearF = true) (hf : nearF f = true) (hsd : f.s = 1 ∨ f.s = 2) :
    Calls Try.prog 31 #[.pointer (some p3), .int .i64 f.s, .agg #[.int .i64 f.l, .int .i64 f.t, .int .i64 f.r, .int .i64 f.b]] wr (Putted S w wr G p1 p2 p3 a b (c ++ [f])) :=
  (three_put1 hO (three_turn (three_turn h)) f hlen hs hf hsd).mono fun r w' ⟨hv, G', t, g⟩ => ⟨hv, G', three_turn t, g⟩

set_option maxRecDepth 100000 in
set_option maxHeartbeats 600000 in
theorem psides_few (hO : SpaceOk S) (A : Option Addr) (n c : Nat) (fs : List Fl) (y : Int) (w : World) (hn : n = fs.length) (hlen : n ≤ 9223372036854775807) (hx : Floats w w.heap.size A fs) (hv : (fs.all nearF && decide ((n : Int) ≤ 40)) = false) :
    Calls Try.prog 7 #[.slice A n c, .int .i64 y] w fun e w' => e = .returned (.bool true) ∧ Below w.heap.size w w' := by
  have HFew := Lib.hid (fun w1 (k : Below w.heap.size w w1) => few_is A n c fs 40 false w1 hn hlen (hx.thru k) hv)
  clear hx hn hv
  go_enter Try.func7, Try.ntmps7
  go_upto_region 2 with (first
    | (go_at_call 8; refine (pspeaks hO _).mono ?_; rintro e w1 ⟨rfl, k1⟩; have K1 := Lib.hid k1; clear k1)
    | (go_at_call 9; refine (HFew.out _ K1.out).mono ?_; rintro e w2 ⟨rfl, k2⟩; have K2 := Lib.hid (thru K1.out k2); clear k2))
  go_wp2_with (first
    | (go_at_call 8; refine (pspeaks hO _).mono ?_; rintro e w9 ⟨rfl, k9⟩; have K9 := Lib.hid (thru K2.out k9); clear k9))
  go_ret
  exact ⟨rfl, K9.out⟩

set_option maxRecDepth 100000 in
set_option maxHeartbeats 600000 in
theorem psides_sides (hO : SpaceOk S) (A : Option Addr) (n c : Nat) (fs : List Fl) (y : Int) (w : World) (hn : n = fs.length) (hlen : n ≤ 40) (hx : Floats w w.heap.size A fs) (hs : fs.all nearF = true) (hv : fs.all sideF = false) :
    Calls Try.prog 7 #[.slice A n c, .int .i64 y] w fun e w' => e = .returned (.bool true) ∧ Below w.heap.size w w' := by
  have HFew := Lib.hid (fun w1 (k : Below w.heap.size w w1) => few_is A n c fs 40 true w1 hn (by omega) (hx.thru k) (by rw [hs]; simp; omega))
  have HSd := Lib.hid (fun w1 (k : Below w.heap.size w w1) => sides_is A n c fs false w1 hn (by omega) (hx.thru k) hv)
  clear hx hn hv hs
  go_enter Try.func7, Try.ntmps7
  go_upto_region 2 with (first
    | (go_at_call 8; refine (pspeaks hO _).mono ?_; rintro e w1 ⟨rfl, k1⟩; have K1 := Lib.hid k1; clear k1)
    | (go_at_call 9; refine (HFew.out _ K1.out).mono ?_; rintro e w2 ⟨rfl, k2⟩; have K2 := Lib.hid (thru K1.out k2); clear k2)
    | (go_at_call 10; refine (HSd.out _ K2.out).mono ?_; rintro e w3 ⟨rfl, k3⟩; have K3 := Lib.hid (thru K2.out k3); clear k3))
  go_wp2_with (first
    | (go_at_call 8; refine (pspeaks hO _).mono ?_; rintro e w9 ⟨rfl, k9⟩; have K9 := Lib.hid (thru K3.out k9); clear k9))
  go_ret
  exact ⟨rfl, K9.out⟩

set_option maxRecDepth 100000 in
set_option maxHeartbeats 1000000 in
theorem psides_yes (hO : SpaceOk S) (A : Option Addr) (n c : Nat) (fs : List Fl) (y : Int) (w : World) (hn : n = fs.length) (hlen : n ≤ 40) (hx : Floats w w.heap.size A fs) (hs : fs.all nearF = true) (hsd : fs.all sideF = true) :
    Calls Try.prog 7 #[.slice A n c, .int .i64 y] w fun e w' => e = .returned (.bool true) ∧ Below w.heap.size w w' := by
  have HFew := Lib.hid (fun w1 (k : Below w.heap.size w w1) => few_is A n c fs 40 true w1 hn (by omega) (hx.thru k) (by rw [hs]; simp; omega))
  have HSd := Lib.hid (fun w1 (k : Below w.heap.size w w1) => sides_is A n c fs true w1 hn (by omega) (hx.thru k) hsd)
  have HNew := Lib.hid (fun w => hO.new w)
  have HX := Lib.hid hx
  have HN := Lib.hid hn
  have HS := Lib.hid hs
  have HSD := Lib.hid hsd
  clear hx hn hs hsd
  go_enter Try.func7, Try.ntmps7
  go_upto_region 3 with (first
    | (go_at_call 8; refine (pspeaks hO _).mono ?_; rintro e w1 ⟨rfl, k1⟩; have K1 := Lib.hid k1; clear k1)
    | (go_at_call 9; refine (HFew.out _ K1.out).mono ?_; rintro e w2 ⟨rfl, k2⟩; have K2 := Lib.hid (thru K1.out k2); clear k2)
    | (go_at_call 10; refine (HSd.out _ K2.out).mono ?_; rintro e w3 ⟨rfl, k3⟩; have K3 := Lib.hid (thru K2.out k3); clear k3))
  go_wp2_with (first
    | (go_at_call 30; with_reducible refine (HNew.out w3).mono ?_; rintro e v1 ⟨⟨p1, F1, rfl, hL, hF⟩, k1⟩; have N1 := Lib.hid (⟨hL, hF, k1⟩ : S v1 F1 p1 [] ∧ (∀ k, F1 k → w3.heap.size ≤ k) ∧ Below w3.heap.size w3 v1); clear hL hF k1)
    | (go_at_call 30; with_reducible refine (HNew.out v1).mono ?_; rintro e v2 ⟨⟨p2, F2, rfl, hL, hF⟩, k1⟩; have N2 := Lib.hid (⟨hL, hF, k1⟩ : S v2 F2 p2 [] ∧ (∀ k, F2 k → v1.heap.size ≤ k) ∧ Below v1.heap.size v1 v2); clear hL hF k1)
    | (go_at_call 30; with_reducible refine (HNew.out v2).mono ?_; rintro e v3 ⟨⟨p3, F3, rfl, hL, hF⟩, k1⟩; have N3 := Lib.hid (⟨hL, hF, k1⟩ : S v3 F3 p3 [] ∧ (∀ k, F3 k → v2.heap.size ≤ k) ∧ Below v2.heap.size v2 v3); clear hL hF k1))
  have HT0 := Lib.hid (show ∃ G, Three S w v3 G p1 p2 p3 [] [] [] from by
    have a1 := hO.thru (hO.thru N1.out.1 N2.out.2.2) N3.out.2.2
    have a2 := hO.thru N2.out.1 N3.out.2.2
    have a3 := N3.out.1
    have l1 := hO.lt _ _ _ _ N1.out.1
    have l2 := hO.lt _ _ _ _ N2.out.1
    have l3 := hO.lt _ _ _ _ a3
    have z0 := K3.out.size
    have z1 := N1.out.2.2.size
    have z2 := N2.out.2.2.size
    have z3 := N3.out.2.2.size
    refine ⟨fun k => F1 k ∨ F2 k ∨ F3 k, F1, F2, F3, a1, a2, a3, ?_, ?_, ?_, fun k hk => hk, ?_, thru (thru (thru K3.out N1.out.2.2) N2.out.2.2) N3.out.2.2⟩
    · intro k q1 q2; have := l1 k q1; have := N2.out.2.1 k q2; omega
    · intro k q1 q2; have := l1 k q1; have := N3.out.2.1 k q2; omega
    · intro k q1 q2; have := l2 k q1; have := N3.out.2.1 k q2; omega
    · rintro k (q | q | q)
      · have := l1 k q; have := N1.out.2.1 k q; omega
      · have := l2 k q; have := N2.out.2.1 k q; omega
      · have := l3 k q; have := N3.out.2.1 k q; omega)
  clear N1 N2 N3 K1 K2 K3
  go_loopw [40] (fun i wr => ∃ k : Nat, k ≤ n ∧ i = .int .i64 (k : Int) ∧ Hid (∃ G, Three S w wr G p1 p2 p3 (fs.take k) (lefts (fs.take k)) (rights (fs.take k)))) (fun i _ => n - (intOf i).toNat)
  case atStart => exact ⟨0, Nat.zero_le _, rfl, Lib.hid (by simpa [lefts, rights] using HT0.out)⟩
  case round =>
    clear HT0
    obtain ⟨k, hk, rfl, H0⟩ := hrel
    obtain ⟨G, hG⟩ := H0.out
    have H := Lib.hid hG
    clear H0 hG
    by_cases hlt : k < n
    · have hki : (k : Int) < (n : Int) := by omega
      have hk0 : ¬ (k : Int) < 0 := by omega
      obtain ⟨f, hf⟩ : ∃ f, fs[k]? = some f := ⟨_, List.getElem?_eq_getElem (by rw [← HN.out]; exact hlt)⟩
      obtain ⟨ad, rfl, hab, d0, d1, d2, d3, d4⟩ := (HX.out.thru (three_below H.out)) k f hf
      have HFN := Lib.hid (List.all_eq_true.1 HS.out f (List.mem_of_getElem? hf))
      have HFS := Lib.hid (sideF_iff.1 (List.all_eq_true.1 HSD.out f (List.mem_of_getElem? hf)))
      have hta : (fs.take k).all nearF = true := List.all_eq_true.2 fun g hg => List.all_eq_true.1 HS.out g (List.mem_of_mem_take hg)
      have HTA := Lib.hid (⟨hta, List.all_eq_true.2 fun g hg => List.all_eq_true.1 hta g (List.mem_filter.1 hg).1, List.all_eq_true.2 fun g hg => List.all_eq_true.1 hta g (List.mem_filter.1 hg).1⟩ : (fs.take k).all nearF = true ∧ (lefts (fs.take k)).all nearF = true ∧ (rights (fs.take k)).all nearF = true)
      have htl : (fs.take k).length < 1000 := by rw [List.length_take]; omega
      have HLEN := Lib.hid (⟨Nat.lt_of_le_of_lt (List.length_filter_le _ _) htl, Nat.lt_of_le_of_lt (List.length_filter_le _ _) htl⟩ : (lefts (fs.take k)).length < 1000 ∧ (rights (fs.take k)).length < 1000)
      have hk1 : fs.take k ++ [f] = fs.take (k + 1) := by rw [List.take_add_one, hf]; rfl
      have HKF := Lib.hid (⟨hk1, filter_take hf (fun f => f.s == 1), filter_take hf (fun f => f.s == 2)⟩ : fs.take k ++ [f] = fs.take (k + 1) ∧ lefts (fs.take (k + 1)) = lefts (fs.take k) ++ (if f.s == 1 then [f] else []) ∧ rights (fs.take (k + 1)) = rights (fs.take k) ++ (if f.s == 2 then [f] else []))
      have HTL := Lib.hid htl
      clear hf hta htl hk1
      go_upto_region 9 with fail
      generalize hW : World.alloc wr _ = W
      obtain ⟨b5, hb⟩ : ∃ b5, wr.heap.size = b5 := ⟨_, rfl⟩
      have hbW : Below wr.heap.size wr W := by rw [← hW]; exact ba1 _ _
      have e0 : W.cell? ⟨b5, 0, none⟩ = some (.int .i64 f.s) := by rw [← hW, ← hb]; simp [go_sem]
      have e1 : W.cell? ⟨b5, 1, none⟩ = some (.int .i64 f.l) := by rw [← hW, ← hb]; simp [go_sem]
      have e2 : W.cell? ⟨b5, 2, none⟩ = some (.int .i64 f.t) := by rw [← hW, ← hb]; simp [go_sem]
      have e3 : W.cell? ⟨b5, 3, none⟩ = some (.int .i64 f.r) := by rw [← hW, ← hb]; simp [go_sem]
      have e4 : W.cell? ⟨b5, 4, none⟩ = some (.int .i64 f.b) := by rw [← hW, ← hb]; simp [go_sem]
      have hb5 : b5 < W.heap.size := block_lt_of_cell e0
      have hgb := Lib.hid (show ¬ G b5 from fun q => by have := three_lt H.out b5 q; omega)
      have TW := Lib.hid (three_thru hO H.out hbW)
      have HE := Lib.hid (fun w' (j : Below W.heap.size W w') => (⟨(j.cell (p := ⟨b5, 0, none⟩) hb5).trans e0, (j.cell (p := ⟨b5, 1, none⟩) hb5).trans e1, (j.cell (p := ⟨b5, 2, none⟩) hb5).trans e2, (j.cell (p := ⟨b5, 3, none⟩) hb5).trans e3, (j.cell (p := ⟨b5, 4, none⟩) hb5).trans e4⟩ : w'.cell? ⟨b5, 0, none⟩ = some (.int .i64 f.s) ∧ w'.cell? ⟨b5, 1, none⟩ = some (.int .i64 f.l) ∧ w'.cell? ⟨b5, 2, none⟩ = some (.int .i64 f.t) ∧ w'.cell? ⟨b5, 3, none⟩ = some (.int .i64 f.r) ∧ w'.cell? ⟨b5, 4, none⟩ = some (.int .i64 f.b)))
      rw [hb]
      have HB5 := Lib.hid hb5
      clear hW hb d0 d1 d2 d3 d4 hbW e0 e1 e2 e3 e4 hb5 H
      refine Hold.wp_region_hold [.val (.pointer (some p1)), .val (.pointer (some ⟨b5, 0, none⟩)), .val (.int .i64 f.s), .val (.pointer (some ⟨b5, 1, none⟩)), .val (.agg #[.int .i64 f.l, .int .i64 f.t, .int .i64 f.r, .int .i64 f.b]), .val (.agg #[.int .i64 f.l, .int .i64 f.t, .int .i64 f.r, .int .i64 f.b])] (by kernel_rfl) (by kernel_rfl) (by kernel_rfl) ?_ ?_
      · simp only [Hold.fill, Hold.Leave.value]
        refine ⟨?_, ?_, ?_, ?_, ?_, ?_, trivial⟩
        · intro gg w' hw hk
          go_simp
          exact ⟨rfl, rfl⟩
        · intro gg w' hw hk
          go_simp
          exact ⟨rfl, rfl⟩
        · intro gg w' hw hk
          have q0 := (HE.out w' hw).1
          go_simp
          exact ⟨rfl, rfl⟩
        · intro gg w' hw hk
          go_simp
          exact ⟨rfl, rfl⟩
        · intro gg w' hw hk
          have q := HE.out w' hw
          have q1 := q.2.1
          have q2 := q.2.2.1
          have q3 := q.2.2.2.1
          have q4 := q.2.2.2.2
          clear q
          go_simp
          exact ⟨rfl, rfl⟩
        · intro gg w' hw hk
          go_simp
          exact Hold.stays_call (of_any _ _ _ _ w')
      intro gg w2 k2 hgg
      clear hgg
      simp only [Hold.fill, Hold.Leave.value, List.length_cons, List.length_nil, List.drop_succ_cons, List.drop_zero]
      have hP := three_put1 hO (three_thru hO TW.out k2) f HTL.out HTA.out.1 HFN.out HFS.out
      have HP := Lib.hid hP
      have hE2 := Lib.hid (HE.out w2 k2)
      have hL2 := Lib.hid (show b5 < w2.heap.size from Nat.lt_of_lt_of_le HB5.out k2.size)
      clear hP k2 TW HE
      go_upto_region 10 with (first
        | (go_at_call 31; refine HP.out.mono ?_; rintro e w4 ⟨⟨v, rfl⟩, G4, hT4, hG4, k4⟩; have T4 := Lib.hid (⟨hT4, fun q => (hG4 b5 q).elim hgb.out fun q => by have := hL2.out; omega⟩ : Three S w w4 G4 p1 p2 p3 (fs.take k ++ [f]) (lefts (fs.take k)) (rights (fs.take k)) ∧ ¬ G4 b5); have e0 := (k4.cell (o := 0) hL2.out hgb.out).trans hE2.out.1; have e1 := (k4.cell (o := 1) hL2.out hgb.out).trans hE2.out.2.1; have e2 := (k4.cell (o := 2) hL2.out hgb.out).trans hE2.out.2.2.1; have e3 := (k4.cell (o := 3) hL2.out hgb.out).trans hE2.out.2.2.2.1; have e4 := (k4.cell (o := 4) hL2.out hgb.out).trans hE2.out.2.2.2.2; clear hT4 hG4 k4))
      have hb5 : b5 < w4.heap.size := block_lt_of_cell e0
      have HE4 := Lib.hid (fun w' (j : Below w4.heap.size w4 w') => (⟨(j.cell (p := ⟨b5, 0, none⟩) hb5).trans e0, (j.cell (p := ⟨b5, 1, none⟩) hb5).trans e1, (j.cell (p := ⟨b5, 2, none⟩) hb5).trans e2, (j.cell (p := ⟨b5, 3, none⟩) hb5).trans e3, (j.cell (p := ⟨b5, 4, none⟩) hb5).trans e4⟩ : w'.cell? ⟨b5, 0, none⟩ = some (.int .i64 f.s) ∧ w'.cell? ⟨b5, 1, none⟩ = some (.int .i64 f.l) ∧ w'.cell? ⟨b5, 2, none⟩ = some (.int .i64 f.t) ∧ w'.cell? ⟨b5, 3, none⟩ = some (.int .i64 f.r) ∧ w'.cell? ⟨b5, 4, none⟩ = some (.int .i64 f.b)))
      clear e1 e2 e3 e4 hb5 hE2 hL2 HP
      by_cases h1 : f.s = 1
      · have hcb : (f.s == 1) = true := by simp [h1]
        have HK1 := Lib.hid (show fs.take k ++ [f] = fs.take (k + 1) ∧ lefts (fs.take k) ++ [f] = lefts (fs.take (k + 1)) ∧ rights (fs.take k) = rights (fs.take (k + 1)) from ⟨HKF.out.1, by rw [HKF.out.2.1]; simp [h1], by rw [HKF.out.2.2]; simp [h1]⟩)
        clear h1
        go_upto_region 11 with fail
        refine Hold.wp_region_hold [.val (.pointer (some p2)), .val (.pointer (some ⟨b5, 0, none⟩)), .val (.int .i64 f.s), .val (.pointer (some ⟨b5, 1, none⟩)), .val (.agg #[.int .i64 f.l, .int .i64 f.t, .int .i64 f.r, .int .i64 f.b]), .val (.agg #[.int .i64 f.l, .int .i64 f.t, .int .i64 f.r, .int .i64 f.b])] (by kernel_rfl) (by kernel_rfl) (by kernel_rfl) ?_ ?_
        · simp only [Hold.fill, Hold.Leave.value]
          refine ⟨?_, ?_, ?_, ?_, ?_, ?_, trivial⟩
          · intro gg w' hw hk
            go_simp
            exact ⟨rfl, rfl⟩
          · intro gg w' hw hk
            go_simp
            exact ⟨rfl, rfl⟩
          · intro gg w' hw hk
            have q0 := (HE4.out w' hw).1
            go_simp
            exact ⟨rfl, rfl⟩
          · intro gg w' hw hk
            go_simp
            exact ⟨rfl, rfl⟩
          · intro gg w' hw hk
            have q := HE4.out w' hw
            have q1 := q.2.1
            have q2 := q.2.2.1
            have q3 := q.2.2.2.1
            have q4 := q.2.2.2.2
            clear q
            go_simp
            exact ⟨rfl, rfl⟩
          · intro gg w' hw hk
            go_simp
            exact Hold.stays_call (of_any _ _ _ _ w')
        intro gg w6 k6 hgg
        clear hgg
        simp only [Hold.fill, Hold.Leave.value, List.length_cons, List.length_nil, List.drop_succ_cons, List.drop_zero]
        have HP6 := Lib.hid (three_put2 hO (three_thru hO T4.out.1 k6) f HLEN.out.1 HTA.out.2.1 HFN.out HFS.out)
        clear k6
        go_wp2_with (first
          | (go_at_call 31; refine HP6.out.mono ?_; rintro e w7 ⟨⟨v, rfl⟩, G7, hT7, hG7, k7⟩; have T7 := Lib.hid (⟨G7, three_to hT7 HK1.out.1 HK1.out.2.1 HK1.out.2.2⟩ : ∃ G, Three S w w7 G p1 p2 p3 (fs.take (k + 1)) (lefts (fs.take (k + 1))) (rights (fs.take (k + 1)))); clear hT7 hG7 k7))
        go_roundw
        case rel => exact ⟨k + 1, by omega, by go_num, T7⟩
        case measure => simp [intOf]; omega
      · have hcb : (f.s == 1) = false := by simp [h1]
        have h2 : f.s = 2 := HFS.out.resolve_left h1
        have HK1 := Lib.hid (show fs.take k ++ [f] = fs.take (k + 1) ∧ lefts (fs.take k) = lefts (fs.take (k + 1)) ∧ rights (fs.take k) ++ [f] = rights (fs.take (k + 1)) from ⟨HKF.out.1, by rw [HKF.out.2.1]; simp [h1], by rw [HKF.out.2.2]; simp [h2]⟩)
        clear h1 h2
        go_upto_region 12 with fail
        refine Hold.wp_region_hold [.val (.pointer (some p3)), .val (.pointer (some ⟨b5, 0, none⟩)), .val (.int .i64 f.s), .val (.pointer (some ⟨b5, 1, none⟩)), .val (.agg #[.int .i64 f.l, .int .i64 f.t, .int .i64 f.r, .int .i64 f.b]), .val (.agg #[.int .i64 f.l, .int .i64 f.t, .int .i64 f.r, .int .i64 f.b])] (by kernel_rfl) (by kernel_rfl) (by kernel_rfl) ?_ ?_
        · simp only [Hold.fill, Hold.Leave.value]
          refine ⟨?_, ?_, ?_, ?_, ?_, ?_, trivial⟩
          · intro gg w' hw hk
            go_simp
            exact ⟨rfl, rfl⟩
          · intro gg w' hw hk
            go_simp
            exact ⟨rfl, rfl⟩
          · intro gg w' hw hk
            have q0 := (HE4.out w' hw).1
            go_simp
            exact ⟨rfl, rfl⟩
          · intro gg w' hw hk
            go_simp
            exact ⟨rfl, rfl⟩
          · intro gg w' hw hk
            have q := HE4.out w' hw
            have q1 := q.2.1
            have q2 := q.2.2.1
            have q3 := q.2.2.2.1
            have q4 := q.2.2.2.2
            clear q
            go_simp
            exact ⟨rfl, rfl⟩
          · intro gg w' hw hk
            go_simp
            exact Hold.stays_call (of_any _ _ _ _ w')
        intro gg w6 k6 hgg
        clear hgg
        simp only [Hold.fill, Hold.Leave.value, List.length_cons, List.length_nil, List.drop_succ_cons, List.drop_zero]
        have HP6 := Lib.hid (three_put3 hO (three_thru hO T4.out.1 k6) f HLEN.out.2 HTA.out.2.2 HFN.out HFS.out)
        clear k6
        go_wp2_with (first
          | (go_at_call 31; refine HP6.out.mono ?_; rintro e w7 ⟨⟨v, rfl⟩, G7, hT7, hG7, k7⟩; have T7 := Lib.hid (⟨G7, three_to hT7 HK1.out.1 HK1.out.2.1 HK1.out.2.2⟩ : ∃ G, Three S w w7 G p1 p2 p3 (fs.take (k + 1)) (lefts (fs.take (k + 1))) (rights (fs.take (k + 1)))); clear hT7 hG7 k7))
        go_roundw
        case rel => exact ⟨k + 1, by omega, by go_num, T7⟩
        case measure => simp [intOf]; omega
    · obtain rfl : k = n := by omega
      have hend := H.out
      rw [List.take_of_length_le (by rw [← HN.out]; omega)] at hend
      have H0 := Lib.hid hend
      have HC1 := fun w1 (c : Int) (hc : 0 ≤ c ∧ c ≤ 3) (h : Three S w w1 G p1 p2 p3 fs (lefts fs) (rights fs)) => (three_s1 h).elim fun F h' => hO.clear w1 F p1 fs c y h' HS.out hc
      have HC2 := fun w1 (c : Int) (hc : 0 ≤ c ∧ c ≤ 3) (h : Three S w w1 G p1 p2 p3 fs (lefts fs) (rights fs)) => (three_s2 h).elim fun F h' => hO.clear w1 F p2 (lefts fs) c y h' (List.all_eq_true.2 fun g hg => List.all_eq_true.1 HS.out g (List.mem_filter.1 hg).1) hc
      have HC3 := fun w1 (c : Int) (hc : 0 ≤ c ∧ c ≤ 3) (h : Three S w w1 G p1 p2 p3 fs (lefts fs) (rights fs)) => (three_s3 h).elim fun F h' => hO.clear w1 F p3 (rights fs) c y h' (List.all_eq_true.2 fun g hg => List.all_eq_true.1 HS.out g (List.mem_filter.1 hg).1) hc
      have C0 := Lib.hid (fun w1 (h : Three S w w1 G p1 p2 p3 fs (lefts fs) (rights fs)) => HC1 w1 1 ⟨by decide, by decide⟩ h)
      have C1 := Lib.hid (fun w1 (h : Three S w w1 G p1 p2 p3 fs (lefts fs) (rights fs)) => HC1 w1 2 ⟨by decide, by decide⟩ h)
      have C2 := Lib.hid (fun w1 (h : Three S w w1 G p1 p2 p3 fs (lefts fs) (rights fs)) => HC2 w1 3 ⟨by decide, by decide⟩ h)
      have C3 := Lib.hid (fun w1 (h : Three S w w1 G p1 p2 p3 fs (lefts fs) (rights fs)) => HC3 w1 3 ⟨by decide, by decide⟩ h)
      have C4 := Lib.hid (fun w1 (h : Three S w w1 G p1 p2 p3 fs (lefts fs) (rights fs)) => HC1 w1 3 ⟨by decide, by decide⟩ h)
      have C5 := Lib.hid (fun w1 (h : Three S w w1 G p1 p2 p3 fs (lefts fs) (rights fs)) => HC2 w1 2 ⟨by decide, by decide⟩ h)
      have C6 := Lib.hid (fun w1 (h : Three S w w1 G p1 p2 p3 fs (lefts fs) (rights fs)) => HC3 w1 1 ⟨by decide, by decide⟩ h)
      have v1 := side_left fs y
      have v2 := side_right fs y
      have v3 := side_both fs y HSD.out
      have v4 := left_other fs y
      have v5 := right_other fs y
      obtain ⟨a1, ha1⟩ : ∃ a1, clearS fs 1 y = a1 := ⟨_, rfl⟩
      obtain ⟨b1, hb1⟩ : ∃ b1, clearS fs 2 y = b1 := ⟨_, rfl⟩
      obtain ⟨m1, hm1⟩ : ∃ m1, max a1 b1 = m1 := ⟨_, rfl⟩
      rw [ha1] at v1
      rw [hb1] at v2
      rw [ha1, hb1, hm1] at v3
      rw [ha1] at C0
      rw [hb1] at C1
      rw [← v1] at C2
      rw [← v2] at C3
      rw [v3] at C4
      rw [v4] at C5
      rw [v5] at C6
      have HMX := Lib.hid hm1
      clear v1 v2 v3 v4 v5 ha1 hb1 HC1 HC2 HC3 hend H hlt HX
      have hmm : (if a1 < b1 then b1 else a1) = m1 := by omega
      go_wp2_with (first
        | (go_at_call 16; with_reducible refine (C0.out _ H0.out).mono ?_; rintro e x0 ⟨rfl, j0⟩; have T0 := Lib.hid (three_thru hO H0.out j0); clear j0)
        | (go_at_call 16; with_reducible refine (C1.out _ T0.out).mono ?_; rintro e x1 ⟨rfl, j1⟩; have T1 := Lib.hid (three_thru hO T0.out j1); clear j1)
        | (go_at_call 16; with_reducible refine (C2.out _ T1.out).mono ?_; rintro e x2 ⟨rfl, j2⟩; have T2 := Lib.hid (three_thru hO T1.out j2); clear j2)
        | (go_at_call 16; with_reducible refine (C3.out _ T2.out).mono ?_; rintro e x3 ⟨rfl, j3⟩; have T3 := Lib.hid (three_thru hO T2.out j3); clear j3)
        | (go_at_call 16; with_reducible refine (C4.out _ T3.out).mono ?_; rintro e x4 ⟨rfl, j4⟩; have T4 := Lib.hid (three_thru hO T3.out j4); clear j4)
        | (go_at_call 16; with_reducible refine (C5.out _ T4.out).mono ?_; rintro e x5 ⟨rfl, j5⟩; have T5 := Lib.hid (three_thru hO T4.out j5); clear j5)
        | (go_at_call 16; with_reducible refine (C6.out _ T5.out).mono ?_; rintro e x6 ⟨rfl, j6⟩; have T6 := Lib.hid (three_thru hO T5.out j6); clear j6))
      go_ret
      exact ⟨rfl, three_below T6.out⟩

theorem psides_any (hO : SpaceOk S) (A : Option Addr) (n c : Nat) (fs : List Fl) (y : Int) (w : World) (hn : n = fs.length) (hm : n ≤ 9223372036854775807) (hx : Floats w w.heap.size A fs) :
    Calls Try.prog 7 #[.slice A n c, .int .i64 y] w fun e w' => e = .returned (.bool true) ∧ Below w.heap.size w w' := by
  by_cases hh : (fs.all nearF && decide ((n : Int) ≤ 40)) = true
  · simp only [Bool.and_eq_true, decide_eq_true_eq] at hh
    by_cases h2 : fs.all sideF = true
    · exact psides_yes hO A n c fs y w hn (by omega) hx hh.1 h2
    · exact psides_sides hO A n c fs y w hn (by omega) hx hh.1 (by simpa using h2)
  · exact psides_few hO A n c fs y w hn hm hx (by simpa using hh)

end

end Go.Proofs.Ytpfcefflcmeobaa.Space
