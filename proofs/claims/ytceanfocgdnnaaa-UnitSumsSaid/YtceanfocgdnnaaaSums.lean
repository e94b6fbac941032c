/- The walk of UnitSums. -/
import Derived.Test.YtceanfocgdnnaaaApp
namespace Go.Proofs.Ytceanfocgdnnaaa
open Go.RowKit

/-- The int32s of a slice, below block B. -/
def Nums32 (w : World) (B : Nat) (A : Option Addr) (xs : List Int) : Prop :=
  ∀ k, k < xs.length → ∃ ad : Addr, A = some ad ∧ ad.block < B ∧ w.cell? (ad.add k) = some (.int .i32 (xs.getD k 0))

theorem Nums32.below {w w' : World} {B : Nat} {A : Option Addr} {xs : List Int} (h : Nums32 w B A xs) (k : Below B w w') : Nums32 w' B A xs := fun i hi => by
  obtain ⟨ad, e, hb, hc⟩ := h i hi
  exact ⟨ad, e, hb, by rw [k.cell (by rw [block_of_add]; exact hb)]; exact hc⟩

theorem one_src (w : World) (n : Int) : Src (w.alloc (.cells #[.int .i64 n] 3)) (some ⟨w.heap.size, 0, none⟩) 1 1 [n] := by
  refine ⟨rfl, fun e => (by cases e), fun k hk => ?_⟩
  simp only [List.length_cons, List.length_nil] at hk
  obtain rfl : k = 0 := by omega
  exact ⟨_, rfl, cell_one_new w (.int .i64 n) 3 0 _ rfl⟩

theorem one_mine (w : World) (B : Nat) (hB : B ≤ w.heap.size) (n : Int) : Mine (w.alloc (.cells #[.int .i64 n] 3)) B (some ⟨w.heap.size, 0, none⟩) 1 1 [n] :=
  World.ownsRow_lit w #[.int .i64 n] 1 hB (by unfold maxLen; omega) rfl

theorem Mine.alloc {w : World} {B : Nat} {A : Option Addr} {n c : Nat} {xs : List Int} (h : Mine w B A n c xs) (o : Obj) : Mine (w.alloc o) B A n c xs :=
  World.ownsRow.alloc h o

theorem Appended.below {w W : World} {B C : Nat} {A : Option Addr} {n c : Nat} {xs ys : List Int} {m : Nat} {A' : Option Addr} {c' : Nat} {w' : World}
    (h : Appended w B A n xs ys m A' c' w') (hown : Mine w B A n c xs) (hw : Below C W w) (hC : C ≤ B) (hB : C ≤ w.heap.size) : Below C W w' :=
  hw.grown h.2.1 hB (fun k hk => by have := (hown.lt k hk).1; omega)

/-- The two lists of the law after k numbers: in order, and turned round. -/
def Two (w wr : World) (xs : List Int) (k : Nat) (Av Au : Option Addr) (cv cu : Nat) : Prop :=
  Mine wr w.heap.size Av k cv (xs.take k) ∧ Mine wr w.heap.size Au k cu (xs.take k).reverse ∧ (∀ b, blk Av = some b → blk Au ≠ some b) ∧ Below w.heap.size w wr

theorem Two.start (w : World) (xs : List Int) : Two w w xs 0 none none 0 0 :=
  ⟨World.ownsRow_nil _ _ _ _, World.ownsRow_nil _ _ _ _, fun b hb => (by cases hb), Below.refl _ _⟩

/-- What two appends leave of two lists: one behind, one ahead. -/
theorem two_appends {w wr W2 W4 : World} {B k cv c1 c2 : Nat} {Av A1 A2 : Option Addr} {xs ys : List Int} {n : Int}
    (hv : Mine wr B Av k cv xs) (hb : Below B w wr) (hB : B ≤ wr.heap.size)
    (h1 : Appended (wr.alloc (.cells #[.int .i64 n] 3)) B Av k xs [n] 1 A1 c1 W2)
    (h2 : Appended (W2.alloc (.cells #[.int .i64 n] 3)) B (some ⟨W2.heap.size, 0, none⟩) 1 [n] ys k A2 c2 W4) :
    Mine W4 B A1 (k + 1) c1 (xs ++ [n]) ∧ Mine W4 B A2 (k + 1) c2 (n :: ys) ∧ (∀ b, blk A1 = some b → blk A2 ≠ some b) ∧ Below B w W4 := by
  have g1 := h1.2.1.size
  simp at g1
  have b1 : Below B w W2 := h1.below (hv.alloc _) (hb.alloc hB _) (Nat.le_refl _) (by simp; omega)
  have m1 := h1.1
  have l1 := m1.lt
  refine ⟨?_, ?_, ?_, ?_⟩
  · exact (m1.alloc _).kept h2.2.1 (fun b hb e => by
      have := (l1 b hb).2
      injection e with e
      simp at e
      omega)
  · have := h2.1
    rwa [Nat.add_comm 1 k] at this
  · intro b hb e
    have := (l1 b hb).2
    rcases h2.2.2 with h | h
    · rw [h] at e; simp [blk] at e; omega
    · rw [h] at e; simp at e; omega
  · exact h2.below (one_mine W2 B (by omega) n) (b1.alloc (by omega) _) (Nat.le_refl _) (by simp; omega)

/-- What the second append finds. -/
theorem second_src {wr W2 : World} {B k cu c1 : Nat} {Av Au A1 : Option Addr} {xs ys : List Int} {n : Int}
    (hu : Mine wr B Au k cu ys) (hne : ∀ b, blk Av = some b → blk Au ≠ some b)
    (h1 : Appended (wr.alloc (.cells #[.int .i64 n] 3)) B Av k xs [n] 1 A1 c1 W2) : Mine W2 B Au k cu ys :=
  (hu.alloc _).kept h1.2.1 (fun b hb e => hne b e hb)

theorem sum_told (A : Option Addr) (len cap : Nat) (xs : List Int) (t : Int) (w : World) (hm : len ≤ 9223372036854775807) (B : Nat) (hx : Mine w B A len cap xs) (ht : sumFrom 0 xs = (true, t)) :
    Calls Try.prog 13 #[.slice A len cap] w fun e w' => e = .returned (.tuple #[.int .i64 t, .bool true]) ∧ Below w.heap.size w w' := by
  refine (sum_any A len cap xs w hx.len.symm hm hx.nums).mono ?_
  rintro e w' ⟨rfl, hk⟩
  exact ⟨by rw [sumV_yes (by rw [ht]), ht], hk.1⟩

theorem sum_over (A : Option Addr) (len cap : Nat) (xs : List Int) (w : World) (hm : len ≤ 9223372036854775807) (B : Nat) (hx : Mine w B A len cap xs) (ht : (sumFrom 0 xs).1 = false) :
    Calls Try.prog 13 #[.slice A len cap] w fun e w' => e = .returned (.tuple #[.int .i64 0, .bool false]) ∧ Below w.heap.size w w' := by
  refine (sum_any A len cap xs w hx.len.symm hm hx.nums).mono ?_
  rintro e w' ⟨rfl, hk⟩
  exact ⟨by rw [sumV_no ht], hk.1⟩

theorem Mine.form {w : World} {B : Nat} {A : Option Addr} {n c : Nat} {xs : List Int} (h : Mine w B A n c xs) : (A = none ∧ n = 0 ∧ c = 0 ∧ xs = []) ∨ ∃ g, A = some ⟨g, 0, none⟩ ∧ n ≤ c ∧ g < w.heap.size := by
  have hl := h.len
  rcases h.2 with ⟨e, h0⟩ | ⟨g, cap, cur, e, _, hg, hc, _⟩
  · injection e with e1 e2 e3
    exact .inl ⟨e1, h0, e3, List.eq_nil_of_length_eq_zero (by omega)⟩
  · injection e with e1 e2 e3
    refine .inr ⟨g, e1, by omega, ?_⟩
    rcases Nat.lt_or_ge g w.heap.size with hlt | hge
    · exact hlt
    · rw [Array.getElem?_eq_none hge] at hg; cases hg

theorem Mine.front {w : World} {B : Nat} {A : Option Addr} {n c : Nat} {xs : List Int} (h : Mine w B A n c xs) (q : Nat) (hq : q ≤ n) : Src w A q c (xs.take q) := by
  have hl := h.len
  obtain ⟨s1, s2, s3⟩ := h.src
  refine ⟨by rw [List.length_take]; omega, s2, fun k hk => ?_⟩
  rw [List.length_take] at hk
  obtain ⟨ad, e, hc⟩ := s3 k (by omega)
  refine ⟨ad, e, ?_⟩
  rw [hc]
  simp only [List.getD, List.getElem?_take]
  rw [if_pos (by omega)]

theorem Mine.back {w : World} {B : Nat} {g n c : Nat} {xs : List Int} (h : Mine w B (some ⟨g, 0, none⟩) n c xs) (q : Nat) (hq : q ≤ n) :
    ∃ A5, (if c = q then some (⟨g, 0, none⟩ : Addr) else some ⟨g, q, none⟩) = some A5 ∧ Src w (some A5) (n - q) (c - q) (xs.drop q) := by
  have hl := h.len
  obtain ⟨s1, s2, s3⟩ := h.src
  have hnc : n ≤ c := by
    rcases h.form with ⟨e, _⟩ | ⟨_, _, e, _⟩
    · cases e
    · exact e
  by_cases hcq : c = q
  · refine ⟨⟨g, 0, none⟩, by simp [hcq], ?_⟩
    have : xs.drop q = [] := List.drop_eq_nil_of_le (by omega)
    rw [this]
    exact ⟨by simp; omega, fun e => (by cases e), fun k hk => (by simp at hk)⟩
  · refine ⟨⟨g, q, none⟩, by simp [hcq], ?_⟩
    refine ⟨by rw [List.length_drop]; omega, fun e => (by cases e), fun k hk => ?_⟩
    rw [List.length_drop] at hk
    obtain ⟨ad, e, hc⟩ := s3 (q + k) (by omega)
    injection e with e
    subst e
    refine ⟨_, rfl, ?_⟩
    rw [Addr.add_lit] at hc ⊢
    rw [Nat.zero_add] at hc
    rw [hc]
    simp [List.getD, List.getElem?_drop]

/-- What stays behind each append: the list, all that was, the room. -/
def Stays (w : World) (g k cv : Nat) (xs : List Int) (V : World) : Prop :=
  Mine V w.heap.size (some ⟨g, 0, none⟩) k cv xs ∧ Below w.heap.size w V

theorem Stays.size {w V : World} {g k cv : Nat} {xs : List Int} (h : Stays w g k cv xs V) : w.heap.size ≤ V.heap.size := h.2.size
theorem Stays.g_lt {w V : World} {g k cv : Nat} {xs : List Int} (h : Stays w g k cv xs V) : g < V.heap.size := (h.1.lt g rfl).2
theorem Stays.drew {w V : World} {g k cv : Nat} {xs : List Int} (h : Stays w g k cv xs V) : Stays w g k cv xs V.drew := ⟨h.1, h.2.drew⟩
theorem Stays.alloc {w V : World} {g k cv : Nat} {xs : List Int} (h : Stays w g k cv xs V) (o : Obj) : Stays w g k cv xs (V.alloc o) := ⟨h.1.alloc o, h.2.alloc h.size o⟩

theorem Stays.app {w V V' : World} {g k cv n m c c' : Nat} {xs ys zs : List Int} {A A' : Option Addr} (h : Stays w g k cv xs V)
    (ha : Appended V w.heap.size A n ys zs m A' c' V') (ho : Mine V w.heap.size A n c ys) (hne : blk A ≠ some g) : Stays w g k cv xs V' ∧ blk A' ≠ some g := by
  refine ⟨⟨h.1.kept ha.2.1 (fun b hb e => ?_), ha.below ho h.2 (Nat.le_refl _) h.size⟩, ?_⟩
  · simp only [blk, Option.some.injEq] at hb
    subst hb
    exact hne e
  · rcases ha.2.2 with e | e
    · rw [e]; exact hne
    · rw [e]
      have := h.g_lt
      intro e2
      injection e2 with e2
      omega

theorem none_mine (w : World) (B : Nat) (hB : B ≤ w.heap.size) : Mine (w.alloc (.cells #[] 3)) B (some ⟨w.heap.size, 0, none⟩) 0 0 [] :=
  World.ownsRow_lit w #[] 0 hB (by unfold maxLen; omega) rfl

theorem Src.grown {w w' : World} {b m c : Nat} {ys : List Int} {row : Option Nat} (h : Src w (some ⟨b, 0, none⟩) m c ys) (hg : w.grownBy w' row) (hne : row ≠ some b) : Src w' (some ⟨b, 0, none⟩) m c ys := by
  obtain ⟨h1, h2, h3⟩ := h
  refine ⟨h1, h2, fun k hk => ?_⟩
  obtain ⟨ad, e, hc⟩ := h3 k hk
  injection e with e
  subst e
  exact ⟨_, rfl, hg.cell hc (by rw [block_of_add]; exact fun e => hne e.symm)⟩

theorem Src.alloc {w : World} {b m c : Nat} {ys : List Int} (h : Src w (some ⟨b, 0, none⟩) m c ys) (o : Obj) : Src (w.alloc o) (some ⟨b, 0, none⟩) m c ys :=
  h.grown (World.grownBy_alloc w o none) (fun e => by cases e)

theorem Src.drew {w : World} {A : Option Addr} {m c : Nat} {ys : List Int} (h : Src w A m c ys) : Src w.drew A m c ys := h
theorem Mine.drew {w : World} {B : Nat} {A : Option Addr} {n c : Nat} {xs : List Int} (h : Mine w B A n c xs) : Mine w.drew B A n c xs := h

theorem Stays.back {w V : World} {g k cv q : Nat} {xs : List Int} (h : Stays w g k cv xs V) (hq : q ≤ k) {A5 : Addr} (hA : (if cv = q then some (⟨g, 0, none⟩ : Addr) else some ⟨g, q, none⟩) = some A5) :
    Src V (some A5) (k - q) (cv - q) (xs.drop q) := by
  obtain ⟨A, e, hs⟩ := h.1.back q hq
  rw [hA] at e
  rw [e]
  exact hs

theorem nil_src (V : World) : Src V none 0 0 [] := ⟨rfl, fun _ => rfl, fun k hk => by simp at hk⟩

/-- Three appends, in whichever order the pieces were laid: the second and the third one. -/
theorem great_over {xs : List Int} {q : Nat} {great : Int} (hg : great ≤ -281474976710656 ∨ 281474976710656 ≤ great) : (sumFrom 0 (xs.take q ++ [great] ++ xs.drop q)).1 = false := by
  rw [List.append_assoc]
  exact sumFrom_great great hg _ _ _

set_option maxRecDepth 100000 in
set_option maxHeartbeats 1600000 in
theorem sums_walk (A : Option Addr) (len cap : Nat) (xs : List Int) (cut great : Int) (w : World) (hlen : len = xs.length) (hm : len ≤ 9223372036854775807)
    (hcut : 0 ≤ cut ∧ cut ≤ 255) (hbn : ∀ n ∈ xs, -2147483648 ≤ n ∧ n ≤ 2147483647) (hx : Nums32 w w.heap.size A xs) :
    Calls Try.prog 7 #[.slice A len cap, .int .u8 cut, .int .i64 great] w fun e w' => e = .returned (.bool true) ∧ Below w.heap.size w w' := by
  have HL := Lib.hid hlen
  have HX := Lib.hid hx
  have HBN := Lib.hid hbn
  clear hlen hx hbn
  by_cases h60 : len ≤ 60
  · go_enter Try.func7, Try.ntmps7
    go_wp2_with fail
    refine (speaks_any _).mono ?_; rintro e w' ⟨rfl, rfl⟩
    go_wp2_with fail
    go_loopw [7, 8, 9, 28] (fun v u s i wr => ∃ k : Nat, ∃ Av Au : Option Addr, ∃ cv cu : Nat, k ≤ len ∧ i = .int .i64 k ∧ v = .slice Av k cv ∧ u = .slice Au k cu ∧ s = .int .i64 (xs.take k).sum ∧
      Two w wr xs k Av Au cv cu)
      (fun _ _ _ i _ => len - (intOf i).toNat)
    case atStart => exact ⟨0, none, none, 0, 0, Nat.zero_le _, rfl, rfl, rfl, rfl, Two.start _ _⟩
    case round =>
      obtain ⟨k, Av, Au, cv, cu, hk, rfl, rfl, rfl, rfl, hv, hu, hne, hbl⟩ := hrel
      have HNE := Lib.hid hne
      clear hne
      by_cases hlt : k < len
      · obtain ⟨ad, hA, hb, hcx⟩ := (HX.out.below hbl) k (by rw [← HL.out]; exact hlt)
        subst hA
        have hkx : k < xs.length := by rw [← HL.out]; exact hlt
        have hsb := sum_bound (xs.take k) (fun m hm => HBN.out m (List.mem_of_mem_take hm))
        rw [List.length_take, Nat.min_eq_left (by omega)] at hsb
        have hnb := HBN.out (xs.getD k 0) (by simp [List.getD, hkx])
        have hts := take_snoc xs k hkx
        obtain ⟨n, hn⟩ : ∃ n, n = xs.getD k 0 := ⟨_, rfl⟩
        rw [← hn] at hcx hnb hts
        clear hn
        have HT := Lib.hid hts
        clear hts hkx
        have hkx := hlt
        generalize hs : (List.take k xs).sum = s at hsb ⊢
        have HS := Lib.hid hs
        clear hs
        obtain ⟨hs1, hs2⟩ := hsb
        obtain ⟨hn1, hn2⟩ := hnb
        have hsz := hbl.size
        go_wp2_with (first
          | (at_builtin; refine wpList_append_mine _ rfl (.tmp 32) (.tmp 35) rfl w.heap.size Av k cv (xs.take k) rfl (hv.alloc _) (some ⟨wr.heap.size, 0, none⟩) 1 1 [n] rfl (one_src _ _) (by omega) (by simp; omega) ?_; intro A1 c1 W2 h1; have hsz2 := h1.2.1.size; simp at hsz2)
          | (at_builtin; refine wpList_append_mine _ rfl (.tmp 39) (.tmp 40) rfl w.heap.size (some ⟨W2.heap.size, 0, none⟩) 1 1 [n] rfl (one_mine W2 _ (by omega) n) Au k cu (xs.take k).reverse rfl ((second_src hu HNE.out h1).alloc _).src (by omega) (by simp; omega) ?_; intro A2 c2 W4 h2))
        have R := two_appends hv hbl hsz h1 h2
        clear hv hu h1 h2
        go_roundw
        case rel =>
          refine ⟨k + 1, A1, A2, c1, c2, by omega, by go_num, rfl, by rw [Nat.add_comm 1 k], ?_, ?_⟩
          · rw [HT.out, List.sum_append, HS.out]; simp
          · unfold Two
            rw [HT.out, List.reverse_append]
            exact R
        case measure => simp [intOf]; omega
      · obtain rfl : k = len := by omega
        have ht : xs.take k = xs := List.take_of_length_le (by have := HL.out; omega)
        rw [ht] at hv hu ⊢
        clear hlt hk ht
        have hsb := sum_bound xs HBN.out
        rw [← HL.out] at hsb
        have s1 := sumFrom_small xs 0 HBN.out (by rw [← HL.out]; omega) (by rw [← HL.out]; omega)
        have s2 := sumFrom_small xs.reverse 0 (fun n hn => HBN.out n (by simpa using hn)) (by rw [List.length_reverse, ← HL.out]; omega) (by rw [List.length_reverse, ← HL.out]; omega)
        rw [Int.zero_add] at s1 s2
        rw [sum_reverse] at s2
        generalize hs : xs.sum = s at s1 s2 hsb ⊢
        have S1 := Lib.hid s1
        have S2 := Lib.hid s2
        clear s1 s2 hs hsb
        go_wp2_with fail
        refine (sum_told Av k cv xs s wr hm w.heap.size hv S1.out).mono ?_; rintro e W1 ⟨rfl, b1⟩
        have hv1 := hv.below b1
        have hu1 := hu.below b1
        have bl1 := hbl.trans (b1.mono hbl.size)
        clear hv hu hbl b1
        go_wp2_with fail
        refine (sum_told Au k cu xs.reverse s W1 hm w.heap.size hu1 S2.out).mono ?_; rintro e W2 ⟨rfl, b2⟩
        have hv2 := hv1.below b2
        have bl2 := bl1.trans (b2.mono bl1.size)
        clear hv1 hu1 bl1 b2
        go_wp2_with fail
        · go_ret
          exact ⟨rfl, bl2⟩
        all_goals
          have HG : Hid (great ≤ -281474976710656 ∨ 281474976710656 ≤ great) := Lib.hid (by omega)
          obtain ⟨q, hq, hqk⟩ : ∃ q : Nat, cut % ((k : Int) + 1) = (q : Int) ∧ q ≤ k := by
            have h0 := Int.emod_nonneg cut (show ((k : Int) + 1) ≠ 0 by omega)
            have h1 := Int.emod_lt_of_pos cut (show (0 : Int) < (k : Int) + 1 by omega)
            exact ⟨(cut % ((k : Int) + 1)).toNat, by omega, by omega⟩
          rw [hq]
          clear hq
          rcases hv2.form with ⟨rfl, rfl, rfl, hx0⟩ | ⟨g, rfl, hkc, hgl⟩
          · obtain rfl : q = 0 := by omega
            subst hx0
            have zA := bl2.size
            have BA := (bl2.alloc zA (.cells #[] 3)).drew
            have BB := ((bl2.alloc zA (.cells #[] 3)).alloc (bl2.alloc zA (.cells #[] 3)).size (.cells #[.int .i64 great] 3)).drew
            have BC := ((bl2.alloc zA (.cells #[.int .i64 great] 3)).alloc (bl2.alloc zA (.cells #[.int .i64 great] 3)).size (.cells #[] 3)).drew
            have MA := (none_mine W2 w.heap.size zA).drew
            have MB := ((none_mine W2 w.heap.size zA).alloc (.cells #[.int .i64 great] 3)).drew
            have MC := (none_mine (W2.alloc (.cells #[.int .i64 great] 3)) w.heap.size (bl2.alloc zA _).size).drew
            have SB := (one_src (W2.alloc (.cells #[] 3)) great).drew
            have SC := ((one_src W2 great).alloc (.cells #[] 3)).drew
            simp only [World.size_alloc] at MC SB
            have R := Lib.hid (Nat.le_refl w.heap.size)
            go_region_law (first
              | (refine step_append_mine _ rfl (.tmp 86) (.tmp 89) rfl w.heap.size (some ⟨W2.heap.size, 0, none⟩) 0 0 [] (by simp [Act.eval]) (by exact MA) none 0 0 [] (by simp [Act.eval]) (by exact nil_src _) (by omega) (by exact BA.size) ?_; intro A1 c1 V1 h1; have T1 := h1.below MA BA R.out BA.size)
              | (refine step_append_mine _ rfl (.tmp 86) (.tmp 89) rfl w.heap.size (some ⟨W2.heap.size, 0, none⟩) 0 0 [] (by simp [Act.eval]) (by exact MB) none 0 0 [] (by simp [Act.eval]) (by exact nil_src _) (by omega) (by exact BB.size) ?_; intro A1 c1 V1 h1; have T1 := h1.below MB BB R.out BB.size)
              | (refine step_append_mine _ rfl (.tmp 86) (.tmp 89) rfl w.heap.size (some ⟨W2.heap.size + 1, 0, none⟩) 0 0 [] (by simp [Act.eval]) (by exact MC) none 0 0 [] (by simp [Act.eval]) (by exact nil_src _) (by omega) (by exact BC.size) ?_; intro A1 c1 V1 h1; have T1 := h1.below MC BC R.out BC.size)
              | (refine step_append_mine _ rfl (.tmp 90) (.tmp 92) rfl w.heap.size A1 0 c1 [] (by simp [Act.eval]) (by simpa using h1.1.alloc _) (some ⟨V1.heap.size, 0, none⟩) 1 1 [great] (by simp [Act.eval]) (by exact one_src V1 great) (by omega) (by exact (T1.alloc T1.size _).size) ?_; intro A2 c2 V2 h2; have T2 := h2.below (c := c1) (by simpa using h1.1.alloc _) (T1.alloc T1.size _) R.out (T1.alloc T1.size _).size)
              | (refine step_append_mine _ rfl (.tmp 90) (.tmp 92) rfl w.heap.size A1 0 c1 [] (by simp [Act.eval]) (by simpa using h1.1) (some ⟨W2.heap.size + 1, 0, none⟩) 1 1 [great] (by simp [Act.eval]) (by exact SB.grown h1.2.1 (by simp [blk])) (by omega) (by exact T1.size) ?_; intro A2 c2 V2 h2; have T2 := h2.below (c := c1) (by simpa using h1.1) T1 R.out T1.size)
              | (refine step_append_mine _ rfl (.tmp 90) (.tmp 92) rfl w.heap.size A1 0 c1 [] (by simp [Act.eval]) (by simpa using h1.1) (some ⟨W2.heap.size, 0, none⟩) 1 1 [great] (by simp [Act.eval]) (by exact SC.grown h1.2.1 (by simp [blk])) (by omega) (by exact T1.size) ?_; intro A2 c2 V2 h2; have T2 := h2.below (c := c1) (by simpa using h1.1) T1 R.out T1.size)
              | (refine step_append_mine _ rfl (.tmp 93) (.tmp 96) rfl w.heap.size A2 1 c2 [great] (by simp [Act.eval]) (by simpa using h2.1) none 0 0 [] (by simp [Act.eval]) (by exact nil_src _) (by omega) (by exact T2.size) ?_; intro A3 c3 V3 h3; have T3 := h3.below (c := c2) (by simpa using h2.1) T2 R.out T2.size)
              | (go_simp; go_at_call 13; refine (sum_over A3 _ c3 _ V3 (by omega) w.heap.size h3.1 (great_over (xs := []) (q := 0) HG.out)).mono ?_; rintro e V4 ⟨rfl, b4⟩))
            all_goals
              have F := Lib.hid (T3.trans (b4.mono T3.size))
              clear T1 T2 T3 h1 h2 h3 b4
              go_wp2_with fail
              go_ret
              exact ⟨rfl, F.out⟩
          · obtain ⟨A5, hA5, s5⟩ := hv2.back q hqk
            have hqc : q ≤ cv := by omega
            have hqk' : ((q : Nat) : Int) ≤ (k : Int) := by omega
            have ST : Stays w g k cv xs W2 := ⟨hv2, bl2⟩
            have TA := ((ST.alloc (.cells #[] 3)).drew)
            have TB := ((ST.alloc (.cells #[] 3)).alloc (.cells #[.int .i64 great] 3)).drew
            have TC := ((ST.alloc (.cells #[.int .i64 great] 3)).alloc (.cells #[] 3)).drew
            have MA := (none_mine W2 w.heap.size ST.size).drew
            have MB := ((none_mine W2 w.heap.size ST.size).alloc (.cells #[.int .i64 great] 3)).drew
            have MC := (none_mine (W2.alloc (.cells #[.int .i64 great] 3)) w.heap.size (ST.alloc _).size).drew
            have SB := (one_src (W2.alloc (.cells #[] 3)) great).drew
            have SC := ((one_src W2 great).alloc (.cells #[] 3)).drew
            have n1 : blk (some ⟨W2.heap.size, 0, none⟩) ≠ some g := fun e => by injection e with e; simp only at e; omega
            have n2 : blk (some ⟨W2.heap.size + 1, 0, none⟩) ≠ some g := fun e => by injection e with e; simp only at e; omega
            have N1 := Lib.hid n1
            have N2 := Lib.hid n2
            clear n1 n2
            simp only [World.size_alloc] at MC SB
            go_region_law (first
              | (refine step_append_mine _ rfl (.tmp 86) (.tmp 89) rfl w.heap.size (some ⟨W2.heap.size, 0, none⟩) 0 0 [] (by simp [Act.eval]) (by exact MA) (some ⟨g, 0, none⟩) q cv (xs.take q) (by simp [Act.eval]) (by exact TA.1.front q hqk) (by omega) (by exact TA.size) ?_; intro A1 c1 V1 h1; have T1 := (TA.app h1 MA N1.out).1; have P1 := Lib.hid (TA.app h1 MA N1.out).2)
              | (refine step_append_mine _ rfl (.tmp 86) (.tmp 89) rfl w.heap.size (some ⟨W2.heap.size, 0, none⟩) 0 0 [] (by simp [Act.eval]) (by exact MB) (some ⟨g, 0, none⟩) q cv (xs.take q) (by simp [Act.eval]) (by exact TB.1.front q hqk) (by omega) (by exact TB.size) ?_; intro A1 c1 V1 h1; have T1 := (TB.app h1 MB N1.out).1; have P1 := Lib.hid (TB.app h1 MB N1.out).2)
              | (refine step_append_mine _ rfl (.tmp 86) (.tmp 89) rfl w.heap.size (some ⟨W2.heap.size + 1, 0, none⟩) 0 0 [] (by simp [Act.eval]) (by exact MC) (some ⟨g, 0, none⟩) q cv (xs.take q) (by simp [Act.eval]) (by exact TC.1.front q hqk) (by omega) (by exact TC.size) ?_; intro A1 c1 V1 h1; have T1 := (TC.app h1 MC N2.out).1; have P1 := Lib.hid (TC.app h1 MC N2.out).2)
              | (refine step_append_mine _ rfl (.tmp 90) (.tmp 92) rfl w.heap.size A1 q c1 (xs.take q) (by simp [Act.eval]) (by simpa using h1.1.alloc _) (some ⟨V1.heap.size, 0, none⟩) 1 1 [great] (by simp [Act.eval]) (by exact one_src V1 great) (by omega) (by exact (T1.alloc _).size) ?_; intro A2 c2 V2 h2; have T2 := ((T1.alloc _).app h2 (c := c1) (by simpa using h1.1.alloc _) P1.out).1; have P2 := Lib.hid ((T1.alloc _).app h2 (c := c1) (by simpa using h1.1.alloc _) P1.out).2)
              | (refine step_append_mine _ rfl (.tmp 90) (.tmp 92) rfl w.heap.size A1 q c1 (xs.take q) (by simp [Act.eval]) (by simpa using h1.1) (some ⟨W2.heap.size + 1, 0, none⟩) 1 1 [great] (by simp [Act.eval]) (by exact SB.grown h1.2.1 (by simp [blk])) (by omega) (by exact T1.size) ?_; intro A2 c2 V2 h2; have T2 := (T1.app h2 (c := c1) (by simpa using h1.1) P1.out).1; have P2 := Lib.hid (T1.app h2 (c := c1) (by simpa using h1.1) P1.out).2)
              | (refine step_append_mine _ rfl (.tmp 90) (.tmp 92) rfl w.heap.size A1 q c1 (xs.take q) (by simp [Act.eval]) (by simpa using h1.1) (some ⟨W2.heap.size, 0, none⟩) 1 1 [great] (by simp [Act.eval]) (by exact SC.grown h1.2.1 (by simp [blk])) (by omega) (by exact T1.size) ?_; intro A2 c2 V2 h2; have T2 := (T1.app h2 (c := c1) (by simpa using h1.1) P1.out).1; have P2 := Lib.hid (T1.app h2 (c := c1) (by simpa using h1.1) P1.out).2)
              | (refine step_append_mine _ rfl (.tmp 93) (.tmp 96) rfl w.heap.size A2 (q + 1) c2 (xs.take q ++ [great]) (by simp [Act.eval]) (by exact h2.1) (some A5) (k - q) (cv - q) (xs.drop q) (by simp [Act.eval]) (by exact T2.back hqk hA5) (by omega) (by exact T2.size) ?_; intro A3 c3 V3 h3; have T3 := (T2.app h3 h2.1 P2.out).1)
              | (go_simp; go_at_call 13; refine (sum_over A3 _ c3 _ V3 (by omega) w.heap.size h3.1 (great_over HG.out)).mono ?_; rintro e V4 ⟨rfl, b4⟩))
            all_goals
              have F := Lib.hid (T3.2.trans (b4.mono T3.size))
              clear T1 T2 T3 h1 h2 h3 b4 P1 P2
              go_wp2_with fail
              go_ret
              exact ⟨rfl, F.out⟩
  · go_enter Try.func7, Try.ntmps7
    go_wp2_with fail
    refine (speaks_any _).mono ?_; rintro e w' ⟨rfl, rfl⟩
    go_wp2_with fail
    refine (speaks_any _).mono ?_; rintro e w' ⟨rfl, rfl⟩
    go_wp2_with fail
    go_ret
    exact ⟨rfl, Below.refl _ _⟩

end Go.Proofs.Ytceanfocgdnnaaa
