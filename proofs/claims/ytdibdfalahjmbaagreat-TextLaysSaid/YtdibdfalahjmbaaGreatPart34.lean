
import Derived.Test.YtdibdfalahjmbaaGreatPart33
import Derived.Test.YtdibdfalahjmbaaGreatPart20
namespace Go.Proofs.YtdibdfalahjmbaaGreat.Line

open Go.RowKit Go.Sort Go.Proofs.YtdibdfalahjmbaaGreat.Rect Go.Proofs.YtdibdfalahjmbaaGreat.More Go.Proofs.YtdibdfalahjmbaaGreat.Shelf Go.Proofs.YtdibdfalahjmbaaGreat.Space Go.Proofs.YtdibdfalahjmbaaGreat.Place

set_option linter.unusedVariables false

set_option linter.unusedSimpArgs false

def encZ : Enc Sz := ⟨2, zcells, fun _ => rfl, fun x u h => by
  simp only [List.mem_cons, List.not_mem_nil, or_false] at h
  rcases h with h | h <;> (subst h; rfl), by omega⟩

theorem infoZ : InfoE encZ 82 77 16 := ⟨Tryz.underlying77, .agg #[.int .i64 0, .int .i64 0], rfl, by kernel_rfl⟩

abbrev MineZ (w : World) (B : Nat) (A : Option Addr) (n c : Nat) (zs : List Sz) : Prop := MineE encZ 82 w B A n c zs

theorem sizes_cell {w : World} {B : Nat} {ad : Addr} {zs : List Sz} (h : Sizes w B (some ad) zs) (j : Nat) (u : Value) (hu : (zs.flatMap encZ.cells)[j]? = some u) : w.cell? (ad.add j) = some u := by
  have hlt := (List.getElem?_eq_some_iff.1 hu).1
  rw [encZ.flat_len] at hlt
  have h5 : encZ.size = 2 := rfl
  rw [h5] at hlt
  obtain ⟨f, hf⟩ : ∃ f, zs[j / 2]? = some f := ⟨_, List.getElem?_eq_getElem (by omega)⟩
  have hr : j % 2 < 2 := Nat.mod_lt _ (by omega)
  have h1 := encZ.flat_at zs (j / 2) f hf (j % 2) hr
  rw [h5, Nat.mul_comm, Nat.div_add_mod, hu] at h1
  obtain ⟨ad', e, hb, c0, c1⟩ := h (j / 2) f hf
  injection e with e
  subst e
  have hj : j = j / 2 * 2 + j % 2 := by omega
  generalize j / 2 = q at *
  generalize j % 2 = r at *
  subst hj
  have hadd : ∀ i, 0 < i → ad.add (q * 2 + i) = ⟨(ad.add (q * 2)).block, (ad.add (q * 2)).off + i, none⟩ := fun i hi => by
    rw [← Addr.add_add]
    obtain ⟨i', rfl⟩ : ∃ i', i = i' + 1 := ⟨i - 1, by omega⟩
    simp [Addr.add]
  match r, hr with
  | 0, _ => rw [Nat.add_zero, c0]; exact h1.symm
  | 1, _ => rw [hadd 1 (by omega), c1]; exact h1.symm

theorem sizes_src {w : World} {B : Nat} {A : Option Addr} {zs : List Sz} {n c : Nat} (h : Sizes w B A zs) (hn : n = zs.length) (hnil : A = none → c = 0) : SrcE encZ w A n c zs := by
  refine ⟨hn.symm, hnil, fun j u hu => ?_⟩
  cases A with
  | none =>
    have hlt := (List.getElem?_eq_some_iff.1 hu).1
    rw [encZ.flat_len] at hlt
    have h5 : encZ.size = 2 := rfl
    rw [h5] at hlt
    obtain ⟨ad, e, -⟩ := h (j / 2) zs[j / 2] (List.getElem?_eq_getElem (by omega))
    cases e
  | some ad => exact ⟨ad, rfl, sizes_cell h j u hu⟩

theorem sizes_mine {T : TypeId} {w : World} {B : Nat} {A : Option Addr} {n c : Nat} {zs : List Sz} (h : MineE encZ T w B A n c zs) : Sizes w w.heap.size A zs := fun k f hk => by
  have hn : 0 < n := by have := MineE.len h; have := (List.getElem?_eq_some_iff.1 hk).1; omega
  obtain ⟨g, rfl, -, hg, -, -⟩ := MineE.form h hn
  have h0 := MineE.at h k f hk 0 (by show 0 < 2; omega)
  have h1 := MineE.at h k f hk 1 (by show 1 < 2; omega)
  refine ⟨_, rfl, hg, ?_, ?_⟩
  · rw [Addr.add_lit, Nat.zero_add]
    exact h0
  · rw [Addr.add_lit]
    show w.cell? ⟨g, 0 + k * 2 + 1, none⟩ = _
    rw [Nat.zero_add]
    exact h1

theorem oneZ (w : World) (B : Nat) (hB : B ≤ w.heap.size) (z : Sz) : MineZ (w.alloc (.cells #[.int .i64 z.wd, .int .i64 z.ht] 82)) B (some ⟨w.heap.size, 0, none⟩) 1 1 [z] := by
  have := World.ownsRow_lit (e := 82) (size := 2) (base := B) w #[.int .i64 z.wd, .int .i64 z.ht] 1 hB (by unfold maxLen; omega) rfl
  simpa [MineE, encZ, zcells] using this

def OwnZ (zs : List Sz) (n B : Nat) (w : World) (v : Value) : Prop := ∃ A c, v = .slice A n c ∧ MineZ w B A n c zs ∧ B ≤ w.heap.size

def EmpZ (B : Nat) (w : World) (v : Value) : Prop := ∃ b, v = .slice (some ⟨b, 0, none⟩) 0 0 ∧ MineZ w B (some ⟨b, 0, none⟩) 0 0 [] ∧ B ≤ w.heap.size

theorem ownZ_keeps (zs : List Sz) (n B : Nat) : Hold.Keeps (OwnZ zs n B) := fun w w' u k ⟨A, c, e, h, hb⟩ => ⟨A, c, e, MineE.below h k, Nat.le_trans hb k.size⟩

theorem empZ_keeps (B : Nat) : Hold.Keeps (EmpZ B) := fun w w' u k ⟨b, e, h, hb⟩ => ⟨b, e, MineE.below h k, Nat.le_trans hb k.size⟩

structure Tidy (m : Mk) : Prop where
  h49 : m.fs.all near49 = true
  f1 : -4503599627370496 ≤ m.f
  f2 : m.f ≤ 4503599627370496
  t1 : -4503599627370496 ≤ m.t
  t2 : m.t ≤ 4503599627370496
  y1 : -562949953421312 ≤ m.y
  y2 : m.y ≤ 1125899906842624

set_option maxRecDepth 100000 in
set_option maxHeartbeats 2000000 in
theorem refadd_fits (A : Option Addr) (n c : Nat) (A2 : Option Addr) (n2 c2 : Nat) (m : Mk) (z : Sz) (w : World) (h : MkIn w A n c A2 n2 c2 m) (hnil : A2 = none → c2 = 0) (hz : RightS z) (hn2 : n2 ≤ 100000) (hti : Tidy m) (hm : m.az ≠ []) (hp : -1125899906842624 ≤ m.top ∧ m.top ≤ 1125899906842624) (hf : m.fits z = true) :
    Calls Tryz.prog 20 #[Mv A n c A2 n2 c2 m, .agg #[.int .i64 z.wd, .int .i64 z.ht]] w fun e w' => (∃ A3 c3, e = .returned (.tuple #[Mv A n c A3 (n2 + 1) c3 (m.more z), .bool true]) ∧ ∃ B0, w.heap.size ≤ B0 ∧ MineZ w' B0 A3 (n2 + 1) c3 (m.more z).az) ∧ Below w.heap.size w w' := by
  have HI := Lib.hid h
  have HNil := Lib.hid hnil
  have HN2 := Lib.hid hn2
  have HTi := Lib.hid hti
  have HRz := Lib.hid hz
  have HF := Lib.hid hf
  have HP := Lib.hid hp
  have hpos : ¬ (n2 : Int) = 0 := by have := List.length_pos_iff.2 hm; have := h.hn2; omega
  clear h hnil hn2 hz hti hf hp hm
  go_enter Tryz.func20, Tryz.ntmps20
  go_upto_region 1 with fail
  generalize hW1 : World.alloc w _ = W1
  obtain ⟨b0, hb0⟩ : ∃ b0, w.heap.size = b0 := ⟨_, rfl⟩
  have k1 : Below w.heap.size w W1 := by rw [← hW1]; exact ba1 _ _
  have s1 : W1.heap.size = b0 + 1 := by rw [← hW1, ← hb0]; simp
  have a1 : Mb W1 b0 A n c A2 n2 c2 m := by rw [← hW1, ← hb0]; exact heap_alloc_new w _
  clear hW1
  generalize hW2 : World.alloc W1 _ = W2
  have k2 : Below W1.heap.size W1 W2 := by rw [← hW2]; exact ba1 _ _
  have s2 : W2.heap.size = b0 + 1 + 1 := by rw [← hW2, ← s1]; simp
  have a2 : RowAt W2 (b0 + 1) (zcells z) := by rw [← hW2, ← s1]; exact RowAt.new W1 _ _
  clear hW2
  generalize hW3 : World.alloc W2 _ = W3
  have k3 : Below W2.heap.size W2 W3 := by rw [← hW3]; exact ba1 _ _
  have a3 : Mb W3 (b0 + 1 + 1) none 0 0 none 0 0 zeroM := by rw [← hW3, ← s2]; exact heap_alloc_new W2 _
  have s3 : W3.heap.size = b0 + 1 + 1 + 1 := by rw [← hW3, ← s2]; simp
  clear hW3
  rw [hb0]
  obtain ⟨b1, hb1⟩ : ∃ b1, b0 + 1 = b1 := ⟨_, rfl⟩
  obtain ⟨b2, hb2⟩ : ∃ b2, b1 + 1 = b2 := ⟨_, rfl⟩
  rw [hb1] at s1 a2 s2 a3 s3
  rw [hb1]
  rw [hb2] at s2 a3 s3
  rw [hb2]
  have HL := Lib.hid (⟨by omega, by omega, by omega, by omega, by omega, by omega⟩ : w.heap.size ≤ b0 ∧ w.heap.size ≤ b1 ∧ w.heap.size ≤ b2 ∧ b0 ≠ b2 ∧ b0 ≠ b1 ∧ b1 ≠ b2)
  have S1 := Lib.hid (⟨thru (thru k1 k2) k3, a1.below (thru k2 k3), a2.below (by simp) k3, a3⟩ : Below w.heap.size w W3 ∧ Mb W3 b0 A n c A2 n2 c2 m ∧ RowAt W3 b1 (zcells z) ∧ Mb W3 b2 none 0 0 none 0 0 zeroM)
  clear k1 k2 k3 s1 s2 a1 a2 a3 hb0 hb1 hb2
  obtain ⟨c0, c1, c2', c3, c4, c5⟩ := S1.out.2.1.at'
  go_upto_region 2 with fail
  clear c0 c1 c2' c3 c4 c5
  generalize hW4 : World.alloc W3 _ = W
  obtain ⟨b3, hb3⟩ : ∃ b3, b2 + 1 = b3 := ⟨_, rfl⟩
  rw [hb3] at s3
  have k4 : Below W3.heap.size W3 W := by rw [← hW4]; exact ba1 _ _
  have a4 : Mb W b3 A n c A2 n2 c2 m := by rw [← hW4, ← s3]; exact heap_alloc_new W3 _
  rw [hb3]
  have HL3 := Lib.hid (⟨by have := HL.out; omega, by have := S1.out.2.1.lt; omega, by have := S1.out.2.2.1.lt (by simp); omega, by have := S1.out.2.2.2.lt; omega⟩ : w.heap.size ≤ b3 ∧ b0 ≠ b3 ∧ b1 ≠ b3 ∧ b2 ≠ b3)
  have S2 := Lib.hid (⟨thru S1.out.1 k4, S1.out.2.1.below k4, S1.out.2.2.1.below (by simp) k4, S1.out.2.2.2.below k4, a4⟩ : Below w.heap.size w W ∧ Mb W b0 A n c A2 n2 c2 m ∧ RowAt W b1 (zcells z) ∧ Mb W b2 none 0 0 none 0 0 zeroM ∧ Mb W b3 A n c A2 n2 c2 m)
  clear hW4 hb3 k4 a4 S1 s3
  have HA := Lib.hid (fun w' (j : Below W.heap.size W w') => (S2.out.2.1.below j).at')
  have HZ := Lib.hid (fun w' (j : Below W.heap.size W w') => two_of (S2.out.2.2.1.below (by simp) j))
  have HSr := Lib.hid (fun w' (j : Below W.heap.size W w') => sizes_src (HI.out.hx2.thru (thru S2.out.1 j)) HI.out.hn2 HNil.out)
  refine Hold.wp_region_hold [.some (EmpZ W.heap.size), .val (.pointer (some ⟨b0, 5, none⟩)), .val (.slice A2 n2 c2), .some (OwnZ m.az n2 W.heap.size), .val (.agg #[.int .i64 z.wd, .int .i64 z.ht]), .some (OwnZ [z] 1 W.heap.size)] (by kernel_rfl) (by kernel_rfl) (by kernel_rfl) ?_ ?_
  · simp only [Hold.fill, Hold.Leave.value]
    refine ⟨?_, ?_, ?_, ?_, ?_, ?_, trivial⟩
    · refine ⟨empZ_keeps _, fun gg w' hw hk => ?_⟩
      go_simp
      exact ⟨ba1 _ _, _, rfl, emptyE_mine encZ 82 w' W.heap.size hw.size, by have := hw.size; simp; omega⟩
    · intro gg w' hw hk
      go_simp
      exact ⟨rfl, rfl⟩
    · intro gg w' hw hk
      have q := (HA.out w' hw).2.2.2.2.2
      go_simp
      exact ⟨rfl, rfl⟩
    · refine ⟨ownZ_keeps _ _ _, fun gg w' hw hk => ?_⟩
      have h1 := hk ⟨0, .data⟩ (by simp) rfl _ rfl
      have hg : ∃ b, gg 0 = .slice (some ⟨b, 0, none⟩) 0 0 ∧ MineZ w' W.heap.size (some ⟨b, 0, none⟩) 0 0 [] := by
        obtain ⟨b, q1, q2, q3⟩ := h1
        exact ⟨b, q1, q2⟩
      clear h1 hk
      have hsrc := HSr.out w' hw
      have key : ∀ b, gg 0 = .slice (some ⟨b, 0, none⟩) 0 0 → MineZ w' W.heap.size (some ⟨b, 0, none⟩) 0 0 [] → ∃ A' c' w'', (Builtin.append_ #[77, 77] 77 #[gg 0, .slice A2 n2 c2]).run Tryz.prog w' = .ok (.slice A' n2 c') w'' ∧ MineZ w'' W.heap.size A' n2 c' m.az ∧ Below w'.heap.size w' w'' := fun b q1 q2 => by
        rw [q1]
        exact run_append_fresh (E := encZ) infoZ _ w' W.heap.size b q2 A2 n2 c2 m.az hsrc (by have := HI.out.hlen2; simp only [maxLen]; omega) (by have := HI.out.hlen2; omega) hw.size
      have hk2 := hg.elim fun b q => key b q.1 q.2
      clear key hg hsrc
      refine gives_append (.tmp 11) (.tmp 13) rfl (gg 0) (.slice A2 n2 c2) ?_ ?_ ?_
      · go_simp
      · go_simp
      · have hsz := hw.size
        exact hk2.elim fun A' h => h.elim fun c' h => h.elim fun w'' h => ⟨_, w'', h.1, h.2.2, A', c', rfl, h.2.1, Nat.le_trans hsz h.2.2.size⟩
    · intro gg w' hw hk
      have q0 := (HZ.out w' hw).1
      have q1 := (HZ.out w' hw).2.1
      go_simp
      exact ⟨rfl, rfl⟩
    · refine ⟨ownZ_keeps _ _ _, fun gg w' hw hk => ?_⟩
      have hsz := hw.size
      go_simp
      exact ⟨ba1 _ _, _, _, rfl, oneZ w' W.heap.size hsz z, by simp; omega⟩
  intro gg w2 k2 hgg
  simp only [Hold.fill, Hold.Leave.value, List.length_cons, List.length_nil, List.drop_succ_cons, List.drop_zero]
  have h2 := hgg 3 _ rfl
  have h4 := hgg 5 _ rfl
  obtain ⟨A4, c4, q1, m1, -⟩ := h2
  obtain ⟨A5, c5, q2, m2, -⟩ := h4
  obtain ⟨g2, rfl, -, -, -, -⟩ := m2.form (by omega)
  rw [q1, q2]
  have M1 := Lib.hid m1
  have M2 := Lib.hid m2
  have K2 := Lib.hid k2
  clear hgg q1 q2 m1 m2 k2 HSr
  refine wpList_append_E (bytes := 16) (by omega) infoZ _ rfl (.tmp 14) (.tmp 16) rfl W.heap.size A4 n2 c4 m.az (by go_simp) M1.out (some ⟨g2, 0, none⟩) 1 c5 [z] (by go_simp) (MineE.src M2.out) (by have := HN2.out; omega) K2.out.size ?_
  intro A3 c3 w3 h3
  have k3 := AppendedE.below h3 M1.out K2.out (Nat.le_refl _) K2.out.size
  have M3 := Lib.hid (⟨h3.1, k3, S2.out.2.2.2.2.below k3⟩ : MineZ w3 W.heap.size A3 (n2 + 1) c3 (m.az ++ [z]) ∧ Below W.heap.size W w3 ∧ Mb w3 b3 A n c A2 n2 c2 m)
  clear h3 M1 M2 K2 k3
  have hM3 := M3.out.2.2
  obtain ⟨c0, c1, c2', c3', c4', c5'⟩ := hM3.at'
  obtain ⟨f0, f1, f2, f3, f4, f5⟩ := hM3.free
  clear hM3
  go_simp
  go_upto_region 3 with fail
  clear c0 c1 c2' c3' c4' c5' f0 f1 f2 f3 f4 f5
  have v3 : Mb (w3.setCell ⟨b3, 5, none⟩ (.slice A3 (n2 + 1) c3)) b3 A n c A3 (n2 + 1) c3 (m.more z) := M3.out.2.2.set5 A3 (n2 + 1) c3 (m.az ++ [z])
  have k3 : But (fun k => k = b3) w3 (w3.setCell ⟨b3, 5, none⟩ (.slice A3 (n2 + 1) c3)) := ⟨rfl, rfl, rfl, by simp [World.setCell], fun k _ hk => Below.heap_setCell _ _ _ k hk⟩
  generalize w3.setCell ⟨b3, 5, none⟩ (.slice A3 (n2 + 1) c3) = V at *
  have hb3W : b3 < W.heap.size := S2.out.2.2.2.2.lt
  have hb0W := S2.out.2.1.lt
  have hb1W := S2.out.2.2.1.lt (by simp)
  have hb2W := S2.out.2.2.2.1.lt
  have kV : But (fun k => k = b3) W V := (But.of_below (S := fun k => k = b3) M3.out.2.1).trans k3 (fun _ _ e => e)
  have m3 : MineZ V W.heap.size A3 (n2 + 1) c3 (m.az ++ [z]) := mineE_but M3.out.1 k3 (fun j e e2 => by have := (M3.out.1.lt j e).1; omega)
  have S4 := Lib.hid (⟨S2.out.1.trans (kV.below S2.out.1.size (fun k e => by have := HL3.out.1; omega)), (kV.block b0 hb0W HL3.out.2.1).trans S2.out.2.1, S2.out.2.2.1.but (by simp) kV HL3.out.2.2.1, (kV.block b2 hb2W HL3.out.2.2.2).trans S2.out.2.2.2.1, v3, m3⟩ : Below w.heap.size w V ∧ Mb V b0 A n c A2 n2 c2 m ∧ RowAt V b1 (zcells z) ∧ Mb V b2 none 0 0 none 0 0 zeroM ∧ Mb V b3 A n c A3 (n2 + 1) c3 (m.more z) ∧ MineZ V W.heap.size A3 (n2 + 1) c3 (m.az ++ [z]))
  clear v3 k3 kV m3 hb0W hb1W M3 HA HZ S2
  have HSz := Lib.hid (sizes_mine S4.out.2.2.2.2.2)
  have HNi : Hid (A3 = none → c3 = 0) := Lib.hid (fun e => by
    obtain ⟨g, e2, -⟩ := MineE.form S4.out.2.2.2.2.2 (by omega)
    rw [e] at e2
    cases e2)
  have HB2 := Lib.hid hb2W
  have HB3 := Lib.hid hb3W
  clear hb3W
  clear hb2W
  obtain ⟨c0, c1, c2', c3', c4', c5'⟩ := S4.out.2.1.at'
  have HMk := Lib.hid (⟨HI.out.hn, HI.out.hlen, HI.out.hx.thru S4.out.1, by show n2 + 1 = (m.az ++ [z]).length; rw [List.length_append, HI.out.hn2]; rfl, by have := HN2.out; omega, HSz.out, fun x hx => (by
    rcases List.mem_append.1 (show x ∈ m.az ++ [z] from hx) with e | e
    · exact HI.out.ha x e
    · rw [List.mem_singleton.1 e]; exact HRz.out), HP.out⟩ : MkIn V A n c A3 (n2 + 1) c3 (m.more z))
  go_upto_region 10 with fail
  clear c0 c1 c2' c3' c4' c5' hpos
  obtain ⟨c0, c1, c2', c3', c4', c5'⟩ := S4.out.2.2.2.2.1.at'
  go_upto_region 11 with (first
    | (go_at_call 37; refine (refbox_any A n c A3 (n2 + 1) c3 (m.more z) V HMk.out).mono ?_; rintro e w5 ⟨rfl, k5⟩; have K5 := Lib.hid k5; clear k5))
  clear c0 c1 c2' c3' c4' c5'
  generalize hX : World.alloc w5 _ = X
  obtain ⟨b4, hb4⟩ : ∃ b4, w5.heap.size = b4 := ⟨_, rfl⟩
  have k6 : Below w5.heap.size w5 X := by rw [← hX]; exact ba1 _ _
  have z6 : RowAt X b4 [.int .i64 (m.more z).l, .int .i64 (m.more z).top, .int .i64 (m.more z).r, .int .i64 (m.more z).b] := by rw [← hX, ← hb4]; exact RowAt.new w5 _ _
  rw [hb4]
  have KX := Lib.hid (thru K5.out k6)
  have HQ := Lib.hid (fun w' (j : Below X.heap.size X w') => (z6.below (by simp) j).at')
  have HM3 := Lib.hid (fun w' (j : Below X.heap.size X w') => (S4.out.2.2.2.2.1.below (thru KX.out j)).at')
  have HWi := Lib.hid (fun w' (j : Below X.heap.size X w') => refwide_any A3 (n2 + 1) c3 (m.more z).az w' HMk.out.hn2 HMk.out.hlen2 (HMk.out.hx2.thru (thru KX.out j)) HMk.out.ha)
  clear hX hb4 k6 z6 K5
  obtain ⟨L1, L2⟩ := bandL_49 HTi.out.h49 m.top (m.top + highZ (highL (m.more z).az))
  obtain ⟨R1, R2⟩ := bandR_49 HTi.out.h49 m.top (m.top + highZ (highL (m.more z).az))
  have t1 := HTi.out.f1
  have t2 := HTi.out.f2
  have t3 := HTi.out.t1
  have t4 := HTi.out.t2
  have hlr : IntKind.i64.wrap ((m.more z).r - (m.more z).l) = (m.more z).r - (m.more z).l := IntWalk.i64_in _ (by
    show _ ≤ min m.t (bandR m.fs m.top (m.top + highZ (highL (m.more z).az))) - max m.f (bandL m.fs m.top (m.top + highZ (highL (m.more z).az))) ∧ min m.t (bandR m.fs m.top (m.top + highZ (highL (m.more z).az))) - max m.f (bandL m.fs m.top (m.top + highZ (highL (m.more z).az))) ≤ _
    omega)
  have HLR := Lib.hid hlr
  clear L1 L2 R1 R2 t1 t2 t3 t4 hlr
  have hcmp : ¬ (m.more z).r - (m.more z).l < wideL (m.more z).az := by have := HF.out; unfold Mk.fits at this; have := of_decide_eq_true this; omega
  have HC := Lib.hid hcmp
  clear hcmp
  refine HoldAll.wp_region_hold_all [.val (.pointer (some ⟨b3, 5, none⟩)), .val (.slice A3 (n2 + 1) c3), .val (.int .i64 (wideL (m.more z).az)), .val (.pointer (some ⟨b4, 2, none⟩)), .val (.int .i64 (m.more z).r), .val (.pointer (some ⟨b4, 0, none⟩)), .val (.int .i64 (m.more z).l), .val (.int .i64 ((m.more z).r - (m.more z).l)), .val (.bool false)] (by kernel_rfl) (by kernel_rfl) (by kernel_rfl) ?_ ?_
  · simp only [Hold.fill, Hold.Leave.value]
    refine ⟨?_, ?_, ?_, ?_, ?_, ?_, ?_, ?_, ?_, trivial⟩
    · intro gg w' hw hk
      go_simp
      exact ⟨rfl, rfl⟩
    · intro gg w' hw hk
      have q := (HM3.out w' hw).2.2.2.2.2
      go_simp
      exact ⟨rfl, rfl⟩
    · intro gg w' hw hk
      go_simp
      exact Hold.stays_call (HWi.out w' hw)
    · intro gg w' hw hk
      go_simp
      exact ⟨rfl, rfl⟩
    · intro gg w' hw hk
      have q : w'.cell? ⟨b4, 2, none⟩ = _ := HQ.out w' hw 2
      go_simp
      exact ⟨rfl, rfl⟩
    · intro gg w' hw hk
      go_simp
      exact ⟨rfl, rfl⟩
    · intro gg w' hw hk
      have q : w'.cell? ⟨b4, 0, none⟩ = _ := HQ.out w' hw 0
      go_simp
      exact ⟨rfl, rfl⟩
    · intro gg w' hw hk
      have q := HLR.out
      go_simp
      exact ⟨rfl, rfl⟩
    · intro gg w' hw hk
      have q := HC.out
      go_simp
      exact ⟨rfl, rfl⟩
  intro gg w8 k8 hgg
  clear hgg
  simp only [Hold.fill, Hold.Leave.value]
  have K9 := Lib.hid (thru S4.out.1 (thru KX.out k8))
  have a9 := S4.out.2.2.2.2.1.below (thru KX.out k8)
  have z9 := S4.out.2.2.2.1.below (thru KX.out k8)
  have M9 := Lib.hid (S4.out.2.2.2.2.2.below (thru KX.out k8))
  clear k8 HQ HM3 HWi HLR HC
  obtain ⟨c0, c1, c2', c3', c4', c5'⟩ := a9.at'
  obtain ⟨z0, z1, z2, z3, z4, z5⟩ := z9.at'
  obtain ⟨f0, f1, f2, f3, f4, f5⟩ := z9.free
  clear a9 z9
  go_simp
  go_wp2_with fail
  have kF := ((((((K9.out.setCell (p := ⟨b2, 0, none⟩) HL.out.2.2.1 (.slice A n c)).setCell (p := ⟨b2, 1, none⟩) HL.out.2.2.1 (.int .i64 m.f)).setCell (p := ⟨b2, 2, none⟩) HL.out.2.2.1 (.int .i64 m.t)).setCell (p := ⟨b2, 3, none⟩) HL.out.2.2.1 (.int .i64 m.y)).setCell (p := ⟨b2, 4, none⟩) HL.out.2.2.1 (.int .i64 m.top)).setCell (p := ⟨b2, 5, none⟩) HL.out.2.2.1 (.slice A3 (n2 + 1) c3))
  have hF := (mineE_but M9.out (but_six (But.of_below (S := fun k => k = b2) (Below.refl w8.heap.size w8)) 0 1 2 3 4 5 (.slice A n c) (.int .i64 m.f) (.int .i64 m.t) (.int .i64 m.y) (.int .i64 m.top) (.slice A3 (n2 + 1) c3)) (fun j e e2 => by have := (M9.out.lt j e).1; have := HB2.out; omega))
  exact bodyPost_ret (v := .tuple #[Mv A n c A3 (n2 + 1) c3 (m.more z), .bool true]) (by simp [results, Tryz.results20, go_sem, z0, z1, z2, z3, z4, z5]) rfl ⟨⟨A3, c3, rfl, W.heap.size, (by have := HB2.out; have := HL.out; omega), hF⟩, kF⟩

set_option maxRecDepth 100000 in
set_option maxHeartbeats 2000000 in
theorem refadd_not (A : Option Addr) (n c : Nat) (A2 : Option Addr) (n2 c2 : Nat) (m : Mk) (z : Sz) (w : World) (h : MkIn w A n c A2 n2 c2 m) (hnil : A2 = none → c2 = 0) (hz : RightS z) (hn2 : n2 ≤ 100000) (hti : Tidy m) (hm : m.az ≠ []) (hp : -1125899906842624 ≤ m.top ∧ m.top ≤ 1125899906842624) (hf : m.fits z = false) :
    Calls Tryz.prog 20 #[Mv A n c A2 n2 c2 m, .agg #[.int .i64 z.wd, .int .i64 z.ht]] w fun e w' => (e = .returned (.tuple #[Mv A n c A2 n2 c2 m, .bool false])) ∧ Below w.heap.size w w' := by
  have HI := Lib.hid h
  have HNil := Lib.hid hnil
  have HN2 := Lib.hid hn2
  have HTi := Lib.hid hti
  have HRz := Lib.hid hz
  have HF := Lib.hid hf
  have HP := Lib.hid hp
  have hpos : ¬ (n2 : Int) = 0 := by have := List.length_pos_iff.2 hm; have := h.hn2; omega
  clear h hnil hn2 hz hti hf hp hm
  go_enter Tryz.func20, Tryz.ntmps20
  go_upto_region 1 with fail
  generalize hW1 : World.alloc w _ = W1
  obtain ⟨b0, hb0⟩ : ∃ b0, w.heap.size = b0 := ⟨_, rfl⟩
  have k1 : Below w.heap.size w W1 := by rw [← hW1]; exact ba1 _ _
  have s1 : W1.heap.size = b0 + 1 := by rw [← hW1, ← hb0]; simp
  have a1 : Mb W1 b0 A n c A2 n2 c2 m := by rw [← hW1, ← hb0]; exact heap_alloc_new w _
  clear hW1
  generalize hW2 : World.alloc W1 _ = W2
  have k2 : Below W1.heap.size W1 W2 := by rw [← hW2]; exact ba1 _ _
  have s2 : W2.heap.size = b0 + 1 + 1 := by rw [← hW2, ← s1]; simp
  have a2 : RowAt W2 (b0 + 1) (zcells z) := by rw [← hW2, ← s1]; exact RowAt.new W1 _ _
  clear hW2
  generalize hW3 : World.alloc W2 _ = W3
  have k3 : Below W2.heap.size W2 W3 := by rw [← hW3]; exact ba1 _ _
  have a3 : Mb W3 (b0 + 1 + 1) none 0 0 none 0 0 zeroM := by rw [← hW3, ← s2]; exact heap_alloc_new W2 _
  have s3 : W3.heap.size = b0 + 1 + 1 + 1 := by rw [← hW3, ← s2]; simp
  clear hW3
  rw [hb0]
  obtain ⟨b1, hb1⟩ : ∃ b1, b0 + 1 = b1 := ⟨_, rfl⟩
  obtain ⟨b2, hb2⟩ : ∃ b2, b1 + 1 = b2 := ⟨_, rfl⟩
  rw [hb1] at s1 a2 s2 a3 s3
  rw [hb1]
  rw [hb2] at s2 a3 s3
  rw [hb2]
  have HL := Lib.hid (⟨by omega, by omega, by omega, by omega, by omega, by omega⟩ : w.heap.size ≤ b0 ∧ w.heap.size ≤ b1 ∧ w.heap.size ≤ b2 ∧ b0 ≠ b2 ∧ b0 ≠ b1 ∧ b1 ≠ b2)
  have S1 := Lib.hid (⟨thru (thru k1 k2) k3, a1.below (thru k2 k3), a2.below (by simp) k3, a3⟩ : Below w.heap.size w W3 ∧ Mb W3 b0 A n c A2 n2 c2 m ∧ RowAt W3 b1 (zcells z) ∧ Mb W3 b2 none 0 0 none 0 0 zeroM)
  clear k1 k2 k3 s1 s2 a1 a2 a3 hb0 hb1 hb2
  obtain ⟨c0, c1, c2', c3, c4, c5⟩ := S1.out.2.1.at'
  go_upto_region 2 with fail
  clear c0 c1 c2' c3 c4 c5
  generalize hW4 : World.alloc W3 _ = W
  obtain ⟨b3, hb3⟩ : ∃ b3, b2 + 1 = b3 := ⟨_, rfl⟩
  rw [hb3] at s3
  have k4 : Below W3.heap.size W3 W := by rw [← hW4]; exact ba1 _ _
  have a4 : Mb W b3 A n c A2 n2 c2 m := by rw [← hW4, ← s3]; exact heap_alloc_new W3 _
  rw [hb3]
  have HL3 := Lib.hid (⟨by have := HL.out; omega, by have := S1.out.2.1.lt; omega, by have := S1.out.2.2.1.lt (by simp); omega, by have := S1.out.2.2.2.lt; omega⟩ : w.heap.size ≤ b3 ∧ b0 ≠ b3 ∧ b1 ≠ b3 ∧ b2 ≠ b3)
  have S2 := Lib.hid (⟨thru S1.out.1 k4, S1.out.2.1.below k4, S1.out.2.2.1.below (by simp) k4, S1.out.2.2.2.below k4, a4⟩ : Below w.heap.size w W ∧ Mb W b0 A n c A2 n2 c2 m ∧ RowAt W b1 (zcells z) ∧ Mb W b2 none 0 0 none 0 0 zeroM ∧ Mb W b3 A n c A2 n2 c2 m)
  clear hW4 hb3 k4 a4 S1 s3
  have HA := Lib.hid (fun w' (j : Below W.heap.size W w') => (S2.out.2.1.below j).at')
  have HZ := Lib.hid (fun w' (j : Below W.heap.size W w') => two_of (S2.out.2.2.1.below (by simp) j))
  have HSr := Lib.hid (fun w' (j : Below W.heap.size W w') => sizes_src (HI.out.hx2.thru (thru S2.out.1 j)) HI.out.hn2 HNil.out)
  refine Hold.wp_region_hold [.some (EmpZ W.heap.size), .val (.pointer (some ⟨b0, 5, none⟩)), .val (.slice A2 n2 c2), .some (OwnZ m.az n2 W.heap.size), .val (.agg #[.int .i64 z.wd, .int .i64 z.ht]), .some (OwnZ [z] 1 W.heap.size)] (by kernel_rfl) (by kernel_rfl) (by kernel_rfl) ?_ ?_
  · simp only [Hold.fill, Hold.Leave.value]
    refine ⟨?_, ?_, ?_, ?_, ?_, ?_, trivial⟩
    · refine ⟨empZ_keeps _, fun gg w' hw hk => ?_⟩
      go_simp
      exact ⟨ba1 _ _, _, rfl, emptyE_mine encZ 82 w' W.heap.size hw.size, by have := hw.size; simp; omega⟩
    · intro gg w' hw hk
      go_simp
      exact ⟨rfl, rfl⟩
    · intro gg w' hw hk
      have q := (HA.out w' hw).2.2.2.2.2
      go_simp
      exact ⟨rfl, rfl⟩
    · refine ⟨ownZ_keeps _ _ _, fun gg w' hw hk => ?_⟩
      have h1 := hk ⟨0, .data⟩ (by simp) rfl _ rfl
      have hg : ∃ b, gg 0 = .slice (some ⟨b, 0, none⟩) 0 0 ∧ MineZ w' W.heap.size (some ⟨b, 0, none⟩) 0 0 [] := by
        obtain ⟨b, q1, q2, q3⟩ := h1
        exact ⟨b, q1, q2⟩
      clear h1 hk
      have hsrc := HSr.out w' hw
      have key : ∀ b, gg 0 = .slice (some ⟨b, 0, none⟩) 0 0 → MineZ w' W.heap.size (some ⟨b, 0, none⟩) 0 0 [] → ∃ A' c' w'', (Builtin.append_ #[77, 77] 77 #[gg 0, .slice A2 n2 c2]).run Tryz.prog w' = .ok (.slice A' n2 c') w'' ∧ MineZ w'' W.heap.size A' n2 c' m.az ∧ Below w'.heap.size w' w'' := fun b q1 q2 => by
        rw [q1]
        exact run_append_fresh (E := encZ) infoZ _ w' W.heap.size b q2 A2 n2 c2 m.az hsrc (by have := HI.out.hlen2; simp only [maxLen]; omega) (by have := HI.out.hlen2; omega) hw.size
      have hk2 := hg.elim fun b q => key b q.1 q.2
      clear key hg hsrc
      refine gives_append (.tmp 11) (.tmp 13) rfl (gg 0) (.slice A2 n2 c2) ?_ ?_ ?_
      · go_simp
      · go_simp
      · have hsz := hw.size
        exact hk2.elim fun A' h => h.elim fun c' h => h.elim fun w'' h => ⟨_, w'', h.1, h.2.2, A', c', rfl, h.2.1, Nat.le_trans hsz h.2.2.size⟩
    · intro gg w' hw hk
      have q0 := (HZ.out w' hw).1
      have q1 := (HZ.out w' hw).2.1
      go_simp
      exact ⟨rfl, rfl⟩
    · refine ⟨ownZ_keeps _ _ _, fun gg w' hw hk => ?_⟩
      have hsz := hw.size
      go_simp
      exact ⟨ba1 _ _, _, _, rfl, oneZ w' W.heap.size hsz z, by simp; omega⟩
  intro gg w2 k2 hgg
  simp only [Hold.fill, Hold.Leave.value, List.length_cons, List.length_nil, List.drop_succ_cons, List.drop_zero]
  have h2 := hgg 3 _ rfl
  have h4 := hgg 5 _ rfl
  obtain ⟨A4, c4, q1, m1, -⟩ := h2
  obtain ⟨A5, c5, q2, m2, -⟩ := h4
  obtain ⟨g2, rfl, -, -, -, -⟩ := m2.form (by omega)
  rw [q1, q2]
  have M1 := Lib.hid m1
  have M2 := Lib.hid m2
  have K2 := Lib.hid k2
  clear hgg q1 q2 m1 m2 k2 HSr
  refine wpList_append_E (bytes := 16) (by omega) infoZ _ rfl (.tmp 14) (.tmp 16) rfl W.heap.size A4 n2 c4 m.az (by go_simp) M1.out (some ⟨g2, 0, none⟩) 1 c5 [z] (by go_simp) (MineE.src M2.out) (by have := HN2.out; omega) K2.out.size ?_
  intro A3 c3 w3 h3
  have k3 := AppendedE.below h3 M1.out K2.out (Nat.le_refl _) K2.out.size
  have M3 := Lib.hid (⟨h3.1, k3, S2.out.2.2.2.2.below k3⟩ : MineZ w3 W.heap.size A3 (n2 + 1) c3 (m.az ++ [z]) ∧ Below W.heap.size W w3 ∧ Mb w3 b3 A n c A2 n2 c2 m)
  clear h3 M1 M2 K2 k3
  have hM3 := M3.out.2.2
  obtain ⟨c0, c1, c2', c3', c4', c5'⟩ := hM3.at'
  obtain ⟨f0, f1, f2, f3, f4, f5⟩ := hM3.free
  clear hM3
  go_simp
  go_upto_region 3 with fail
  clear c0 c1 c2' c3' c4' c5' f0 f1 f2 f3 f4 f5
  have v3 : Mb (w3.setCell ⟨b3, 5, none⟩ (.slice A3 (n2 + 1) c3)) b3 A n c A3 (n2 + 1) c3 (m.more z) := M3.out.2.2.set5 A3 (n2 + 1) c3 (m.az ++ [z])
  have k3 : But (fun k => k = b3) w3 (w3.setCell ⟨b3, 5, none⟩ (.slice A3 (n2 + 1) c3)) := ⟨rfl, rfl, rfl, by simp [World.setCell], fun k _ hk => Below.heap_setCell _ _ _ k hk⟩
  generalize w3.setCell ⟨b3, 5, none⟩ (.slice A3 (n2 + 1) c3) = V at *
  have hb3W : b3 < W.heap.size := S2.out.2.2.2.2.lt
  have hb0W := S2.out.2.1.lt
  have hb1W := S2.out.2.2.1.lt (by simp)
  have hb2W := S2.out.2.2.2.1.lt
  have kV : But (fun k => k = b3) W V := (But.of_below (S := fun k => k = b3) M3.out.2.1).trans k3 (fun _ _ e => e)
  have m3 : MineZ V W.heap.size A3 (n2 + 1) c3 (m.az ++ [z]) := mineE_but M3.out.1 k3 (fun j e e2 => by have := (M3.out.1.lt j e).1; omega)
  have S4 := Lib.hid (⟨S2.out.1.trans (kV.below S2.out.1.size (fun k e => by have := HL3.out.1; omega)), (kV.block b0 hb0W HL3.out.2.1).trans S2.out.2.1, S2.out.2.2.1.but (by simp) kV HL3.out.2.2.1, (kV.block b2 hb2W HL3.out.2.2.2).trans S2.out.2.2.2.1, v3, m3⟩ : Below w.heap.size w V ∧ Mb V b0 A n c A2 n2 c2 m ∧ RowAt V b1 (zcells z) ∧ Mb V b2 none 0 0 none 0 0 zeroM ∧ Mb V b3 A n c A3 (n2 + 1) c3 (m.more z) ∧ MineZ V W.heap.size A3 (n2 + 1) c3 (m.az ++ [z]))
  clear v3 k3 kV m3 hb0W hb1W M3 HA HZ S2
  have HSz := Lib.hid (sizes_mine S4.out.2.2.2.2.2)
  have HNi : Hid (A3 = none → c3 = 0) := Lib.hid (fun e => by
    obtain ⟨g, e2, -⟩ := MineE.form S4.out.2.2.2.2.2 (by omega)
    rw [e] at e2
    cases e2)
  have HB2 := Lib.hid hb2W
  have HB3 := Lib.hid hb3W
  clear hb3W
  clear hb2W
  obtain ⟨c0, c1, c2', c3', c4', c5'⟩ := S4.out.2.1.at'
  have HMk := Lib.hid (⟨HI.out.hn, HI.out.hlen, HI.out.hx.thru S4.out.1, by show n2 + 1 = (m.az ++ [z]).length; rw [List.length_append, HI.out.hn2]; rfl, by have := HN2.out; omega, HSz.out, fun x hx => (by
    rcases List.mem_append.1 (show x ∈ m.az ++ [z] from hx) with e | e
    · exact HI.out.ha x e
    · rw [List.mem_singleton.1 e]; exact HRz.out), HP.out⟩ : MkIn V A n c A3 (n2 + 1) c3 (m.more z))
  go_upto_region 10 with fail
  clear c0 c1 c2' c3' c4' c5' hpos
  obtain ⟨c0, c1, c2', c3', c4', c5'⟩ := S4.out.2.2.2.2.1.at'
  go_upto_region 11 with (first
    | (go_at_call 37; refine (refbox_any A n c A3 (n2 + 1) c3 (m.more z) V HMk.out).mono ?_; rintro e w5 ⟨rfl, k5⟩; have K5 := Lib.hid k5; clear k5))
  clear c0 c1 c2' c3' c4' c5'
  generalize hX : World.alloc w5 _ = X
  obtain ⟨b4, hb4⟩ : ∃ b4, w5.heap.size = b4 := ⟨_, rfl⟩
  have k6 : Below w5.heap.size w5 X := by rw [← hX]; exact ba1 _ _
  have z6 : RowAt X b4 [.int .i64 (m.more z).l, .int .i64 (m.more z).top, .int .i64 (m.more z).r, .int .i64 (m.more z).b] := by rw [← hX, ← hb4]; exact RowAt.new w5 _ _
  rw [hb4]
  have KX := Lib.hid (thru K5.out k6)
  have HQ := Lib.hid (fun w' (j : Below X.heap.size X w') => (z6.below (by simp) j).at')
  have HM3 := Lib.hid (fun w' (j : Below X.heap.size X w') => (S4.out.2.2.2.2.1.below (thru KX.out j)).at')
  have HWi := Lib.hid (fun w' (j : Below X.heap.size X w') => refwide_any A3 (n2 + 1) c3 (m.more z).az w' HMk.out.hn2 HMk.out.hlen2 (HMk.out.hx2.thru (thru KX.out j)) HMk.out.ha)
  clear hX hb4 k6 z6 K5
  obtain ⟨L1, L2⟩ := bandL_49 HTi.out.h49 m.top (m.top + highZ (highL (m.more z).az))
  obtain ⟨R1, R2⟩ := bandR_49 HTi.out.h49 m.top (m.top + highZ (highL (m.more z).az))
  have t1 := HTi.out.f1
  have t2 := HTi.out.f2
  have t3 := HTi.out.t1
  have t4 := HTi.out.t2
  have hlr : IntKind.i64.wrap ((m.more z).r - (m.more z).l) = (m.more z).r - (m.more z).l := IntWalk.i64_in _ (by
    show _ ≤ min m.t (bandR m.fs m.top (m.top + highZ (highL (m.more z).az))) - max m.f (bandL m.fs m.top (m.top + highZ (highL (m.more z).az))) ∧ min m.t (bandR m.fs m.top (m.top + highZ (highL (m.more z).az))) - max m.f (bandL m.fs m.top (m.top + highZ (highL (m.more z).az))) ≤ _
    omega)
  have HLR := Lib.hid hlr
  clear L1 L2 R1 R2 t1 t2 t3 t4 hlr
  have hcmp : (m.more z).r - (m.more z).l < wideL (m.more z).az := by have := HF.out; unfold Mk.fits at this; have := of_decide_eq_false this; omega
  have HC := Lib.hid hcmp
  clear hcmp
  refine HoldAll.wp_region_hold_all [.val (.pointer (some ⟨b3, 5, none⟩)), .val (.slice A3 (n2 + 1) c3), .val (.int .i64 (wideL (m.more z).az)), .val (.pointer (some ⟨b4, 2, none⟩)), .val (.int .i64 (m.more z).r), .val (.pointer (some ⟨b4, 0, none⟩)), .val (.int .i64 (m.more z).l), .val (.int .i64 ((m.more z).r - (m.more z).l)), .val (.bool true)] (by kernel_rfl) (by kernel_rfl) (by kernel_rfl) ?_ ?_
  · simp only [Hold.fill, Hold.Leave.value]
    refine ⟨?_, ?_, ?_, ?_, ?_, ?_, ?_, ?_, ?_, trivial⟩
    · intro gg w' hw hk
      go_simp
      exact ⟨rfl, rfl⟩
    · intro gg w' hw hk
      have q := (HM3.out w' hw).2.2.2.2.2
      go_simp
      exact ⟨rfl, rfl⟩
    · intro gg w' hw hk
      go_simp
      exact Hold.stays_call (HWi.out w' hw)
    · intro gg w' hw hk
      go_simp
      exact ⟨rfl, rfl⟩
    · intro gg w' hw hk
      have q : w'.cell? ⟨b4, 2, none⟩ = _ := HQ.out w' hw 2
      go_simp
      exact ⟨rfl, rfl⟩
    · intro gg w' hw hk
      go_simp
      exact ⟨rfl, rfl⟩
    · intro gg w' hw hk
      have q : w'.cell? ⟨b4, 0, none⟩ = _ := HQ.out w' hw 0
      go_simp
      exact ⟨rfl, rfl⟩
    · intro gg w' hw hk
      have q := HLR.out
      go_simp
      exact ⟨rfl, rfl⟩
    · intro gg w' hw hk
      have q := HC.out
      go_simp
      exact ⟨rfl, rfl⟩
  intro gg w8 k8 hgg
  clear hgg
  simp only [Hold.fill, Hold.Leave.value]
  have K9 := Lib.hid (thru S4.out.1 (thru KX.out k8))
  have a9 := S4.out.2.1.below (thru KX.out k8)
  have z9 := S4.out.2.2.2.1.below (thru KX.out k8)
  have M9 := Lib.hid (S4.out.2.2.2.2.2.below (thru KX.out k8))
  clear k8 HQ HM3 HWi HLR HC
  obtain ⟨c0, c1, c2', c3', c4', c5'⟩ := a9.at'
  obtain ⟨z0, z1, z2, z3, z4, z5⟩ := z9.at'
  obtain ⟨f0, f1, f2, f3, f4, f5⟩ := z9.free
  clear a9 z9
  go_simp
  go_wp2_with fail
  have kF := ((((((K9.out.setCell (p := ⟨b2, 0, none⟩) HL.out.2.2.1 (.slice A n c)).setCell (p := ⟨b2, 1, none⟩) HL.out.2.2.1 (.int .i64 m.f)).setCell (p := ⟨b2, 2, none⟩) HL.out.2.2.1 (.int .i64 m.t)).setCell (p := ⟨b2, 3, none⟩) HL.out.2.2.1 (.int .i64 m.y)).setCell (p := ⟨b2, 4, none⟩) HL.out.2.2.1 (.int .i64 m.top)).setCell (p := ⟨b2, 5, none⟩) HL.out.2.2.1 (.slice A2 n2 c2))
  exact bodyPost_ret (v := .tuple #[Mv A n c A2 n2 c2 m, .bool false]) (by simp [results, Tryz.results20, go_sem, z0, z1, z2, z3, z4, z5]) rfl ⟨rfl, kF⟩

end Go.Proofs.YtdibdfalahjmbaaGreat.Line
