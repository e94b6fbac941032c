/- The law of atoms alone: their lines are those of the layer below. -/
import Derived.Test.YtdibdfalahjmbaaPart47
import Derived.Test.YtdibdfalahjmbaaPart45
import Derived.Test.YtdibdfalahjmbaaPart26
import Derived.Test.YtdibdfalahjmbaaPart48
namespace Go.Proofs.Ytdibdfalahjmbaa.Text
open Go.RowKit Go.Sort Go.Proofs.Ytdibdfalahjmbaa.Rect Go.Proofs.Ytdibdfalahjmbaa.More Go.Proofs.Ytdibdfalahjmbaa.Shelf Go.Proofs.Ytdibdfalahjmbaa.Space Go.Proofs.Ytdibdfalahjmbaa.Place Go.Proofs.Ytdibdfalahjmbaa.Line
set_option linter.unusedVariables false
set_option linter.unusedSimpArgs false

section
variable {S : World → (Nat → Prop) → Addr → List Fl → Prop}

def encZP : Enc Sz := ⟨2, zcells, fun _ => rfl, fun x u h => by
  simp only [List.mem_cons, List.not_mem_nil, or_false] at h
  rcases h with h | h <;> (subst h; rfl), by omega⟩
theorem infoZP : InfoE encZP 50 48 16 := ⟨Try.underlying48, .agg #[.int .i64 0, .int .i64 0], rfl, by kernel_rfl⟩
theorem sizesP_mine {T : TypeId} {w : World} {B : Nat} {A : Option Addr} {n c : Nat} {zs : List Sz} (h : MineE encZP T w B A n c zs) : Sizes w w.heap.size A zs := fun k f hk => by
  have hn : 0 < n := by have := MineE.len h; have := (List.getElem?_eq_some_iff.1 hk).1; omega
  obtain ⟨g, rfl, -, hg, -, -⟩ := MineE.form h hn
  have h0 := MineE.at h k f hk 0 (by show 0 < 2; omega)
  have h1 := MineE.at h k f hk 1 (by show 1 < 2; omega)
  refine ⟨_, rfl, hg, ?_, ?_⟩
  · rw [Addr.add_lit, Nat.zero_add]
    exact h0
  · rw [Addr.add_lit]
    show w.cell? ⟨g, 0 + k * 2 + 1, none⟩ = _
    rw [Nat.zero_add]
    exact h1
theorem own_line {w : World} {B : Nat} {A3 : Option Addr} {n c3 : Nat} {out : List (Mk × List Nat)} (h : MineE encL 41 w B A3 n c3 (out.map fun e => lnOf e.1)) {j : Nat} {e : Mk × List Nat} (hj : out[j]? = some e) : ∃ g, A3 = some ⟨g, 0, none⟩ ∧
    w.cell? ⟨g, j * 6, none⟩ = some (.int .i64 (lnOf e.1).l) ∧ w.cell? ⟨g, j * 6 + 1, none⟩ = some (.int .i64 (lnOf e.1).t) ∧ w.cell? ⟨g, j * 6 + 2, none⟩ = some (.int .i64 (lnOf e.1).r) ∧ w.cell? ⟨g, j * 6 + 3, none⟩ = some (.int .i64 (lnOf e.1).b) ∧ w.cell? ⟨g, j * 6 + 4, none⟩ = some (.int .i64 (lnOf e.1).a) ∧ w.cell? ⟨g, j * 6 + 5, none⟩ = some (.int .i64 (lnOf e.1).w) := by
  have hl := (List.getElem?_eq_some_iff.1 hj).1
  have hn := h.len
  rw [List.length_map] at hn
  obtain ⟨g, e0, -⟩ := h.form (by omega)
  rw [e0] at h
  have ha : (out.map fun e => lnOf e.1)[j]? = some (lnOf e.1) := by rw [List.getElem?_map, hj]; rfl
  exact ⟨g, e0, h.at j _ ha 0 (by show 0 < 6; omega), h.at j _ ha 1 (by show 1 < 6; omega), h.at j _ ha 2 (by show 2 < 6; omega), h.at j _ ha 3 (by show 3 < 6; omega), h.at j _ ha 4 (by show 4 < 6; omega), h.at j _ ha 5 (by show 5 < 6; omega)⟩

/-- Atoms alone: no float is there that wasn't. -/
theorem plain_fs {fs : List Fl} {f t y : Int} {its : List It} {n : Nat} {D : Ly} (h0 : ∀ x ∈ its, x.sd = 0) (hn : n ≤ its.length) (T : Told fs f t y its n D) : D.m.fs = fs := by
  obtain ⟨dn, h1, h2⟩ := T.ft
  have : floatsK its n = [] := by
    unfold floatsK
    rw [List.filter_eq_nil_iff]
    intro i hi
    have hl : i < its.length := by have := List.mem_range.1 hi; omega
    have : isA its i = true := by
      unfold isA
      rw [itAt_is (List.getElem?_eq_getElem hl)]
      exact decide_eq_true (h0 _ (List.getElem_mem hl))
    simp [this]
  rw [this] at h1
  have hd : dn = [] := by cases dn with
    | nil => rfl
    | cons a l => cases h1
  rw [h2, hd]
  exact List.append_nil _

def atB (x : It) : Bool := x.sd == 0
set_option maxRecDepth 100000 in
set_option maxHeartbeats 8000000 in
theorem plain_law (hO : SpaceOk S) (hP : PlaceOk S) (A : Option Addr) (n c : Nat) (fs : List Fl) (f t y : Int) (AI : Option Addr) (ni ci : Nat) (its : List It) (hby : ni * 32 ≤ 140737488351232) (w : World) (hn : n = fs.length) (hm : n ≤ 9223372036854775807) (hx : Floats w w.heap.size A fs) (hni : ni = its.length) (hmi : ni ≤ 9223372036854775807) (hci : ni ≤ ci) (hxi : Items w w.heap.size AI its) :
    Calls Try.prog 4 #[.slice A n c, .int .i64 f, .int .i64 t, .int .i64 y, .slice AI ni ci] w fun e w' => e = .returned (.bool true) ∧ Below w.heap.size w w' := by
  have HBn := Lib.hid (fun (hv : okT fs f t y its = false) w1 (k : Below w.heap.size w w1) => tbegin_no A n c fs f t y AI ni ci its w1 hn hm (hx.thru k) hni hmi (hxi.thru k) hv)
  have HBe := Lib.hid (fun (hv : okT fs f t y its = true) w1 (k : Below w.heap.size w w1) => tbegin_any hO A n c fs f t y AI ni ci its w1 hn (hx.thru k) hni (hxi.thru k) hv)
  have HI := Lib.hid (⟨hni, hxi, hmi, hby, hn⟩ : ni = its.length ∧ Items w w.heap.size AI its ∧ ni ≤ 9223372036854775807 ∧ ni * 32 ≤ 140737488351232 ∧ n = fs.length)
  clear hn hm hx hni hmi hci hxi hby
  go_enter Try.func4, Try.ntmps4
  go_wp2_with fail
  go_loopw [11, 12, 24] (fun u v i wr => ∃ k : Nat, k ≤ ni ∧ i = .int .i64 (k : Int) ∧ ∃ A9 m c9 AZ cZ, u = .slice A9 m c9 ∧ v = .slice AZ m cZ ∧ Hid (MineE encI 46 wr w.heap.size A9 m c9 ((its.take k).filter atB) ∧ MineE encZP 50 wr w.heap.size AZ m cZ (((its.take k).filter atB).map It.z) ∧ (∀ j, blk AZ = some j → blk A9 ≠ some j) ∧ m ≤ k ∧ Below w.heap.size w wr)) (fun _ _ i _ => ni - (intOf i).toNat)
  case atStart => exact ⟨0, Nat.zero_le _, rfl, none, 0, 0, none, 0, rfl, rfl, Lib.hid ⟨noneE_mine _ _ _ _, noneE_mine _ _ _ _, fun j e => (by cases e), Nat.le_refl _, Below.refl _ _⟩⟩
  case round =>
    obtain ⟨k, hk, rfl, A9, m, c9, AZ, cZ, rfl, rfl, H⟩ := hrel
    by_cases hlt : k < ni
    · have hki : (k : Int) < (ni : Int) := by omega
      have hk0 : ¬ (k : Int) < 0 := by omega
      have hwk : IntKind.i64.wrap ((k : Int) + 1) = (k : Int) + 1 := by have := HI.out.2.2.2.1; exact IntWalk.i64_in _ (by omega)
      obtain ⟨x, hz⟩ : ∃ x, its[k]? = some x := ⟨_, List.getElem?_eq_getElem (by rw [← HI.out.1]; exact hlt)⟩
      obtain ⟨ad, rfl, -, d0, d1, d2, d3⟩ := (HI.out.2.1.thru H.out.2.2.2.2) k x hz
      have HZ := Lib.hid hz
      clear hz
      go_upto_region 6 with fail
      generalize hW : World.alloc wr _ = W
      obtain ⟨b, hb⟩ : ∃ b, wr.heap.size = b := ⟨_, rfl⟩
      have k1 : Below wr.heap.size wr W := by rw [← hW]; exact ba1 _ _
      have z1 : RowAt W b (irow x) := by rw [← hW, ← hb]; exact RowAt.new wr _ _
      have hbA : blk A9 ≠ some b := fun e => by have := (H.out.1.lt b e).2; omega
      have hbZ : blk AZ ≠ some b := fun e => by have := (H.out.2.1.lt b e).2; omega
      rw [hb]
      have q0 : W.cell? ⟨b, 0, none⟩ = some (.int .i64 x.sd) := z1.at' 0
      have q1 : W.cell? ⟨b, 1, none⟩ = some (.int .i64 x.cl) := z1.at' 1
      have q2 : W.cell? ⟨b, 2, none⟩ = some (.int .i64 x.wd) := z1.at' 2
      have q3 : W.cell? ⟨b, 3, none⟩ = some (.int .i64 x.ht) := z1.at' 3
      have S1 := Lib.hid (⟨H.out.1.below k1, H.out.2.1.below k1, H.out.2.2.1, H.out.2.2.2.1, thru H.out.2.2.2.2 k1⟩ : MineE encI 46 W w.heap.size A9 m c9 ((its.take k).filter atB) ∧ MineE encZP 50 W w.heap.size AZ m cZ (((its.take k).filter atB).map It.z) ∧ (∀ j, blk AZ = some j → blk A9 ≠ some j) ∧ m ≤ k ∧ Below w.heap.size w W)
      have HB := Lib.hid (⟨z1, hbA, hbZ⟩ : RowAt W b (irow x) ∧ blk A9 ≠ some b ∧ blk AZ ≠ some b)
      clear hW hb k1 z1 d0 d1 d2 d3 hbA hbZ
      by_cases hs : x.sd = 0
      · have hb0 : (x.sd == 0) = true := by rw [hs]; rfl
        have HT := Lib.hid (filter_yes (p := atB) HZ.out (by unfold atB; exact hb0))
        clear hs
        go_upto_region 8 with (first
          | (at_builtin; refine wpList_append_wideE infoIR _ rfl (.tmp 31) (.tmp 33) rfl w.heap.size A9 m c9 ((its.take k).filter atB) rfl (S1.out.1.alloc _) ⟨W.heap.size, 0, none⟩ 1 1 [x] rfl (oneE_src (E := encI) W x 46) (by have := S1.out.2.2.2.1; have := HI.out.2.2.2.1; simp only [maxLen]; omega) (by have := S1.out.2.2.2.1; have := HI.out.2.2.2.1; omega) (by have := S1.out.2.2.2.2.size; simp; omega) ?_; intro A5 c5 w5 hA; have hA' := Lib.hid hA; clear hA))
        have S5 : Hid (MineE encI 46 w5 w.heap.size A5 (m + 1) c5 (((its.take k).filter atB) ++ [x]) ∧ MineE encZP 50 w5 w.heap.size AZ m cZ (((its.take k).filter atB).map It.z) ∧ (∀ j, blk AZ = some j → blk A5 ≠ some j) ∧ Below w.heap.size w w5 ∧ RowAt w5 b (irow x) ∧ blk A5 ≠ some b) := Lib.hid (by
          have hA := hA'.out
          have hs5 := S1.out.2.2.2.2.size
          have z1 := HB.out.1.below (by simp) (ba1 W (.cells (encI.cells x).toArray 46))
          have hbl := HB.out.1.lt (by simp)
          refine ⟨hA.1, (S1.out.2.1.alloc _).kept hA.2.1 (fun j e => S1.out.2.2.1 j e), fun j e => ?_, AppendedE.below hA (S1.out.1.alloc _) (thru S1.out.2.2.2.2 (ba1 W _)) (Nat.le_refl _) (by simp; omega), z1.kept (hA.2.1.block b (z1.lt (by simp)) (fun e => HB.out.2.1 e.symm)), fun e => ?_⟩
          · rcases hA.2.2 with g | g
            · rw [g]; exact S1.out.2.2.1 j e
            · have := (S1.out.2.1.lt j e).2
              rw [g]
              intro q
              injection q with q
              rw [← q] at this
              simp at this
              omega
          · rcases hA.2.2 with g | g
            · rw [g] at e; exact HB.out.2.1 e
            · rw [g] at e
              injection e with e
              rw [← e] at hbl
              simp at hbl
              omega)
        clear hA' q0 q1 q2 q3
        have q2 : w5.cell? ⟨b, 2, none⟩ = some (.int .i64 x.wd) := S5.out.2.2.2.2.1.at' 2
        have q3 : w5.cell? ⟨b, 3, none⟩ = some (.int .i64 x.ht) := S5.out.2.2.2.2.1.at' 3
        go_wp2_with (first
          | (at_builtin; refine wpList_append_wideE infoZP _ rfl (.tmp 35) (.tmp 41) rfl w.heap.size AZ m cZ (((its.take k).filter atB).map It.z) rfl (S5.out.2.1.alloc _) ⟨w5.heap.size, 0, none⟩ 1 1 [x.z] rfl (oneE_src (E := encZP) w5 x.z 50) (by have := S1.out.2.2.2.1; have := HI.out.2.2.2.1; simp only [maxLen]; omega) (by have := S1.out.2.2.2.1; have := HI.out.2.2.2.1; omega) (by have := S5.out.2.2.2.1.size; simp; omega) ?_; intro A6 c6 w6 hA; have hA' := Lib.hid hA; clear hA))
        have S6 : Hid (MineE encI 46 w6 w.heap.size A5 (m + 1) c5 (((its.take k).filter atB) ++ [x]) ∧ MineE encZP 50 w6 w.heap.size A6 (m + 1) c6 (((its.take k).filter atB).map It.z ++ [x.z]) ∧ (∀ j, blk A6 = some j → blk A5 ≠ some j) ∧ Below w.heap.size w w6) := Lib.hid (by
          have hA := hA'.out
          have hs5 := S5.out.2.2.2.1.size
          refine ⟨(S5.out.1.alloc _).kept hA.2.1 (fun j e g => S5.out.2.2.1 j g e), hA.1, fun j e => ?_, AppendedE.below hA (S5.out.2.1.alloc _) (thru S5.out.2.2.2.1 (ba1 w5 _)) (Nat.le_refl _) (by simp; omega)⟩
          rcases hA.2.2 with g | g
          · rw [g] at e; exact S5.out.2.2.1 j e
          · rw [g] at e
            intro q
            have := (S5.out.1.lt j q).2
            injection e with e
            rw [← e] at this
            simp at this
            omega)
        clear hA' q2 q3
        go_roundw
        case rel => exact ⟨k + 1, by omega, by go_num, A5, m + 1, c5, A6, c6, rfl, rfl, Lib.hid ⟨by rw [HT.out]; exact S6.out.1, by rw [HT.out, List.map_append]; exact S6.out.2.1, S6.out.2.2.1, by have := S1.out.2.2.2.1; omega, S6.out.2.2.2⟩⟩
        case measure => simp [intOf]; omega
      · have hb0 : (x.sd == 0) = false := by simp [hs]
        have HT := Lib.hid (filter_no (p := atB) HZ.out (by unfold atB; exact hb0))
        clear hs
        go_wp2_with fail
        go_roundw
        case rel => exact ⟨k + 1, by omega, by go_num, A9, m, c9, AZ, cZ, rfl, rfl, Lib.hid ⟨by rw [HT.out]; exact S1.out.1, by rw [HT.out]; exact S1.out.2.1, S1.out.2.2.1, by have := S1.out.2.2.2.1; omega, S1.out.2.2.2.2⟩⟩
        case measure => simp [intOf]; omega
    · obtain rfl : k = ni := by omega
      have he : its.take k = its := List.take_of_length_le (by rw [← HI.out.1]; exact Nat.le_refl _)
      have hM := H.out.1
      have hMZ := H.out.2.1
      rw [he] at hM hMZ
      obtain ⟨V, hVV⟩ : ∃ V, V = wr := ⟨_, rfl⟩
      subst hVV
      cases hv : okT fs f t y its with
      | false =>
        have HB1 := Lib.hid (HBn.out hv)
        have K1 := Lib.hid H.out.2.2.2.2
        clear he hM hMZ HBe HBn H
        go_wp2_with (first
          | (go_at_call 8; refine (HB1.out V K1.out).mono ?_; rintro e w2 ⟨rfl, k2⟩; have K2 := Lib.hid (thru K1.out k2); clear k2)
          | (go_at_call 8; refine (HB1.out w2 K2.out).mono ?_; rintro e w2b ⟨rfl, k2⟩; have K2b := Lib.hid (thru K2.out k2); clear k2)
          | (go_at_call 9; refine (tspeaks hO hP w2b).mono ?_; rintro e w3 ⟨rfl, k3⟩; have K3 := Lib.hid (thru K2b.out k3); clear k3)
          | (go_at_call 9; refine (tspeaks hO hP w3).mono ?_; rintro e w9 ⟨rfl, k9⟩; have K9 := Lib.hid (thru K3.out k9); clear k9))
        go_ret
        exact ⟨rfl, K9.out⟩
      | true =>
        have ho := okT_so hv
        obtain ⟨js, hjs⟩ : ∃ js, its.filter atB = js := ⟨_, rfl⟩
        rw [hjs] at hM hMZ
        have hjl : js.length = m := hM.len
        have hjn : js.length ≤ its.length := by rw [← hjs]; exact List.length_filter_le _ _
        have h30 := ho.n2
        have hjr : ∀ x ∈ js, RightI x := fun x hx => ho.ri x (by rw [← hjs] at hx; exact (List.mem_filter.1 hx).1)
        have hj0 : ∀ x ∈ js, x.sd = 0 := fun x hx => by
          rw [← hjs] at hx
          have := (List.mem_filter.1 hx).2
          unfold atB at this
          simpa using this
        have hZr : ∀ z ∈ js.map It.z, RightS z := fun z hz => by
          obtain ⟨x, hx, rfl⟩ := List.mem_map.1 hz
          exact (hjr x hx).size (hj0 x hx)
        have h49 := nearZ_49 ho.lo.fl (by omega)
        have HB1 := Lib.hid (HBe.out hv)
        have HM := Lib.hid (⟨hM, H.out.2.2.2.2, fun j e => (hM.lt j e).2, hMZ, fun j e => (hMZ.lt j e).2⟩ : MineE encI 46 V w.heap.size A9 m c9 js ∧ Below w.heap.size w V ∧ (∀ j, blk A9 = some j → j < V.heap.size) ∧ MineE encZP 50 V w.heap.size AZ m cZ (js.map It.z) ∧ ∀ j, blk AZ = some j → j < V.heap.size)
        have HOf := Lib.hid (fun w1 (h : MineE encI 46 w1 w.heap.size A9 m c9 js) => tof_any A9 m c9 js w1 hjl.symm (by omega) (items_mine h))
        have HLy := Lib.hid (fun w1 F p A0 c0 (hs : S w1 F p fs) (hx : MineE encI 61 w1 0 A0 js.length c0 js) (hxF : ∀ j, blk A0 = some j → ¬ F j) => lay_law hO hP ho hjr (by omega) w1 F p A0 c0 hs hx hxF)
        have HAl := Lib.hid (fun w1 G q (hs : S w1 G q fs) (hz : MineE encZP 50 w1 w.heap.size AZ m cZ (js.map It.z)) => lall_any hO w1 G q fs f t y AZ m cZ (js.map It.z) hs h49 (by have h1 : -140737488355328 ≤ f := ho.lo.f1; have h2 : f ≤ 140737488355328 := ho.lo.f2; omega) (by have h1 : -140737488355328 ≤ t := ho.lo.t1; have h2 : t ≤ 140737488355328 := ho.lo.t2; omega) (by have h1 : -140737488355328 ≤ y := ho.lo.y1; have h2 : y ≤ 140737488355328 := ho.lo.y2; omega) (by rw [List.length_map]; exact hjl.symm) (by omega) (sizesP_mine hz) hZr)
        have HFc := Lib.hid (facts_of ho.lo hjr (by omega))
        have hpl := layD_plain (fs := fs) (f := f) (t := t) (y := y) hj0
        have hfs := plain_fs hj0 (Nat.le_refl _) HFc.out.T
        have HNr := Lib.hid (near49_near h49)
        obtain ⟨D, hD⟩ : ∃ D, layD fs f t y js = D := ⟨_, rfl⟩
        rw [hD] at HLy hpl hfs HFc
        rw [hjl] at HLy
        rw [← hpl, List.length_map, List.map_map] at HAl
        replace HAl : Hid (∀ w1 G q, S w1 G q fs → MineE encZP 50 w1 w.heap.size AZ m cZ (js.map It.z) → Calls Try.prog 14 #[.pointer (some q), .agg #[.int .i64 f, .int .i64 t], .int .i64 y, .slice AZ m cZ] w1 fun e w' => (∃ A' c', e = .returned (.slice A' D.out.length c') ∧ MineE encL 41 w' w1.heap.size A' D.out.length c' (D.out.map fun e => lnOf e.1)) ∧ Below w1.heap.size w1 w') := HAl
        have hol : D.out.length ≤ 30 := by
          have h1 := flat_len fun e he => (HFc.out.T.ln e he).2
          rw [← HFc.out.atoms] at h1
          have := atomsK_len js js.length
          omega
        have HE := Lib.hid (⟨hol, hfs⟩ : D.out.length ≤ 30 ∧ D.m.fs = fs)
        have HC := Lib.hid (⟨chain_end HFc.out.T.ch, fun j e (hj : D.out[j]? = some e) => chain_at HFc.out.T.ch hj⟩ : botAt y D.out D.out.length = D.m.y ∧ ∀ j e, D.out[j]? = some e → botAt y D.out j ≤ e.1.top ∧ e.1.top ≤ e.1.b)
        clear he hM hMZ HBe HBn H hv ho hjs hjl hjn hjr hj0 h30 hZr h49 hpl hfs hD hol
        go_upto_region 14 with (first
          | (go_at_call 8; refine (HB1.out V HM.out.2.1).mono ?_; rintro e w2 ⟨⟨p, F, rfl, hL, hF⟩, k2⟩; have S2 := Lib.hid (⟨hL, thru HM.out.2.1 k2, hF, HM.out.1.below k2, HM.out.2.2.2.1.below k2⟩ : S w2 F p fs ∧ Below w.heap.size w w2 ∧ (∀ k, F k → V.heap.size ≤ k) ∧ MineE encI 46 w2 w.heap.size A9 m c9 js ∧ MineE encZP 50 w2 w.heap.size AZ m cZ (js.map It.z)); have Z2 := Lib.hid k2.size; clear hL hF k2)
          | (go_at_call 8; refine (HB1.out w2 S2.out.2.1).mono ?_; rintro e w2b ⟨⟨q, G, rfl, hL, hF⟩, k2⟩; have S2b := Lib.hid (⟨thruS hO S2.out.1 k2, hL, thru S2.out.2.1 k2, S2.out.2.2.1, fun k e => Nat.le_trans Z2.out (hF k e), fun k e g => by have := hF k e; have := hO.lt _ _ _ _ S2.out.1 k g; omega, S2.out.2.2.2.1.below k2, S2.out.2.2.2.2.below k2⟩ : S w2b F p fs ∧ S w2b G q fs ∧ Below w.heap.size w w2b ∧ (∀ k, F k → V.heap.size ≤ k) ∧ (∀ k, G k → V.heap.size ≤ k) ∧ (∀ k, G k → ¬ F k) ∧ MineE encI 46 w2b w.heap.size A9 m c9 js ∧ MineE encZP 50 w2b w.heap.size AZ m cZ (js.map It.z)); clear hL hF k2)
          | (go_at_call 9; refine (tspeaks hO hP w2b).mono ?_; rintro e w3 ⟨rfl, k3⟩; have S3 := Lib.hid (⟨thruS hO S2b.out.1 k3, thruS hO S2b.out.2.1 k3, thru S2b.out.2.2.1 k3, S2b.out.2.2.2.1, S2b.out.2.2.2.2.1, S2b.out.2.2.2.2.2.1, S2b.out.2.2.2.2.2.2.1.below k3, S2b.out.2.2.2.2.2.2.2.below k3⟩ : S w3 F p fs ∧ S w3 G q fs ∧ Below w.heap.size w w3 ∧ (∀ k, F k → V.heap.size ≤ k) ∧ (∀ k, G k → V.heap.size ≤ k) ∧ (∀ k, G k → ¬ F k) ∧ MineE encI 46 w3 w.heap.size A9 m c9 js ∧ MineE encZP 50 w3 w.heap.size AZ m cZ (js.map It.z)); clear k3)
          | (go_at_call 11; refine (HOf.out w3 S3.out.2.2.2.2.2.2.1).mono ?_; rintro e w4 ⟨⟨A4, c4, rfl, hM⟩, k4⟩; have S4 := Lib.hid (⟨⟨thruS hO S3.out.1 k4, thruS hO S3.out.2.1 k4, thru S3.out.2.2.1 k4, S3.out.2.2.2.1, S3.out.2.2.2.2.1, S3.out.2.2.2.2.2.1, S3.out.2.2.2.2.2.2.1.below k4, S3.out.2.2.2.2.2.2.2.below k4⟩, MineE.mono hM (Nat.zero_le _), fun j e x => by have := (hM.lt j e).1; have := hO.lt _ _ _ _ S3.out.1 j x; omega⟩ : (S w4 F p fs ∧ S w4 G q fs ∧ Below w.heap.size w w4 ∧ (∀ k, F k → V.heap.size ≤ k) ∧ (∀ k, G k → V.heap.size ≤ k) ∧ (∀ k, G k → ¬ F k) ∧ MineE encI 46 w4 w.heap.size A9 m c9 js ∧ MineE encZP 50 w4 w.heap.size AZ m cZ (js.map It.z)) ∧ MineE encI 61 w4 0 A4 m c4 js ∧ ∀ j, blk A4 = some j → ¬ F j); clear hM k4)
          | (go_at_call 10; refine (HLy.out w4 F p A4 c4 S4.out.1.1 S4.out.2.1 S4.out.2.2).mono ?_; rintro e w5 ⟨⟨bx, A3, c3, F5, rfl, hQ⟩, k5⟩; have S5 := Lib.hid (⟨hQ, S4.out.1.2.2.1.trans (k5.below S4.out.1.2.2.1.size (fun k e => Nat.le_trans HM.out.2.1.size (S4.out.1.2.2.2.1 k e))), hO.keep _ _ _ _ _ _ S4.out.1.2.1 k5 S4.out.1.2.2.2.2.2.1, mineE_but S4.out.1.2.2.2.2.2.2.2 k5 (fun j e x => by have := HM.out.2.2.2.2 j e; have := S4.out.1.2.2.2.1 j x; omega)⟩ : LaidOut S w4.heap.size w5 F F5 p bx A3 c3 m D ∧ Below w.heap.size w w5 ∧ S w5 G q fs ∧ MineE encZP 50 w5 w.heap.size AZ m cZ (js.map It.z)); clear hQ k5))
        generalize hW : World.alloc w5 _ = U
        obtain ⟨b, hb⟩ : ∃ b, w5.heap.size = b := ⟨_, rfl⟩
        have k6 : Below w5.heap.size w5 U := by rw [← hW]; exact ba1 _ _
        have z6 : RowAt U b [.slice (some ⟨bx, 0, none⟩) m m, .slice A3 D.out.length c3, .int .i64 D.m.y] := by rw [← hW, ← hb]; exact RowAt.new w5 _ _
        rw [hb]
        have S6 := Lib.hid (⟨⟨z6, (S5.out.1.bo.below k6).mono (Nat.zero_le _), (S5.out.1.li.below k6).mono (Nat.zero_le _)⟩, thru S5.out.2.1 k6, by have := S5.out.1.sp; rw [HE.out.2] at this; exact thruS hO this k6, thruS hO S5.out.2.2.1 k6, S5.out.2.2.2.below k6⟩ : Has U b bx A3 c3 m D ∧ Below w.heap.size w U ∧ S U F5 p fs ∧ S U G q fs ∧ MineE encZP 50 U w.heap.size AZ m cZ (js.map It.z))
        clear hW hb k6 z6 S5 S4 S3 S2b S2 HB1 HOf HLy Z2 HM
        go_upto_region 15 with (first
          | (go_at_call 14; refine (HAl.out U G q S6.out.2.2.2.1 S6.out.2.2.2.2).mono ?_; rintro e w7 ⟨⟨A8, c8, rfl, hM⟩, k7⟩; have S7 := Lib.hid (⟨S6.out.1.below k7, thru S6.out.2.1 k7, thruS hO S6.out.2.2.1 k7, hM.mono (Nat.zero_le _)⟩ : Has w7 b bx A3 c3 m D ∧ Below w.heap.size w w7 ∧ S w7 F5 p fs ∧ MineE encL 41 w7 0 A8 D.out.length c8 (D.out.map fun e => lnOf e.1)); clear hM k7))
        clear S6 HAl
        have HFl := Lib.hid (hO.floats w7 F5 p fs S7.out.2.2.1 HNr.out)
        rw [← HI.out.2.2.2.2] at HFl
        obtain ⟨c0, c1, c2⟩ := S7.out.1.cells
        go_upto_region 17 with (first
          | (go_at_call 12; refine HFl.out.mono ?_; rintro e Y ⟨⟨AF, cF, rfl, hM⟩, k8⟩; have S8 := Lib.hid (⟨S7.out.1.below k8, thru S7.out.2.1 k8, S7.out.2.2.2.below k8⟩ : Has Y b bx A3 c3 m D ∧ Below w.heap.size w Y ∧ MineE encL 41 Y 0 A8 D.out.length c8 (D.out.map fun e => lnOf e.1)); clear hM k8))
        clear S7 HFl c0 c1 c2
        go_wp2_with fail
        go_loopw [19, 99] (fun t1 i wr => ∃ j : Nat, j ≤ D.out.length ∧ i = .int .i64 (j : Int) ∧ t1 = .int .i64 (botAt y D.out j) ∧ Hid (Below Y.heap.size Y wr)) (fun _ i _ => D.out.length - (intOf i).toNat)
        case atStart => exact ⟨0, Nat.zero_le _, rfl, rfl, Lib.hid (Below.refl _ _)⟩
        case round =>
          obtain ⟨j, hj, rfl, rfl, H⟩ := hrel
          have hasD := S8.out.1.below H.out
          have hasL := S8.out.2.2.below H.out
          by_cases hlj : j < D.out.length
          · have hji : (j : Int) < (D.out.length : Int) := by omega
            have hj0 : ¬ (j : Int) < 0 := by omega
            have hwj : IntKind.i64.wrap ((j : Int) + 1) = (j : Int) + 1 := by have := HE.out.1; exact IntWalk.i64_in _ (by omega)
            obtain ⟨e, he⟩ : ∃ e, D.out[j]? = some e := ⟨_, List.getElem?_eq_getElem hlj⟩
            obtain ⟨g1, eA, -⟩ := hasD.line he
            subst eA
            obtain ⟨g2, eA, l0, l1, l2, l3, l4, l5⟩ := own_line hasL he
            subst eA
            have HT := Lib.hid (botAt_next (y := y) he)
            have HXb := Lib.hid (show (lnOf e.1).b = e.1.b from rfl)
            obtain ⟨X, hX⟩ : ∃ X, lnOf e.1 = X := ⟨_, rfl⟩
            rw [hX] at l0 l1 l2 l3 l4 l5 HXb
            go_upto_region 21 with fail
            generalize hW1 : World.alloc wr _ = W1
            obtain ⟨b21, hb21⟩ : ∃ b21, wr.heap.size = b21 := ⟨_, rfl⟩
            have k1 : Below wr.heap.size wr W1 := by rw [← hW1]; exact ba1 _ _
            have z21 : RowAt W1 b21 (lnrow X) := by rw [← hW1, ← hb21]; exact RowAt.new wr _ _
            try rw [hb21]
            have HLi := Lib.hid (fun w' (i : Below W1.heap.size W1 w') => show RowAt w' b21 (lnrow X) ∧ w'.cell? ⟨b, 1, none⟩ = some (.slice (some ⟨g1, 0, none⟩) D.out.length c3) ∧
                (w'.cell? ⟨g1, j * 6, none⟩ = some (.int .i64 X.l) ∧ w'.cell? ⟨g1, j * 6 + 1, none⟩ = some (.int .i64 X.t) ∧ w'.cell? ⟨g1, j * 6 + 2, none⟩ = some (.int .i64 X.r) ∧ w'.cell? ⟨g1, j * 6 + 3, none⟩ = some (.int .i64 X.b) ∧ w'.cell? ⟨g1, j * 6 + 4, none⟩ = some (.int .i64 X.a) ∧ w'.cell? ⟨g1, j * 6 + 5, none⟩ = some (.int .i64 X.w)) by
              have h8 := hasD.below (thru k1 i)
              obtain ⟨g3, q1, r1⟩ := h8.line he
              obtain rfl : g1 = g3 := by injection q1 with q1; injection q1
              rw [hX] at r1
              exact ⟨z21.below (by simp) i, h8.at'.at' 1, r1⟩)
            have H1 := Lib.hid (thru H.out k1)
            clear hW1 hb21 k1 l0 l1 l2 l3 l4 l5 z21 he hX hasD hasL
            refine HoldAll.wp_region_hold_all [.val (.agg #[.int .i64 X.l, .int .i64 X.t, .int .i64 X.r, .int .i64 X.b, .int .i64 X.a, .int .i64 X.w]), .val (.pointer (some ⟨b, 1, none⟩)), .val (.slice (some ⟨g1, 0, none⟩) D.out.length c3), .val (.int .i64 (j : Int)), .val (.pointer (some ⟨g1, j * 6, none⟩)), .val (.agg #[.int .i64 X.l, .int .i64 X.t, .int .i64 X.r, .int .i64 X.b, .int .i64 X.a, .int .i64 X.w]), .val (.bool false)] (by kernel_rfl) (by kernel_rfl) (by kernel_rfl) ?_ ?_
            · simp only [Hold.fill, Hold.Leave.value]
              refine ⟨?_, ?_, ?_, ?_, ?_, ?_, ?_, trivial⟩
              · intro gg w' hw hk
                have q0 : w'.cell? ⟨b21, 0, none⟩ = some (.int .i64 X.l) := ((HLi.out w' hw).1).at' 0
                have q1 : w'.cell? ⟨b21, 1, none⟩ = some (.int .i64 X.t) := ((HLi.out w' hw).1).at' 1
                have q2 : w'.cell? ⟨b21, 2, none⟩ = some (.int .i64 X.r) := ((HLi.out w' hw).1).at' 2
                have q3 : w'.cell? ⟨b21, 3, none⟩ = some (.int .i64 X.b) := ((HLi.out w' hw).1).at' 3
                have q4 : w'.cell? ⟨b21, 4, none⟩ = some (.int .i64 X.a) := ((HLi.out w' hw).1).at' 4
                have q5 : w'.cell? ⟨b21, 5, none⟩ = some (.int .i64 X.w) := ((HLi.out w' hw).1).at' 5
                go_simp
                exact ⟨rfl, rfl⟩
              · intro gg w' hw hk
                go_simp
                exact ⟨rfl, rfl⟩
              · intro gg w' hw hk
                have q0 : w'.cell? ⟨b, 1, none⟩ = some (.slice (some ⟨g1, 0, none⟩) D.out.length c3) := (HLi.out w' hw).2.1
                go_simp
                exact ⟨rfl, rfl⟩
              · intro gg w' hw hk
                go_simp
                exact ⟨rfl, rfl⟩
              · intro gg w' hw hk
                go_simp
                exact ⟨rfl, rfl⟩
              · intro gg w' hw hk
                have q0 : w'.cell? ⟨g1, j * 6, none⟩ = some (.int .i64 X.l) := (HLi.out w' hw).2.2.1
                have q1 : w'.cell? ⟨g1, j * 6 + 1, none⟩ = some (.int .i64 X.t) := (HLi.out w' hw).2.2.2.1
                have q2 : w'.cell? ⟨g1, j * 6 + 2, none⟩ = some (.int .i64 X.r) := (HLi.out w' hw).2.2.2.2.1
                have q3 : w'.cell? ⟨g1, j * 6 + 3, none⟩ = some (.int .i64 X.b) := (HLi.out w' hw).2.2.2.2.2.1
                have q4 : w'.cell? ⟨g1, j * 6 + 4, none⟩ = some (.int .i64 X.a) := (HLi.out w' hw).2.2.2.2.2.2.1
                have q5 : w'.cell? ⟨g1, j * 6 + 5, none⟩ = some (.int .i64 X.w) := (HLi.out w' hw).2.2.2.2.2.2.2
                go_simp
                exact ⟨rfl, rfl⟩
              · intro gg w' hw hk
                have q' := eqLn_same X.l X.t X.r X.b X.a X.w w'
                go_simp
                exact ⟨rfl, rfl⟩
            intro gg w4 k4 hgg
            clear hgg
            simp only [Hold.fill, Hold.Leave.value]
            have H4 := Lib.hid (thru H1.out k4)
            have x3 : w4.cell? ⟨b21, 3, none⟩ = some (.int .i64 X.b) := (HLi.out w4 k4).1.at' 3
            clear k4 HLi
            go_simp
            go_wp2_with fail
            go_roundw
            case rel => exact ⟨j + 1, by omega, by go_num, by rw [HT.out, ← HXb.out], H4⟩
            case measure => simp [intOf]; omega
          · obtain rfl : j = D.out.length := by omega
            obtain ⟨c0, c1, c2⟩ := hasD.cells
            rw [HC.out.1]
            have hyy : (D.m.y == D.m.y) = true := by simp
            clear hasD hasL
            go_wp2_with fail
            go_ret
            exact ⟨rfl, thru S8.out.2.1 H.out⟩

end

end Go.Proofs.Ytdibdfalahjmbaa.Text
