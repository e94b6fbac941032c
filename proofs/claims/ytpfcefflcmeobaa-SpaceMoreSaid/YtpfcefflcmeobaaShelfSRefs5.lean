/- The contract of the document's shelves. -/
import Derived.Test.YtpfcefflcmeobaaShelfSRefs4
import Derived.Test.YtpfcefflcmeobaaMoreRows
namespace Go.Proofs.Ytpfcefflcmeobaa.Shelf
open Go.RowKit Go.Sort Go.Proofs.Ytpfcefflcmeobaa.Rect Go.Proofs.Ytpfcefflcmeobaa.More

def encSh : Enc (Int × (Int × Int)) := ⟨3, fun x => [.int .i64 x.1, .int .i64 x.2.1, .int .i64 x.2.2], fun _ => rfl, fun x u h => by
  simp only [List.mem_cons, List.not_mem_nil, or_false] at h
  rcases h with h | h | h <;> (subst h; rfl), by omega⟩

theorem infoSh : InfoE encSh 63 60 24 :=
  ⟨Try.underlying60, .agg #[.int .i64 0, .int .i64 0, .int .i64 0], rfl, by kernel_rfl⟩

theorem oneSh (w : World) (a b c : Int) : MineE encSh 63 (w.alloc (.cells #[.int .i64 a, .int .i64 b, .int .i64 c] 63)) w.heap.size (some ⟨w.heap.size, 0, none⟩) 1 1 [(a, (b, c))] := by
  have := World.ownsRow_lit (e := 63) (size := 3) (base := w.heap.size) w #[.int .i64 a, .int .i64 b, .int .i64 c] 1 (Nat.le_refl _) (by unfold maxLen; omega) rfl
  simpa [MineE, encSh] using this

/-- A number of the last one of a list. -/
theorem cell_last {w : World} {B g l c : Nat} {pre : List (Int × (Int × Int))} {x : Int × (Int × Int)} (h : MineE encSh 63 w B (some ⟨g, 0, none⟩) l c (pre ++ [x])) (j : Nat) (hj : j < 3) {u : Value} (hu : (encSh.cells x)[j]? = some u) : w.cell? ⟨g, pre.length * 3 + j, none⟩ = some u :=
  (MineE.at h pre.length x (by simp) j hj).trans hu

theorem cell_last0 {w : World} {B g l c : Nat} {pre : List (Int × (Int × Int))} {x : Int × (Int × Int)} (h : MineE encSh 63 w B (some ⟨g, 0, none⟩) l c (pre ++ [x])) : w.cell? ⟨g, pre.length * 3, none⟩ = some (.int .i64 x.1) := cell_last h 0 (by decide) rfl

/-- How much is left: an edge below, or none. -/
def leftM (fs : List Fl) (t o : Value) : Nat := match o with
  | .bool true => 1 + leftN fs (intOf t)
  | _ => 0

set_option maxRecDepth 100000 in
set_option maxHeartbeats 8000000 in
theorem refshelves_any (A : Option Addr) (n c : Nat) (fs : List Fl) (w : World) (hn : n = fs.length) (hlen : n ≤ 1000) (hx : Floats w w.heap.size A fs) :
    Calls Try.prog 29 #[.slice A n c] w fun e w' => (∃ A' c', e = .returned (.slice A' (shelvesD fs).length c') ∧ MineE encSh 63 w' w.heap.size A' (shelvesD fs).length c' (shelvesD fs)) ∧ Below w.heap.size w w' := by
  have HLen := Lib.hid (shelvesD_len fs)
  have HBa := Lib.hid (fun y w1 (k : Below w.heap.size w w1) => refbounds_any A n c fs y w1 hn (by omega) (hx.thru k))
  have HNa := Lib.hid (fun y w1 (k : Below w.heap.size w w1) => refnext_any A n c fs y w1 hn (by omega) (hx.thru k))
  have HN := Lib.hid hn
  have hl0 := nextF_least fs (-far)
  obtain ⟨y0, ok0, h0⟩ : ∃ y0 ok0, nextF fs (-far) = (y0, ok0) := ⟨_, _, rfl⟩
  have HN0 := Lib.hid (fun w1 (k : Below w.heap.size w w1) => HNa.out (-4503599627370496) w1 k)
  rw [show nextF fs (-4503599627370496) = (y0, ok0) from h0] at HN0
  have HD0 := Lib.hid (show [((-far : Int), ((-far : Int), (far : Int)))] ++ (if ok0 then restS fs (2 * fs.length) (-far, far) y0 else []) = shelvesD fs by unfold shelvesD; rw [h0]; rfl)
  have HE0 := Lib.hid (show ok0 = true → edge fs y0 ∧ leftN fs y0 ≤ 2 * fs.length from fun h => by
    rw [h0] at hl0
    unfold Least at hl0
    rw [if_pos h] at hl0
    exact ⟨hl0.2.1, Nat.le_trans (List.countP_le_length ..) (edgesL_len fs)⟩)
  clear hx hn hl0 h0
  go_enter Try.func29, Try.ntmps29
  go_wp2_with (first
    | (go_at_call 40; refine (HN0.out _ (ba1 w _)).mono ?_; rintro e w1 ⟨rfl, k1⟩; have MM := Lib.hid ((oneSh w (-far) (-far) far).below k1); have KK := Lib.hid (thru (ba1 w _) k1); clear k1))
  go_loopw [3, 4, 5] (fun s t o wr => ∃ (A' : Option Addr) (l c' : Nat) (tl b1 b2 : Int) (pre : List (Int × (Int × Int))) (q : Nat) (yv : Int) (ok : Bool), s = .slice A' l c' ∧ t = .int .i64 yv ∧ o = .bool ok ∧
    Hid (MineE encSh 63 wr w.heap.size A' l c' (pre ++ [(tl, (b1, b2))]) ∧ Below w.heap.size w wr) ∧ Hid ((pre ++ [(tl, (b1, b2))]) ++ (if ok then restS fs q (b1, b2) yv else []) = shelvesD fs) ∧ Hid (ok = true → edge fs yv ∧ leftN fs yv ≤ q)) (fun _ t o _ => leftM fs t o)
  case atStart => exact ⟨_, _, _, -far, -far, far, [], 2 * fs.length, y0, ok0, rfl, rfl, rfl, Lib.hid ⟨MM.out, KK.out⟩, HD0, HE0⟩
  case round =>
    clear MM KK HD0 HE0 HN0
    obtain ⟨A', l, c', tl, b1, b2, pre, q0, yv, ok, rfl, rfl, rfl, H, HSH0, HE⟩ := hrel
    cases ok
    · have hend := HSH0.out
      rw [if_neg (by simp), List.append_nil] at hend
      have HEN := Lib.hid hend
      have hl := H.out.1.len
      rw [hend] at hl
      have HL := Lib.hid hl
      clear hend hl HSH0 HE
      go_wp2_with fail
      exact bodyPost_ret (v := .slice A' l c') (by simp [results, Try.results29, go_sem]) rfl ⟨⟨_, _, by rw [HL.out], by rw [HL.out, ← HEN.out]; exact H.out.1⟩, H.out.2⟩
    · obtain ⟨hedge, hleft⟩ := HE.out rfl
      obtain ⟨q, rfl⟩ : ∃ q, q0 = q + 1 := by
        have : 0 < leftN fs yv := List.countP_pos_iff.2 ⟨yv, edgesL_mem.2 hedge, by simp⟩
        exact ⟨q0 - 1, by omega⟩
      have hl := H.out.1.len
      rw [List.length_append, List.length_singleton] at hl
      obtain ⟨g, rfl, hg1, hg2, -, -⟩ := H.out.1.form (by omega)
      have hbd : l ≤ 2 * fs.length + 1 := by
        have h1 := HLen.out
        rw [← HSH0.out, List.length_append, List.length_append, List.length_singleton] at h1
        omega
      have HLN := Lib.hid (show l ≤ 2 * n + 1 by rw [HN.out]; exact hbd)
      have hnn := HN.out
      obtain ⟨pl, hpl⟩ : ∃ pl, pre.length = pl := ⟨_, rfl⟩
      rw [hpl] at hl
      have hlw : IntKind.i64.wrap ((l : Int) - 1) = (pl : Int) := by rw [IntWalk.i64_in _ (by omega)]; omega
      have hpli : (pl : Int) < (l : Int) := by omega
      have hpl0 : ¬ (pl : Int) < 0 := by omega
      have HBD := Lib.hid (fun w1 (k : Below w.heap.size w w1) => HBa.out yv w1 k)
      have HNX := Lib.hid (fun w1 (k : Below w.heap.size w w1) => HNa.out yv w1 k)
      have hlst := nextF_least fs yv
      obtain ⟨y2, ok2, h2⟩ : ∃ y2 ok2, nextF fs yv = (y2, ok2) := ⟨_, _, rfl⟩
      rw [h2] at HNX hlst
      obtain ⟨L, hL⟩ : ∃ L, bandL fs yv (yv + 1) = L := ⟨_, rfl⟩
      obtain ⟨R, hR⟩ : ∃ R, bandR fs yv (yv + 1) = R := ⟨_, rfl⟩
      rw [hL, hR] at HBD
      have hF : bndF fs yv = (L, R) := by unfold bndF; rw [hL, hR]
      have HSH := HSH0
      have HRS := Lib.hid (show (if (true : Bool) then restS fs (q + 1) (b1, b2) yv else []) = if (L, R) = (b1, b2) then (if ok2 then restS fs q (b1, b2) y2 else []) else (yv, (L, R)) :: (if ok2 then restS fs q (L, R) y2 else []) by
        rw [if_pos rfl, restS, hF, h2])
      have HOK := Lib.hid (show ok2 = true → edge fs y2 ∧ leftN fs y2 ≤ q from fun h => by
        unfold Least at hlst
        rw [if_pos h] at hlst
        have := leftN_less hedge (show yv < y2 from hlst.1)
        exact ⟨hlst.2.1, by omega⟩)
      have HMS := Lib.hid (show leftM fs (.int .i64 y2) (.bool ok2) < leftM fs (.int .i64 yv) (.bool true) by
        cases ok2
        · show 0 < 1 + leftN fs yv; omega
        · unfold Least at hlst
          rw [if_pos rfl] at hlst
          have := leftN_less hedge (show yv < y2 from hlst.1)
          show 1 + leftN fs y2 < 1 + leftN fs yv; omega)
      clear HSH0 HE hedge hleft hbd hlst h2 hL hR hF hl hnn
      subst hpl
      by_cases e1 : L = b1
      · have n1 : (L != b1) = false := by simp [e1]
        by_cases e2 : R = b2
        · have n2 : (R != b2) = false := by simp [e2]
          have HEQ := Lib.hid (show (L, R) = (b1, b2) by rw [e1, e2])
          clear e1 e2
          go_upto_region 6 with (first
            | (go_at_call 41; refine (HBD.out _ H.out.2).mono ?_; rintro e w1 ⟨rfl, k1⟩; have K1 := Lib.hid (thru H.out.2 k1); have M1 := Lib.hid (H.out.1.below k1); have s0 := cell_last0 M1.out; have s1 := cell_last M1.out 1 (by decide) rfl; have s2 := cell_last M1.out 2 (by decide) rfl; clear k1))
          go_upto_region 8 with fail
          have KZ := Lib.hid (K1.out.trans ((ba1 w1 (.cells #[.int .i64 tl, .int .i64 b1, .int .i64 b2] 63)).mono K1.out.size))
          have MZ := Lib.hid (M1.out.alloc (.cells #[.int .i64 tl, .int .i64 b1, .int .i64 b2] 63))
          clear s0 s1 s2
          go_wp2_with (first
            | (go_at_call 40; refine (HNX.out _ KZ.out).mono ?_; rintro e w5 ⟨rfl, k5⟩; have K5 := Lib.hid (thru KZ.out k5); have M5 := Lib.hid (MZ.out.below k5); clear k5))
          go_roundw
          case rel => exact ⟨_, _, _, tl, b1, b2, pre, q, y2, ok2, rfl, rfl, rfl, Lib.hid ⟨M5.out, K5.out⟩, Lib.hid (by rw [← HSH.out, HRS.out, if_pos HEQ.out]), Lib.hid (fun h => HOK.out h)⟩
          case measure => exact HMS.out
        · have n2 : (R != b2) = true := by rw [bne_iff_ne]; exact e2
          have HEQ := Lib.hid (show ¬ (L, R) = (b1, b2) from fun h => e2 (congrArg Prod.snd h))
          clear e1 e2
          go_upto_region 6 with (first
            | (go_at_call 41; refine (HBD.out _ H.out.2).mono ?_; rintro e w1 ⟨rfl, k1⟩; have K1 := Lib.hid (thru H.out.2 k1); have M1 := Lib.hid (H.out.1.below k1); have s0 := cell_last0 M1.out; have s1 := cell_last M1.out 1 (by decide) rfl; have s2 := cell_last M1.out 2 (by decide) rfl; clear k1))
          go_upto_region 7 with fail
          have KW := Lib.hid (K1.out.trans ((ba1 w1 (.cells #[.int .i64 tl, .int .i64 b1, .int .i64 b2] 63)).mono K1.out.size))
          have MW := Lib.hid (M1.out.alloc (.cells #[.int .i64 tl, .int .i64 b1, .int .i64 b2] 63))
          generalize World.alloc w1 _ = W at KW MW ⊢
          clear s0 s1 s2
          have hzW := KW.out.size
          go_upto_region 8 with (first
            | (at_builtin; refine wpList_append_E (by omega) infoSh _ rfl (.tmp 39) (.tmp 44) rfl w.heap.size (some ⟨g, 0, none⟩) l c' (pre ++ [(tl, (b1, b2))]) rfl (MW.out.alloc _) (some ⟨W.heap.size, 0, none⟩) 1 1 [(yv, (L, R))] rfl (oneE_src encSh W (yv, (L, R)) 63) (by have := HLN.out; omega) (by simp; omega) ?_; intro A1 c1 W1 h1; have hb1 := h1.below (MW.out.alloc _) (KW.out.alloc KW.out.size _) (Nat.le_refl _) (by simp; omega); have MZ := Lib.hid h1.1; have KZ := Lib.hid hb1; clear h1 hb1))
          go_wp2_with (first
            | (go_at_call 40; refine (HNX.out _ KZ.out).mono ?_; rintro e w5 ⟨rfl, k5⟩; have K5 := Lib.hid (thru KZ.out k5); have M5 := Lib.hid (MZ.out.below k5); clear k5))
          go_roundw
          case rel => exact ⟨_, _, _, yv, L, R, pre ++ [(tl, (b1, b2))], q, y2, ok2, rfl, rfl, rfl, Lib.hid ⟨M5.out, K5.out⟩, Lib.hid (by rw [← HSH.out, HRS.out, if_neg HEQ.out]; simp), Lib.hid (fun h => HOK.out h)⟩
          case measure => exact HMS.out
      · have n1 : (L != b1) = true := by rw [bne_iff_ne]; exact e1
        have HEQ := Lib.hid (show ¬ (L, R) = (b1, b2) from fun h => e1 (congrArg Prod.fst h))
        clear e1
        go_upto_region 6 with (first
          | (go_at_call 41; refine (HBD.out _ H.out.2).mono ?_; rintro e w1 ⟨rfl, k1⟩; have K1 := Lib.hid (thru H.out.2 k1); have M1 := Lib.hid (H.out.1.below k1); have s0 := cell_last0 M1.out; have s1 := cell_last M1.out 1 (by decide) rfl; have s2 := cell_last M1.out 2 (by decide) rfl; clear k1))
        go_upto_region 7 with fail
        have KW := Lib.hid (K1.out.trans ((ba1 w1 (.cells #[.int .i64 tl, .int .i64 b1, .int .i64 b2] 63)).mono K1.out.size))
        have MW := Lib.hid (M1.out.alloc (.cells #[.int .i64 tl, .int .i64 b1, .int .i64 b2] 63))
        generalize World.alloc w1 _ = W at KW MW ⊢
        clear s0 s1 s2
        have hzW := KW.out.size
        go_upto_region 8 with (first
          | (at_builtin; refine wpList_append_E (by omega) infoSh _ rfl (.tmp 39) (.tmp 44) rfl w.heap.size (some ⟨g, 0, none⟩) l c' (pre ++ [(tl, (b1, b2))]) rfl (MW.out.alloc _) (some ⟨W.heap.size, 0, none⟩) 1 1 [(yv, (L, R))] rfl (oneE_src encSh W (yv, (L, R)) 63) (by have := HLN.out; omega) (by simp; omega) ?_; intro A1 c1 W1 h1; have hb1 := h1.below (MW.out.alloc _) (KW.out.alloc KW.out.size _) (Nat.le_refl _) (by simp; omega); have MZ := Lib.hid h1.1; have KZ := Lib.hid hb1; clear h1 hb1))
        go_wp2_with (first
          | (go_at_call 40; refine (HNX.out _ KZ.out).mono ?_; rintro e w5 ⟨rfl, k5⟩; have K5 := Lib.hid (thru KZ.out k5); have M5 := Lib.hid (MZ.out.below k5); clear k5))
        go_roundw
        case rel => exact ⟨_, _, _, yv, L, R, pre ++ [(tl, (b1, b2))], q, y2, ok2, rfl, rfl, rfl, Lib.hid ⟨M5.out, K5.out⟩, Lib.hid (by rw [← HSH.out, HRS.out, if_neg HEQ.out]; simp), Lib.hid (fun h => HOK.out h)⟩
        case measure => exact HMS.out
end Go.Proofs.Ytpfcefflcmeobaa.Shelf
