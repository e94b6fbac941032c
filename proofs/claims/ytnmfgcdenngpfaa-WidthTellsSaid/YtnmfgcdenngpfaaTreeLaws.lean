/- What is asked of the program's trees, whatever they look like in memory; the law's example, and its Begin. -/
import Derived.Test.YtnmfgcdenngpfaaTreeChk
import Derived.Test.YtnmfgcdenngpfaaScriptOpen
namespace Go.Proofs.Ytnmfgcdenngpfaa.Tree
open Go.RowKit Go.Sort Go.Proofs.Ytnmfgcdenngpfaa.Record Go.Proofs.Ytnmfgcdenngpfaa.Script

/-- Has a tree a place? -/
def hasT (bs : List Bx) (i : Int) : Prop := 0 ≤ i ∧ i < bs.length

instance (bs : List Bx) (i : Int) : Decidable (hasT bs i) := inferInstanceAs (Decidable (_ ∧ _))

def boxT (bs : List Bx) (i : Int) : Bx := if hasT bs i then bs.getD i.toNat noB else noB
def parT (bs : List Bx) (i : Int) : Int := if hasT bs i then par (dOf bs) i.toNat else -1
def enT (bs : List Bx) (i : Int) : Int := if hasT bs i then (en (dOf bs) bs.length i.toNat : Int) else -1
def ctxT (bs : List Bx) (i : Int) : Int := if hasT bs i then (ctx (dOf bs) (oOf bs) i.toNat : Int) else -1
def kidsT (bs : List Bx) (i : Int) : List Int := if hasT bs i then (kids (dOf bs) bs.length i.toNat).map Int.ofNat else []
def opensT (bs : List Bx) : List Int := (((List.range bs.length).filter (oOf bs)).map Int.ofNat).reverse

theorem hasT_nat {bs : List Bx} {i : Nat} (h : i < bs.length) : hasT bs (i : Int) := ⟨by omega, by omega⟩
theorem boxT_nat {bs : List Bx} {i : Nat} (h : i < bs.length) : boxT bs (i : Int) = bs.getD i noB := by unfold boxT; rw [if_pos (hasT_nat h)]; rfl
theorem parT_nat {bs : List Bx} {i : Nat} (h : i < bs.length) : parT bs (i : Int) = par (dOf bs) i := by unfold parT; rw [if_pos (hasT_nat h)]; rfl
theorem enT_nat {bs : List Bx} {i : Nat} (h : i < bs.length) : enT bs (i : Int) = en (dOf bs) bs.length i := by unfold enT; rw [if_pos (hasT_nat h)]; rfl
theorem ctxT_nat {bs : List Bx} {i : Nat} (h : i < bs.length) : ctxT bs (i : Int) = ctx (dOf bs) (oOf bs) i := by unfold ctxT; rw [if_pos (hasT_nat h)]; rfl
theorem kidsT_nat {bs : List Bx} {i : Nat} (h : i < bs.length) : kidsT bs (i : Int) = (kids (dOf bs) bs.length i).map Int.ofNat := by unfold kidsT; rw [if_pos (hasT_nat h)]; rfl

/-- A slice of numbers that lies somewhere. -/
def GivesL (xs : List Int) (w : World) (u : Value) : Prop := ∃ A c, u = .slice A xs.length c ∧ Nums w w.heap.size A xs

/-- .. in new memory, if it has numbers. -/
def GivesN (B : Nat) (xs : List Int) (w : World) (u : Value) : Prop := ∃ A c, u = .slice A xs.length c ∧ Nums w w.heap.size A xs ∧ (xs ≠ [] → ∀ ad, A = some ad → B ≤ ad.block)

/-- The contracts of the program's trees. -/
structure TreeOk (T : World → Addr → List Bx → Prop) : Prop where
  keep : ∀ w w' p bs, T w p bs → Below w.heap.size w w' → T w' p bs
  yes : ∀ (A : Option Addr) (n c : Nat) (bs : List Bx) (w : World), n = bs.length → n ≤ 1000 → 0 < n → Boxes w w.heap.size A bs → (∀ b ∈ bs, OkB b) → Fine bs n →
    Calls Try.prog 30 #[.slice A n c] w fun r w' => (∃ p, r = .returned (.tuple #[.pointer (some p), .int .i64 (-1), .int .i64 0]) ∧ T w' p bs) ∧ Below w.heap.size w w'
  no : ∀ (A : Option Addr) (n c : Nat) (bs : List Bx) (w : World) (a e : Int), n = bs.length → n ≤ 1000 → Boxes w w.heap.size A bs → (∀ b ∈ bs, OkB b) → chk bs = (a, e) → e ≠ 0 →
    Calls Try.prog 30 #[.slice A n c] w fun r w' => r = .returned (.tuple #[.pointer none, .int .i64 a, .int .i64 e]) ∧ Below w.heap.size w w'
  len : ∀ w p bs, T w p bs → Calls Try.prog 32 #[.pointer (some p)] w fun r w' => r = .returned (.int .i64 (bs.length : Int)) ∧ Below w.heap.size w w'
  box : ∀ w p bs (i : Int), T w p bs → Calls Try.prog 23 #[.pointer (some p), .int .i64 i] w fun r w' => r = .returned (boxT bs i).v ∧ Below w.heap.size w w'
  parent : ∀ w p bs (i : Int), T w p bs → Calls Try.prog 24 #[.pointer (some p), .int .i64 i] w fun r w' => r = .returned (.int .i64 (parT bs i)) ∧ Below w.heap.size w w'

/-- What a list's Check answers is right: no error just if it's fine. -/
theorem chkF_fine (bs : List Bx) : ∀ f i, (∀ j, i ≤ j → j < i + f → badAt bs j = 0) → chkF bs f i = (-1, 0)
  | 0, _, _ => rfl
  | f + 1, i, h => by
    rw [chkF, if_pos (h i (Nat.le_refl _) (by omega))]
    exact chkF_fine bs f (i + 1) (fun j a b => h j (by omega) (by omega))

theorem chkF_ok (bs : List Bx) : ∀ f i a, chkF bs f i = (a, 0) → a = -1 ∧ ∀ j, i ≤ j → j < i + f → badAt bs j = 0
  | 0, i, a, h => by
    rw [chkF] at h
    injection h with h1 h2
    exact ⟨h1.symm, fun j x y => by omega⟩
  | f + 1, i, a, h => by
    rw [chkF] at h
    split at h
    · rename_i hb
      obtain ⟨h1, h2⟩ := chkF_ok bs f (i + 1) a h
      refine ⟨h1, fun j x y => ?_⟩
      by_cases e : j = i
      · subst e; exact hb
      · exact h2 j (by omega) (by omega)
    · rename_i hb
      injection h with h1 h2
      exact absurd h2 hb

theorem chk_fine {bs : List Bx} {n : Nat} (hn : n = bs.length) (h0 : 0 < n) (h : Fine bs n) : chk bs = (-1, 0) := by
  unfold chk
  rw [if_neg (by omega), ← hn]
  exact chkF_fine bs n 0 (fun j _ hj => h j (by omega))

theorem chk_ok {bs : List Bx} {n : Nat} {a : Int} (hn : n = bs.length) (h : chk bs = (a, 0)) : a = -1 ∧ 0 < n ∧ Fine bs n := by
  unfold chk at h
  split at h
  · injection h with h1 h2
    exact absurd h2 (by decide)
  · rename_i h0
    obtain ⟨h1, h2⟩ := chkF_ok bs bs.length 0 a h
    exact ⟨h1, by omega, fun j hj => h2 j (by omega) (by omega)⟩

section
variable {T : World → Addr → List Bx → Prop}

theorem oneB_boxes (w : World) (b : Bx) (t : TypeId) : Boxes (w.alloc (.cells (cellsOfB b).toArray t)) (w.alloc (.cells (cellsOfB b).toArray t)).heap.size (some ⟨w.heap.size, 0, none⟩) [b] := by
  have hm : MineB t (w.alloc (.cells (cellsOfB b).toArray t)) 0 (some ⟨w.heap.size, 0, none⟩) 1 1 [b] := by
    have := World.ownsRow_lit (e := t) (size := 14) (base := 0) w (cellsOfB b).toArray 1 (Nat.zero_le _) (by unfold maxLen; omega) rfl
    simpa [MineB] using this
  exact hm.boxes

theorem okB_zero (k : Int) (hk : (Lit.int .i64 k).wf = true) : OkB ⟨0, k, 0, 0, 0, 0, 0, 0, 0, 0, 0, 0, 0, 0⟩ := by
  intro x hx
  simp only [List.mem_cons, List.not_mem_nil, or_false] at hx
  rcases hx with h | h | h | h | h | h | h | h | h | h | h | h | h | h <;> subst h <;> first | exact hk | decide

set_option maxRecDepth 100000 in
set_option maxHeartbeats 1000000 in
theorem begin_some (hT : TreeOk T) (A : Option Addr) (n c : Nat) (bs : List Bx) (w : World) (hn : n = bs.length) (hlen : n ≤ 1000) (h0 : 0 < n) (hx : Boxes w w.heap.size A bs) (hb : ∀ b ∈ bs, OkB b) (hf : Fine bs n) :
    Calls Try.prog 18 #[.slice A n c] w fun r w' => (∃ p, r = .returned (.pointer (some p)) ∧ T w' p bs) ∧ Below w.heap.size w w' := by
  have HX := Lib.hid hx
  have HN := Lib.hid hn
  have HB := Lib.hid hb
  have HF := Lib.hid hf
  clear hx hn hb hf
  go_enter Try.func18, Try.ntmps18
  go_wp2_with fail
  refine (ofs_any A n c bs w HN.out (by omega) HX.out).mono ?_; rintro e w1 ⟨⟨A1, c1, rfl, h1⟩, k1⟩
  have K1 := Lib.hid k1
  have HM := Lib.hid h1
  clear k1 h1
  go_wp2_with fail
  refine (hT.yes A1 n c1 bs w1 HN.out hlen h0 HM.out.boxes HB.out HF.out).mono ?_; rintro e w2 ⟨⟨p, rfl, ht⟩, k2⟩
  have K2 := Lib.hid (thru K1.out k2)
  have HT2 := Lib.hid ht
  clear k2 ht
  go_wp2_with fail
  go_ret
  exact ⟨⟨p, rfl, HT2.out⟩, K2.out⟩

set_option maxRecDepth 100000 in
set_option maxHeartbeats 1000000 in
theorem begin_none (hT : TreeOk T) (A : Option Addr) (n c : Nat) (bs : List Bx) (w : World) (a e : Int) (hn : n = bs.length) (hlen : n ≤ 1000) (hx : Boxes w w.heap.size A bs) (hb : ∀ b ∈ bs, OkB b) (hc : chk bs = (a, e)) (he : e ≠ 0) :
    Calls Try.prog 18 #[.slice A n c] w fun r w' => r = .returned (.pointer none) ∧ Below w.heap.size w w' := by
  have HX := Lib.hid hx
  have HN := Lib.hid hn
  have HB := Lib.hid hb
  have HC := Lib.hid hc
  clear hx hn hb hc
  have he' : (e == 0) = false := by simp [he]
  go_enter Try.func18, Try.ntmps18
  go_wp2_with fail
  refine (ofs_any A n c bs w HN.out (by omega) HX.out).mono ?_; rintro r w1 ⟨⟨A1, c1, rfl, h1⟩, k1⟩
  have K1 := Lib.hid k1
  have HM := Lib.hid h1
  clear k1 h1
  go_wp2_with fail
  refine (hT.no A1 n c1 bs w1 a e HN.out hlen HM.out.boxes HB.out HC.out he).mono ?_; rintro r w2 ⟨rfl, k2⟩
  have K2 := Lib.hid (thru K1.out k2)
  clear k2
  go_wp2_with fail
  go_ret
  exact ⟨rfl, K2.out⟩

end

end Go.Proofs.Ytnmfgcdenngpfaa.Tree
