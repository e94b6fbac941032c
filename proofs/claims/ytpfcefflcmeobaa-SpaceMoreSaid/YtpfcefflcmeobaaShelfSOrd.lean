/- Lists of floats of one's own; what is appended of a list that came in. -/
import Derived.Test.YtpfcefflcmeobaaShelfSLays
import Derived.Test.YtpfcefflcmeobaaShelfSMath3
import Derived.Test.YtpfcefflcmeobaaShelfSOpen
namespace Go.Proofs.Ytpfcefflcmeobaa.Shelf
open Go.RowKit Go.Sort Go.Proofs.Ytpfcefflcmeobaa.Rect Go.Proofs.Ytpfcefflcmeobaa.More
set_option linter.unusedVariables false

def encF : Enc Fl := ⟨5, cellsFl, fun _ => rfl, fun x u h => by
  simp only [cellsFl, List.mem_cons, List.not_mem_nil, or_false] at h
  rcases h with h | h | h | h | h <;> (subst h; rfl), by omega⟩

theorem infoF : InfoE encF 45 22 40 :=
  ⟨Try.underlying22, .agg #[.int .i64 0, .int .i64 0, .int .i64 0, .int .i64 0, .int .i64 0], rfl, by kernel_rfl⟩

theorem step_append_E {α : Type} {E : Enc α} {T TS : TypeId} {bytes : Nat} (hb2 : bytes ≤ 10000) (hT : InfoE E T TS bytes) (w : World) {ops : Array Oper} {o : Oper} {a : Act} {K : Act → World → Prop} {Q : Exit → Act → World → Prop} {F : Prop} (hgd : o.guard = none) (s x : Operand)
    (ho : o.op = .call { callee := .builtin .append, args := #[s, x], argTypes := #[TS, TS] })
    (B : Nat) (A : Option Addr) (n c : Nat) (xs : List α) (hs : a.eval s = .slice A n c) (hown : MineE E T w B A n c xs) (A2 : Option Addr) (m c2 : Nat) (ys : List α) (hx : a.eval x = .slice A2 m c2) (hsrc : SrcE E w A2 m c2 ys)
    (hlen : n + m ≤ 1000000) (hB : B ≤ w.heap.size)
    (h : ∀ A' c' w', AppendedE E T w B A n xs ys m A' c' w' → K (a.put o.dst (.slice A' (n + m) c')) w') :
    if Region.wanted o (yielded ops a.tmps) = true then Oper.wp Try.prog o a w K Q else F := by
  have hw : Region.wanted o (yielded ops a.tmps) = true := by simp [Region.wanted, hgd]
  rw [if_pos hw]
  obtain ⟨A', c', w', hr, h2⟩ := run_append_E E hb2 hT o.type w B A n c xs hown A2 m c2 ys hsrc hlen hB
  unfold Oper.wp execOp
  simp only [ho, resolve, invoke, builtin, Sem.run_bind, Sem.run_pure, Result.andThen_ok, List.map_toArray, List.map_cons, List.map_nil, hs, hx, hr]
  exact h A' c' w' h2

theorem floats_cell {w : World} {B : Nat} {ad : Addr} {fs : List Fl} (h : Floats w B (some ad) fs) (j : Nat) (u : Value) (hu : (fs.flatMap encF.cells)[j]? = some u) : w.cell? (ad.add j) = some u := by
  have hlt := (List.getElem?_eq_some_iff.1 hu).1
  rw [encF.flat_len] at hlt
  have h5 : encF.size = 5 := rfl
  rw [h5] at hlt
  obtain ⟨f, hf⟩ : ∃ f, fs[j / 5]? = some f := ⟨_, List.getElem?_eq_getElem (by omega)⟩
  have hr : j % 5 < 5 := Nat.mod_lt _ (by omega)
  have h1 := encF.flat_at fs (j / 5) f hf (j % 5) hr
  rw [h5, Nat.mul_comm, Nat.div_add_mod, hu] at h1
  obtain ⟨ad', e, hb, c0, c1, c2, c3, c4⟩ := h (j / 5) f hf
  injection e with e
  subst e
  have hj : j = j / 5 * 5 + j % 5 := by omega
  generalize j / 5 = q at *
  generalize j % 5 = r at *
  subst hj
  have hadd : ∀ i, 0 < i → ad.add (q * 5 + i) = ⟨(ad.add (q * 5)).block, (ad.add (q * 5)).off + i, none⟩ := fun i hi => by
    rw [← Addr.add_add]
    obtain ⟨i', rfl⟩ : ∃ i', i = i' + 1 := ⟨i - 1, by omega⟩
    simp [Addr.add]
  match r, hr with
  | 0, _ => rw [Nat.add_zero, c0]; exact h1.symm
  | 1, _ => rw [hadd 1 (by omega), c1]; exact h1.symm
  | 2, _ => rw [hadd 2 (by omega), c2]; exact h1.symm
  | 3, _ => rw [hadd 3 (by omega), c3]; exact h1.symm
  | 4, _ => rw [hadd 4 (by omega), c4]; exact h1.symm

theorem src_front {w : World} {B : Nat} {ad : Addr} {fs : List Fl} {n c k : Nat} (h : Floats w B (some ad) fs) (hn : n = fs.length) (hk : k ≤ n) : SrcE encF w (some ad) k c (fs.take k) := by
  refine ⟨by rw [List.length_take]; omega, fun e => (by cases e), fun j u hu => ⟨ad, rfl, floats_cell h j u ?_⟩⟩
  have e : (fs.flatMap encF.cells) = (fs.take k).flatMap encF.cells ++ (fs.drop k).flatMap encF.cells := by rw [← List.flatMap_append, List.take_append_drop]
  rw [e, List.getElem?_append_left (List.getElem?_eq_some_iff.1 hu).1]
  exact hu

theorem src_back {w : World} {B : Nat} {ad : Addr} {fs : List Fl} {n c k : Nat} (h : Floats w B (some ad) fs) (hn : n = fs.length) (hk : k ≤ n) (hc : n ≤ c) {A1 : Addr} (hA1 : (if c = k then ad else ad.add (k * 5)) = A1) : SrcE encF w (some A1) (n - k) (c - k) (fs.drop k) := by
  refine ⟨by rw [List.length_drop]; omega, fun e => (by cases e), fun j u hu => ⟨A1, rfl, ?_⟩⟩
  have hlt := (List.getElem?_eq_some_iff.1 hu).1
  rw [encF.flat_len, List.length_drop] at hlt
  have h5 : encF.size = 5 := rfl
  rw [h5] at hlt
  rw [← hA1, if_neg (by omega), Addr.add_add]
  refine floats_cell h _ u ?_
  have e : (fs.flatMap encF.cells) = (fs.take k).flatMap encF.cells ++ (fs.drop k).flatMap encF.cells := by rw [← List.flatMap_append, List.take_append_drop]
  have hl : ((fs.take k).flatMap encF.cells).length = k * 5 := by rw [encF.flat_len, List.length_take, Nat.min_eq_left (by omega)]; rfl
  rw [e, List.getElem?_append_right (by omega), hl, Nat.add_sub_cancel_left]
  exact hu

theorem floats_mine {w : World} {B : Nat} {A : Option Addr} {n c : Nat} {fs : List Fl} (h : MineE encF 45 w B A n c fs) : Floats w w.heap.size A fs := fun k f hk => by
  have hn : 0 < n := by have := MineE.len h; have := (List.getElem?_eq_some_iff.1 hk).1; omega
  obtain ⟨g, rfl, -, hg, -, -⟩ := MineE.form h hn
  refine ⟨_, rfl, hg, atF_of fun j v hv => ?_⟩
  have hj : j < 5 := (List.getElem?_eq_some_iff.1 hv).1
  rw [Addr.add_add, Addr.add_lit, Nat.zero_add]
  exact (MineE.at h k f hk j hj).trans hv

theorem floats_take {w : World} {B : Nat} {A : Option Addr} {fs : List Fl} (h : Floats w B A fs) (k : Nat) : Floats w B A (fs.take k) := fun i f hi => by
  rw [List.getElem?_take] at hi
  split at hi
  · exact h i f hi
  · cases hi

end Go.Proofs.Ytpfcefflcmeobaa.Shelf
