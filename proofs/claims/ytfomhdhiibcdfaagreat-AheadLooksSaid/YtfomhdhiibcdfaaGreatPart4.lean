/- Lists of floats that are read; the contract of the document's bounds of a row. -/
import Derived.Test.YtfomhdhiibcdfaaGreatPart3
namespace Go.Proofs.YtfomhdhiibcdfaaGreat.Shelf
open Go.RowKit Go.Sort Go.Proofs.YtfomhdhiibcdfaaGreat.Rect

/-- A float that lies at an address. -/
def AtF (w : World) (p : Addr) (f : Fl) : Prop :=
  w.cell? p = some (.int .i64 f.s) ∧ w.cell? ⟨p.block, p.off + 1, none⟩ = some (.int .i64 f.l) ∧ w.cell? ⟨p.block, p.off + 2, none⟩ = some (.int .i64 f.t) ∧ w.cell? ⟨p.block, p.off + 3, none⟩ = some (.int .i64 f.r) ∧
  w.cell? ⟨p.block, p.off + 4, none⟩ = some (.int .i64 f.b)

theorem AtF.below {w w' : World} {B : Nat} {p : Addr} {f : Fl} (h : AtF w p f) (hp : p.block < B) (k : Below B w w') : AtF w' p f := by
  have e0 : w'.cell? p = w.cell? p := k.cell hp
  have e : ∀ o, w'.cell? ⟨p.block, o, none⟩ = w.cell? ⟨p.block, o, none⟩ := fun o => k.cell (p := ⟨p.block, o, none⟩) hp
  unfold AtF at *
  simp only [e, e0]
  exact h

/-- The floats of a slice, below block B. -/
def Floats (w : World) (B : Nat) (A : Option Addr) (fs : List Fl) : Prop :=
  ∀ k f, fs[k]? = some f → ∃ ad : Addr, A = some ad ∧ ad.block < B ∧ AtF w (ad.add (k * 5)) f

theorem Floats.below {w w' : World} {B : Nat} {A : Option Addr} {fs : List Fl} (h : Floats w B A fs) (k : Below B w w') : Floats w' B A fs := fun i f hi => by
  obtain ⟨ad, e, hb, hc⟩ := h i f hi
  exact ⟨ad, e, hb, hc.below (by rw [block_of_add]; exact hb) k⟩
theorem Floats.more {w : World} {B C : Nat} {A : Option Addr} {fs : List Fl} (h : Floats w B A fs) (hc : B ≤ C) : Floats w C A fs := fun i f hi => by
  obtain ⟨ad, e, hb, hx⟩ := h i f hi
  exact ⟨ad, e, by omega, hx⟩
theorem Floats.thru {w w' : World} {A : Option Addr} {fs : List Fl} (h : Floats w w.heap.size A fs) (k : Below w.heap.size w w') : Floats w' w'.heap.size A fs := (h.below k).more k.size

theorem bandL_take {fs : List Fl} {k : Nat} {f : Fl} (h : fs[k]? = some f) (a z : Int) : bandL (fs.take (k + 1)) a z = if hitF 1 a z f then max (bandL (fs.take k) a z) f.r else bandL (fs.take k) a z := by
  unfold bandL
  rw [List.take_add_one, h]
  simp [List.foldl_append]
theorem bandR_take {fs : List Fl} {k : Nat} {f : Fl} (h : fs[k]? = some f) (a z : Int) : bandR (fs.take (k + 1)) a z = if hitF 2 a z f then min (bandR (fs.take k) a z) f.l else bandR (fs.take k) a z := by
  unfold bandR
  rw [List.take_add_one, h]
  simp [List.foldl_append]

theorem hit_not {side y : Int} {f : Fl} (h : cntF f = false ∨ y < f.t ∨ f.b ≤ y ∨ f.s ≠ side) : ¬ hitF side y (y + 1) f = true := fun hh => by
  obtain ⟨c, s, h1, h2, -⟩ := hitF_iff.1 hh
  rcases h with h | h | h | h
  · rw [h] at c; cases c
  · omega
  · omega
  · exact h s
theorem hit_yes {side y : Int} {f : Fl} (hc : cntF f = true) (h1 : f.t ≤ y) (h2 : y < f.b) (hs : f.s = side) : hitF side y (y + 1) f = true := hitF_iff.2 ⟨hc, hs, by omega, h2, by omega⟩

end Go.Proofs.YtfomhdhiibcdfaaGreat.Shelf
