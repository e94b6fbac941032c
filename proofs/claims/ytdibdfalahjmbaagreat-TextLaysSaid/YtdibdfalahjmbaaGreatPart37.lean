
import Derived.Test.YtdibdfalahjmbaaGreatPart36
import Derived.Test.YtdibdfalahjmbaaGreatPart35
namespace Go.Proofs.YtdibdfalahjmbaaGreat.Line

open Go.RowKit Go.Sort Go.Proofs.YtdibdfalahjmbaaGreat.Rect Go.Proofs.YtdibdfalahjmbaaGreat.More Go.Proofs.YtdibdfalahjmbaaGreat.Shelf Go.Proofs.YtdibdfalahjmbaaGreat.Space Go.Proofs.YtdibdfalahjmbaaGreat.Place

set_option linter.unusedVariables false

set_option linter.unusedSimpArgs false

structure RefIn (k : Nat) (w : World) (A : Option Addr) (n c : Nat) (A2 : Option Addr) (n2 c2 : Nat) (m : Mk) : Prop where
  i : MkIn w A n c A2 n2 c2 m
  e : A2 = none → c2 = 0
  d : Mid k m
  p : -281474976710656 ≤ m.top ∧ m.top ≤ 562949953421312 + k * 2147483648
  b : ∀ ad, A2 = some ad → ad.block < w.heap.size

theorem sizes_but {w w' : World} {B : Nat} {G : Nat → Prop} {A : Option Addr} {zs : List Sz} (h : Sizes w B A zs) (hB : B ≤ w.heap.size) (k : But G w w') (hg : ∀ ad, A = some ad → ¬ G ad.block) : Sizes w' w'.heap.size A zs := fun i f hi => by
  obtain ⟨ad, e, hb, c0, c1⟩ := h i f hi
  have hbl := k.block ad.block (by omega) (hg ad e)
  refine ⟨ad, e, Nat.lt_of_lt_of_le (by omega) k.size, ?_, ?_⟩
  · exact (World.cell?_of_block (a := ad.add (i * 2)) (by rw [block_of_add]; exact hbl)).trans c0
  · exact (World.cell?_of_block (a := ⟨(ad.add (i * 2)).block, (ad.add (i * 2)).off + 1, none⟩) (by show w'.heap[(ad.add (i * 2)).block]? = _; rw [block_of_add]; exact hbl)).trans c1

theorem RefIn.thru {k : Nat} {w w' : World} {A : Option Addr} {n c : Nat} {A2 : Option Addr} {n2 c2 : Nat} {m : Mk} (h : RefIn k w A n c A2 n2 c2 m) (b : Below w.heap.size w w') : RefIn k w' A n c A2 n2 c2 m := ⟨h.i.thru b, h.e, h.d, h.p, fun ad e => Nat.lt_of_lt_of_le (h.b ad e) b.size⟩

theorem RefIn.mono {k j : Nat} {w : World} {A : Option Addr} {n c : Nat} {A2 : Option Addr} {n2 c2 : Nat} {m : Mk} (h : RefIn k w A n c A2 n2 c2 m) (b : k ≤ j) : RefIn j w A n c A2 n2 c2 m := ⟨h.i, h.e, h.d.mono b, ⟨h.p.1, by have := h.p.2; omega⟩, h.b⟩

theorem Mid.tidy {k : Nat} {m : Mk} (h : Mid k m) (hk : k ≤ 100000) : Tidy m := by
  obtain ⟨h49, f1, f2, t1, t2, y1, y2, ha, hl, p1, p2⟩ := h
  exact ⟨h49, f1, f2, t1, t2, by omega, by omega⟩

theorem mineZ_some {w : World} {B : Nat} {A3 : Option Addr} {n3 c3 : Nat} {zs : List Sz} (h : MineZ w B A3 n3 c3 zs) (hn : 0 < n3) : (A3 = none → c3 = 0) ∧ (∀ ad, A3 = some ad → ad.block < w.heap.size) ∧ (∀ ad, A3 = some ad → B ≤ ad.block) := by
  obtain ⟨g, e, h1, h2, -, -⟩ := MineE.form h hn
  refine ⟨fun q => ?_, fun ad q => ?_, fun ad q => ?_⟩
  · rw [e] at q; cases q
  · rw [e] at q; injection q with q; rw [← q]; exact h2
  · rw [e] at q; injection q with q; rw [← q]; exact h1

theorem infoRL : InfoE encL 49 37 48 :=
  ⟨Tryz.underlying37, .agg #[.int .i64 0, .int .i64 0, .int .i64 0, .int .i64 0, .int .i64 0, .int .i64 0], rfl, by kernel_rfl⟩

theorem RefIn.fin {k : Nat} {w : World} {A : Option Addr} {n c : Nat} {A2 : Option Addr} {n2 c2 : Nat} {m : Mk} (h : RefIn k w A n c A2 n2 c2 m) (hne : m.az ≠ []) (hd : Mid (k + 1) m.fin) (hp : -281474976710656 ≤ m.fin.top ∧ m.fin.top ≤ 562949953421312 + ((k + 1 : Nat) : Int) * 2147483648) : RefIn (k + 1) w A n c none 0 0 m.fin := by
  have hk := h.d.hl
  have hlen := h.i.ht
  have htop : m.fin.top = m.top := by rw [fin_some hne]
  refine ⟨⟨by rw [fin_same]; exact h.i.hn, h.i.hlen, by rw [fin_same]; exact h.i.hx, by rw [fin_some hne]; rfl, by omega, by rw [fin_some hne]; exact sizes_none _ _, by rw [fin_some hne]; exact fun x hx => (by cases hx), by rw [htop]; exact hlen⟩, fun _ => rfl, hd, hp, fun ad e => (by cases e)⟩

end Go.Proofs.YtdibdfalahjmbaaGreat.Line
