/- All lines of atoms, as the document makes them. -/
import Derived.Test.YtmgokpdeolnidaaPart29
import Derived.Test.YtmgokpdeolnidaaPart33
namespace Go.Proofs.Ytmgokpdeolnidaa.Line
open Go.RowKit Go.Sort Go.Proofs.Ytmgokpdeolnidaa.Rect Go.Proofs.Ytmgokpdeolnidaa.More Go.Proofs.Ytmgokpdeolnidaa.Shelf Go.Proofs.Ytmgokpdeolnidaa.Space Go.Proofs.Ytmgokpdeolnidaa.Place
set_option linter.unusedVariables false
set_option linter.unusedSimpArgs false

/-- A maker in memory after so many steps. -/
structure RefIn (k : Nat) (w : World) (A : Option Addr) (n c : Nat) (A2 : Option Addr) (n2 c2 : Nat) (m : Mk) : Prop where
  i : MkIn w A n c A2 n2 c2 m
  e : A2 = none → c2 = 0
  d : Mid k m
  p : -281474976710656 ≤ m.top ∧ m.top ≤ 562949953421312 + k * 2147483648
  b : ∀ ad, A2 = some ad → ad.block < w.heap.size

theorem sizes_but {w w' : World} {B : Nat} {G : Nat → Prop} {A : Option Addr} {zs : List Sz} (h : Sizes w B A zs) (hB : B ≤ w.heap.size) (k : But G w w') (hg : ∀ ad, A = some ad → ¬ G ad.block) : Sizes w' w'.heap.size A zs := fun i f hi => by
  obtain ⟨ad, e, hb, c0, c1⟩ := h i f hi
  have hbl := k.block ad.block (by omega) (hg ad e)
  refine ⟨ad, e, Nat.lt_of_lt_of_le (by omega) k.size, ?_, ?_⟩
  · exact (World.cell?_of_block (a := ad.add (i * 2)) (by rw [block_of_add]; exact hbl)).trans c0
  · exact (World.cell?_of_block (a := ⟨(ad.add (i * 2)).block, (ad.add (i * 2)).off + 1, none⟩) (by show w'.heap[(ad.add (i * 2)).block]? = _; rw [block_of_add]; exact hbl)).trans c1

theorem RefIn.six {k : Nat} {G : Nat → Prop} {wr w5 w6 : World} {A : Option Addr} {n c : Nat} {A3 : Option Addr} {n3 c3 : Nat} {m : Mk} (h : RefIn k w5 A n c A3 n3 c3 m) (hx : Floats wr wr.heap.size A m.fs) (kb : Below wr.heap.size wr w6) (k6 : But G w5 w6) (hne : ∀ ad, A3 = some ad → ¬ G ad.block) : RefIn k w6 A n c A3 n3 c3 m :=
  ⟨⟨h.i.hn, h.i.hlen, hx.thru kb, h.i.hn2, h.i.hlen2, sizes_but h.i.hx2 (Nat.le_refl _) k6 hne, h.i.ha, h.i.ht⟩, h.e, h.d, h.p, fun ad e => Nat.lt_of_lt_of_le (h.b ad e) k6.size⟩

theorem RefIn.thru {k : Nat} {w w' : World} {A : Option Addr} {n c : Nat} {A2 : Option Addr} {n2 c2 : Nat} {m : Mk} (h : RefIn k w A n c A2 n2 c2 m) (b : Below w.heap.size w w') : RefIn k w' A n c A2 n2 c2 m := ⟨h.i.thru b, h.e, h.d, h.p, fun ad e => Nat.lt_of_lt_of_le (h.b ad e) b.size⟩
theorem RefIn.mono {k j : Nat} {w : World} {A : Option Addr} {n c : Nat} {A2 : Option Addr} {n2 c2 : Nat} {m : Mk} (h : RefIn k w A n c A2 n2 c2 m) (b : k ≤ j) : RefIn j w A n c A2 n2 c2 m := ⟨h.i, h.e, h.d.mono b, ⟨h.p.1, by have := h.p.2; omega⟩, h.b⟩

theorem Mid.tidy {k : Nat} {m : Mk} (h : Mid k m) (hk : k ≤ 100000) : Tidy m := by
  obtain ⟨h49, f1, f2, t1, t2, y1, y2, ha, hl, p1, p2⟩ := h
  exact ⟨h49, f1, f2, t1, t2, by omega, by omega⟩

theorem more_same (m : Mk) (z : Sz) : (m.more z).fs = m.fs := rfl

/-- What an atom more leaves. -/
def AddOut (k : Nat) (A : Option Addr) (n c : Nat) (A2 : Option Addr) (m : Mk) (z : Sz) (w w' : World) (e : Ending) : Prop :=
  ∃ A3 n3 c3, e = .returned (.tuple #[Mv A n c A3 n3 c3 (m.add z).1, .bool (m.add z).2]) ∧ RefIn (k + 1) w' A n c A3 n3 c3 (m.add z).1 ∧ (∀ ad, A3 = some ad → w.heap.size ≤ ad.block ∨ A3 = A2)

theorem mineZ_some {w : World} {B : Nat} {A3 : Option Addr} {n3 c3 : Nat} {zs : List Sz} (h : MineZ w B A3 n3 c3 zs) (hn : 0 < n3) : (A3 = none → c3 = 0) ∧ (∀ ad, A3 = some ad → ad.block < w.heap.size) ∧ (∀ ad, A3 = some ad → B ≤ ad.block) := by
  obtain ⟨g, e, h1, h2, -, -⟩ := MineE.form h hn
  refine ⟨fun q => ?_, fun ad q => ?_, fun ad q => ?_⟩
  · rw [e] at q; cases q
  · rw [e] at q; injection q with q; rw [← q]; exact h2
  · rw [e] at q; injection q with q; rw [← q]; exact h1

theorem refadd_any (k : Nat) (A : Option Addr) (n c : Nat) (A2 : Option Addr) (n2 c2 : Nat) (m : Mk) (z : Sz) (w : World) (h : RefIn k w A n c A2 n2 c2 m) (hz : RightS z) (hk : k ≤ 90000) :
    Calls Try.prog 32 #[Mv A n c A2 n2 c2 m, .agg #[.int .i64 z.wd, .int .i64 z.ht]] w fun e w' => AddOut k A n c A2 m z w w' e ∧ Below w.heap.size w w' := by
  have hn2 : n2 ≤ 100000 := by rw [h.i.hn2]; have := h.d.hl; omega
  have hti := h.d.tidy (by omega)
  have hp := h.p
  have hd := h.d.add hz
  by_cases hm : m.az = []
  · rw [add_nil hm] at hd
    refine (refadd_begin A n c A2 n2 c2 m z w h.i h.e hz hn2 hti hm).mono ?_
    rintro e w' ⟨⟨A3, c3, rfl, B0, hB, hs⟩, kb⟩
    unfold AddOut
    rw [add_nil hm]
    have p1 := hd.p1 (by show [z] ≠ []; simp)
    have p2 := hd.p2 (by show [z] ≠ []; simp)
    obtain ⟨q1, q2, q3⟩ := mineZ_some hs (by omega)
    exact ⟨⟨A3, 1, c3, rfl, ⟨⟨h.i.hn, h.i.hlen, h.i.hx.thru kb, rfl, by omega, sizes_mine hs, hd.ha, by omega⟩, q1, hd, ⟨p1, p2⟩, q2⟩, fun ad e => .inl (Nat.le_trans hB (q3 ad e))⟩, kb⟩
  · cases hf : m.fits z with
    | true =>
      rw [add_fits hm hf] at hd
      refine (refadd_fits A n c A2 n2 c2 m z w h.i h.e hz hn2 hti hm h.i.ht hf).mono ?_
      rintro e w' ⟨⟨A3, c3, rfl, B0, hB, hs⟩, kb⟩
      unfold AddOut
      rw [add_fits hm hf]
      have p1 := hd.p1 (more_ne m z)
      have p2 := hd.p2 (more_ne m z)
      obtain ⟨q1, q2, q3⟩ := mineZ_some hs (by omega)
      exact ⟨⟨A3, n2 + 1, c3, rfl, ⟨⟨h.i.hn, h.i.hlen, h.i.hx.thru kb, by show n2 + 1 = (m.az ++ [z]).length; rw [List.length_append, h.i.hn2]; rfl, by omega, sizes_mine hs, hd.ha, h.i.ht⟩, q1, hd, ⟨p1, p2⟩, q2⟩, fun ad e => .inl (Nat.le_trans hB (q3 ad e))⟩, kb⟩
    | false =>
      rw [add_not hm hf] at hd
      refine (refadd_not A n c A2 n2 c2 m z w h.i h.e hz hn2 hti hm h.i.ht hf).mono ?_
      rintro e w' ⟨rfl, kb⟩
      unfold AddOut
      rw [add_not hm hf]
      have h2 := (h.thru kb).mono (Nat.le_succ k)
      exact ⟨⟨A2, n2, c2, rfl, h2, fun ad e => .inr rfl⟩, kb⟩

/-- Lists of the document's lines. -/
theorem infoRL : InfoE encL 47 34 48 :=
  ⟨Try.underlying34, .agg #[.int .i64 0, .int .i64 0, .int .i64 0, .int .i64 0, .int .i64 0, .int .i64 0], rfl, by kernel_rfl⟩

theorem bd0 (w : World) : Below w.heap.size w w.drew := ⟨rfl, rfl, rfl, Nat.le_refl _, fun _ _ => rfl⟩
theorem bd1 (w : World) (o : Obj) : Below w.heap.size w (w.alloc o).drew := thru (ba1 w o) (bd0 (w.alloc o))
theorem bd1_mb (w : World) (w5 : World) (k : Below (w.alloc (.cells #[.slice none 0 0, .int .i64 0, .int .i64 0, .int .i64 0, .int .i64 0, .slice none 0 0] 37)).drew.heap.size (w.alloc (.cells #[.slice none 0 0, .int .i64 0, .int .i64 0, .int .i64 0, .int .i64 0, .slice none 0 0] 37)).drew w5) : Mb w5 w.heap.size none 0 0 none 0 0 zeroM := by
  refine (k.block w.heap.size ?_).trans (heap_alloc_new w _)
  show w.heap.size < (w.alloc _).heap.size
  simp
theorem mb_six {w : World} {b : Nat} {A A2 : Option Addr} {n c n2 c2 : Nat} {m0 : Mk} {B B2 : Option Addr} {l d l2 d2 : Nat} {m : Mk} (h : Mb w b B l d B2 l2 d2 m0) :
    Mb ((((((w.setCell ⟨b, 0, none⟩ (.slice A n c)).setCell ⟨b, 1, none⟩ (.int .i64 m.f)).setCell ⟨b, 2, none⟩ (.int .i64 m.t)).setCell ⟨b, 3, none⟩ (.int .i64 m.y)).setCell ⟨b, 4, none⟩ (.int .i64 m.top)).setCell ⟨b, 5, none⟩ (.slice A2 n2 c2)) b A n c A2 n2 c2 m := by
  unfold Mb at *
  simp [World.setCell, Array.getElem?_modify, h]

theorem and_more {a b c d e : Prop} (h : a ∧ b ∧ c ∧ d) (k : e) : a ∧ b ∧ c ∧ d ∧ e := ⟨h.1, h.2.1, h.2.2.1, h.2.2.2, k⟩
theorem six_out {j : Nat} {wr w5 : World} {A : Option Addr} {n c : Nat} {A3 : Option Addr} {n3 c3 : Nat} {m : Mk} {z : Sz} (hx : Floats wr wr.heap.size A m.fs) (k5 : Below wr.heap.size wr w5) (h : RefIn j w5 A n c A3 n3 c3 (m.add z).1) (hz : Mb w5 wr.heap.size none 0 0 none 0 0 zeroM) (hne : ∀ ad, A3 = some ad → ad.block ≠ wr.heap.size) :
    Below wr.heap.size wr ((((((w5.setCell ⟨wr.heap.size, 0, none⟩ (.slice A n c)).setCell ⟨wr.heap.size, 1, none⟩ (.int .i64 (m.add z).1.f)).setCell ⟨wr.heap.size, 2, none⟩ (.int .i64 (m.add z).1.t)).setCell ⟨wr.heap.size, 3, none⟩ (.int .i64 (m.add z).1.y)).setCell ⟨wr.heap.size, 4, none⟩ (.int .i64 (m.add z).1.top)).setCell ⟨wr.heap.size, 5, none⟩ (.slice A3 n3 c3)) ∧
    Mb ((((((w5.setCell ⟨wr.heap.size, 0, none⟩ (.slice A n c)).setCell ⟨wr.heap.size, 1, none⟩ (.int .i64 (m.add z).1.f)).setCell ⟨wr.heap.size, 2, none⟩ (.int .i64 (m.add z).1.t)).setCell ⟨wr.heap.size, 3, none⟩ (.int .i64 (m.add z).1.y)).setCell ⟨wr.heap.size, 4, none⟩ (.int .i64 (m.add z).1.top)).setCell ⟨wr.heap.size, 5, none⟩ (.slice A3 n3 c3)) wr.heap.size A n c A3 n3 c3 (m.add z).1 ∧
    RefIn j ((((((w5.setCell ⟨wr.heap.size, 0, none⟩ (.slice A n c)).setCell ⟨wr.heap.size, 1, none⟩ (.int .i64 (m.add z).1.f)).setCell ⟨wr.heap.size, 2, none⟩ (.int .i64 (m.add z).1.t)).setCell ⟨wr.heap.size, 3, none⟩ (.int .i64 (m.add z).1.y)).setCell ⟨wr.heap.size, 4, none⟩ (.int .i64 (m.add z).1.top)).setCell ⟨wr.heap.size, 5, none⟩ (.slice A3 n3 c3)) A n c A3 n3 c3 (m.add z).1 ∧ wr.heap.size ≤ wr.heap.size := by
  have k6 := but_six (b := wr.heap.size) (But.of_below (S := fun k => k = wr.heap.size) (Below.refl w5.heap.size w5)) 0 1 2 3 4 5 (.slice A n c) (.int .i64 (m.add z).1.f) (.int .i64 (m.add z).1.t) (.int .i64 (m.add z).1.y) (.int .i64 (m.add z).1.top) (.slice A3 n3 c3)
  have kb : Below wr.heap.size wr _ := k5.trans (k6.below k5.size (fun k e => by omega))
  exact ⟨kb, mb_six hz, h.six (by rw [add_same]; exact hx) kb k6 hne, Nat.le_refl _⟩

/-- What stands while the document's lines are made. -/
structure Listing (w : World) (b0 B : Nat) (k : Nat) (A : Option Addr) (n c : Nat) (fs : List Fl) (m : Mk) (A5 : Option Addr) (c5 : Nat) (xs : List Mk) (wr : World) : Prop where
  mm : ∃ A2 n2 c2, Mb wr b0 A n c A2 n2 c2 m ∧ RefIn k wr A n c A2 n2 c2 m ∧ ∀ ad, A2 = some ad → B ≤ ad.block ∧ blk A5 ≠ some ad.block
  f : m.fs = fs
  l : MineE encL 47 wr B A5 xs.length c5 (xs.map lnOf)
  k : Below w.heap.size w wr
  z : B ≤ wr.heap.size

theorem list_six {w wx : World} {b0 B j : Nat} {A : Option Addr} {n c : Nat} {A3 : Option Addr} {n3 c3 : Nat} {m : Mk} {C C2 : Option Addr} {l d l2 d2 : Nat} {mo : Mk} {A5 : Option Addr} {l5 c5 : Nat} {ys : List Ln} (hl : MineE encL 47 wx B A5 l5 c5 ys) (hb : Mb wx b0 C l d C2 l2 d2 mo) (h : RefIn j wx A n c A3 n3 c3 m) (hx : Floats w w.heap.size A m.fs) (hk : Below w.heap.size w wx) (h0 : w.heap.size ≤ b0) (h1 : b0 < B) (h3 : ∀ ad, A3 = some ad → B ≤ ad.block) :
    Below w.heap.size w ((((((wx.setCell ⟨b0, 0, none⟩ (.slice A n c)).setCell ⟨b0, 1, none⟩ (.int .i64 m.f)).setCell ⟨b0, 2, none⟩ (.int .i64 m.t)).setCell ⟨b0, 3, none⟩ (.int .i64 m.y)).setCell ⟨b0, 4, none⟩ (.int .i64 m.top)).setCell ⟨b0, 5, none⟩ (.slice A3 n3 c3)) ∧
    Mb ((((((wx.setCell ⟨b0, 0, none⟩ (.slice A n c)).setCell ⟨b0, 1, none⟩ (.int .i64 m.f)).setCell ⟨b0, 2, none⟩ (.int .i64 m.t)).setCell ⟨b0, 3, none⟩ (.int .i64 m.y)).setCell ⟨b0, 4, none⟩ (.int .i64 m.top)).setCell ⟨b0, 5, none⟩ (.slice A3 n3 c3)) b0 A n c A3 n3 c3 m ∧
    RefIn j ((((((wx.setCell ⟨b0, 0, none⟩ (.slice A n c)).setCell ⟨b0, 1, none⟩ (.int .i64 m.f)).setCell ⟨b0, 2, none⟩ (.int .i64 m.t)).setCell ⟨b0, 3, none⟩ (.int .i64 m.y)).setCell ⟨b0, 4, none⟩ (.int .i64 m.top)).setCell ⟨b0, 5, none⟩ (.slice A3 n3 c3)) A n c A3 n3 c3 m ∧
    MineE encL 47 ((((((wx.setCell ⟨b0, 0, none⟩ (.slice A n c)).setCell ⟨b0, 1, none⟩ (.int .i64 m.f)).setCell ⟨b0, 2, none⟩ (.int .i64 m.t)).setCell ⟨b0, 3, none⟩ (.int .i64 m.y)).setCell ⟨b0, 4, none⟩ (.int .i64 m.top)).setCell ⟨b0, 5, none⟩ (.slice A3 n3 c3)) B A5 l5 c5 ys ∧
    But (fun k => k = b0) wx ((((((wx.setCell ⟨b0, 0, none⟩ (.slice A n c)).setCell ⟨b0, 1, none⟩ (.int .i64 m.f)).setCell ⟨b0, 2, none⟩ (.int .i64 m.t)).setCell ⟨b0, 3, none⟩ (.int .i64 m.y)).setCell ⟨b0, 4, none⟩ (.int .i64 m.top)).setCell ⟨b0, 5, none⟩ (.slice A3 n3 c3)) := by
  have k6 := but_six (b := b0) (But.of_below (S := fun k => k = b0) (Below.refl wx.heap.size wx)) 0 1 2 3 4 5 (.slice A n c) (.int .i64 m.f) (.int .i64 m.t) (.int .i64 m.y) (.int .i64 m.top) (.slice A3 n3 c3)
  have kb : Below w.heap.size w _ := hk.trans (k6.below hk.size (fun k e => by omega))
  exact ⟨kb, mb_six hb, h.six hx kb k6 (fun ad e => by have := h3 ad e; omega), mineE_but hl k6 (fun j e e2 => by have := (hl.lt j e).1; omega), k6⟩

theorem list_six4 {w wx : World} {b0 b4 B j : Nat} {A : Option Addr} {n c : Nat} {A3 : Option Addr} {n3 c3 : Nat} {m : Mk} {C C2 : Option Addr} {l d l2 d2 : Nat} {mo : Mk} {D D2 : Option Addr} {r e r2 e2 : Nat} {mp : Mk} {A5 : Option Addr} {l5 c5 : Nat} {ys : List Ln} (hl : MineE encL 47 wx B A5 l5 c5 ys) (hb : Mb wx b4 C l d C2 l2 d2 mo) (hb0 : Mb wx b0 D r e D2 r2 e2 mp) (h : RefIn j wx A n c A3 n3 c3 m) (hx : Floats w w.heap.size A m.fs) (hk : Below w.heap.size w wx) (h0 : w.heap.size ≤ b4) (h1 : b0 ≠ b4) (h5 : blk A5 ≠ some b4) (h3 : ∀ ad, A3 = some ad → ad.block ≠ b4) :
    Below w.heap.size w (((((((wx).setCell ⟨b4, 0, none⟩ (.slice A n c)).setCell ⟨b4, 1, none⟩ (.int .i64 m.f)).setCell ⟨b4, 2, none⟩ (.int .i64 m.t)).setCell ⟨b4, 3, none⟩ (.int .i64 m.y)).setCell ⟨b4, 4, none⟩ (.int .i64 m.top)).setCell ⟨b4, 5, none⟩ (.slice A3 n3 c3)) ∧ Mb (((((((wx).setCell ⟨b4, 0, none⟩ (.slice A n c)).setCell ⟨b4, 1, none⟩ (.int .i64 m.f)).setCell ⟨b4, 2, none⟩ (.int .i64 m.t)).setCell ⟨b4, 3, none⟩ (.int .i64 m.y)).setCell ⟨b4, 4, none⟩ (.int .i64 m.top)).setCell ⟨b4, 5, none⟩ (.slice A3 n3 c3)) b4 A n c A3 n3 c3 m ∧ RefIn j (((((((wx).setCell ⟨b4, 0, none⟩ (.slice A n c)).setCell ⟨b4, 1, none⟩ (.int .i64 m.f)).setCell ⟨b4, 2, none⟩ (.int .i64 m.t)).setCell ⟨b4, 3, none⟩ (.int .i64 m.y)).setCell ⟨b4, 4, none⟩ (.int .i64 m.top)).setCell ⟨b4, 5, none⟩ (.slice A3 n3 c3)) A n c A3 n3 c3 m ∧ Mb (((((((wx).setCell ⟨b4, 0, none⟩ (.slice A n c)).setCell ⟨b4, 1, none⟩ (.int .i64 m.f)).setCell ⟨b4, 2, none⟩ (.int .i64 m.t)).setCell ⟨b4, 3, none⟩ (.int .i64 m.y)).setCell ⟨b4, 4, none⟩ (.int .i64 m.top)).setCell ⟨b4, 5, none⟩ (.slice A3 n3 c3)) b0 D r e D2 r2 e2 mp ∧ MineE encL 47 (((((((wx).setCell ⟨b4, 0, none⟩ (.slice A n c)).setCell ⟨b4, 1, none⟩ (.int .i64 m.f)).setCell ⟨b4, 2, none⟩ (.int .i64 m.t)).setCell ⟨b4, 3, none⟩ (.int .i64 m.y)).setCell ⟨b4, 4, none⟩ (.int .i64 m.top)).setCell ⟨b4, 5, none⟩ (.slice A3 n3 c3)) B A5 l5 c5 ys ∧ But (fun k => k = b4) wx (((((((wx).setCell ⟨b4, 0, none⟩ (.slice A n c)).setCell ⟨b4, 1, none⟩ (.int .i64 m.f)).setCell ⟨b4, 2, none⟩ (.int .i64 m.t)).setCell ⟨b4, 3, none⟩ (.int .i64 m.y)).setCell ⟨b4, 4, none⟩ (.int .i64 m.top)).setCell ⟨b4, 5, none⟩ (.slice A3 n3 c3)) := by
  have k6 := but_six (b := b4) (But.of_below (S := fun k => k = b4) (Below.refl wx.heap.size wx)) 0 1 2 3 4 5 (.slice A n c) (.int .i64 m.f) (.int .i64 m.t) (.int .i64 m.y) (.int .i64 m.top) (.slice A3 n3 c3)
  have kb : Below w.heap.size w _ := hk.trans (k6.below hk.size (fun k e => by omega))
  exact ⟨kb, mb_six hb, h.six hx kb k6 (fun ad e => h3 ad e), (k6.block b0 hb0.lt h1).trans hb0, mineE_but hl k6 (fun j e e2 => h5 (by rw [e]; exact congrArg some e2)), k6⟩

theorem RefIn.fin {k : Nat} {w : World} {A : Option Addr} {n c : Nat} {A2 : Option Addr} {n2 c2 : Nat} {m : Mk} (h : RefIn k w A n c A2 n2 c2 m) (hne : m.az ≠ []) (hd : Mid (k + 1) m.fin) (hp : -281474976710656 ≤ m.fin.top ∧ m.fin.top ≤ 562949953421312 + ((k + 1 : Nat) : Int) * 2147483648) : RefIn (k + 1) w A n c none 0 0 m.fin := by
  have hk := h.d.hl
  have hlen := h.i.ht
  have htop : m.fin.top = m.top := by rw [fin_some hne]
  refine ⟨⟨by rw [fin_same]; exact h.i.hn, h.i.hlen, by rw [fin_same]; exact h.i.hx, by rw [fin_some hne]; rfl, by omega, by rw [fin_some hne]; exact sizes_none _ _, by rw [fin_some hne]; exact fun x hx => (by cases hx), by rw [htop]; exact hlen⟩, fun _ => rfl, hd, hp, fun ad e => (by cases e)⟩

set_option maxRecDepth 100000 in
set_option maxHeartbeats 4000000 in
theorem refall_any (A : Option Addr) (n c : Nat) (m0 : Mk) (AZ : Option Addr) (nz cz : Nat) (zs : List Sz) (w : World) (h : RefIn 0 w A n c none 0 0 m0) (hn : nz = zs.length) (hlen : nz ≤ 40000) (hx : Sizes w w.heap.size AZ zs) (hr : ∀ z ∈ zs, RightS z) :
    Calls Try.prog 13 #[Mv A n c none 0 0 m0, .slice AZ nz cz] w fun e w' => (∃ A' c', e = .returned (.slice A' (segsL m0 zs).length c') ∧ MineE encL 47 w' w.heap.size A' (segsL m0 zs).length c' ((segsL m0 zs).map lnOf)) ∧ Below w.heap.size w w' := by
  have HI := Lib.hid h
  have HX := Lib.hid hx
  have HR := Lib.hid hr
  have HN := Lib.hid (⟨hn, hlen⟩ : nz = zs.length ∧ nz ≤ 40000)
  generalize hsg : segsL m0 zs = sg
  have HSG := Lib.hid hsg
  clear h hx hr hn hlen hsg
  go_enter Try.func13, Try.ntmps13
  go_upto_region 1 with fail
  generalize hW1 : World.alloc w _ = W1
  obtain ⟨b0, hb0⟩ : ∃ b0, w.heap.size = b0 := ⟨_, rfl⟩
  have k1 : Below w.heap.size w W1 := by rw [← hW1]; exact ba1 _ _
  have s1 : W1.heap.size = b0 + 1 := by rw [← hW1, ← hb0]; simp
  have a1 : Mb W1 b0 A n c none 0 0 m0 := by rw [← hW1, ← hb0]; exact heap_alloc_new w _
  rw [hb0]
  clear hW1
  go_upto_region 2 with fail
  generalize hW2 : World.alloc W1 _ = W2
  have k2 : Below W1.heap.size W1 W2 := by rw [← hW2]; exact ba1 _ _
  obtain ⟨B, hB⟩ : ∃ B, b0 + 1 = B := ⟨_, rfl⟩
  rw [hB] at s1
  have a2 : MineE encL 47 W2 B (some ⟨B, 0, none⟩) 0 0 [] := by
    have := emptyE_mine encL 47 W1 B (by omega)
    rw [s1, hW2] at this
    exact this
  have s2 : W2.heap.size = B + 1 := by rw [← hW2, ← s1]; simp
  first | rw [s1] | rw [hB]
  have HL := Lib.hid (Listing.mk (w := w) (fs := m0.fs) (xs := []) ⟨none, 0, 0, a1.below k2, HI.out.thru (thru k1 k2), fun ad e => by cases e⟩ rfl a2 (thru k1 k2) (by omega) : Listing w b0 B 0 A n c m0.fs m0 (some ⟨B, 0, none⟩) 0 [] W2)
  have HB := Lib.hid (⟨by omega, by omega⟩ : w.heap.size ≤ b0 ∧ b0 < B)
  clear hW2 hB hb0 k1 k2 s1 s2 a1 a2
  go_wp2_with fail
  go_loopw [5, 6] (fun u i wr => ∃ k : Nat, k ≤ nz ∧ i = .int .i64 (k : Int) ∧ ∃ A5 c5 l5, u = .slice A5 l5 c5 ∧ Hid (∃ m xs, l5 = xs.length ∧ Listing w b0 B (2 * k) A n c m0.fs m A5 c5 xs wr ∧ xs.length ≤ k ∧ xs ++ segsL m (zs.drop k) = sg)) (fun _ i _ => nz - (intOf i).toNat)
  case atStart => exact ⟨0, Nat.zero_le _, rfl, _, _, 0, rfl, Lib.hid ⟨m0, [], rfl, HL.out, Nat.zero_le _, HSG.out⟩⟩
  case round =>
    obtain ⟨k, hk, rfl, A5, c5, l5, rfl, H0⟩ := hrel
    obtain ⟨m, xs, hl5, hli, hxl, hseg⟩ := H0.out
    subst hl5
    obtain ⟨A2, n2, c2, hmb, hri, hbb⟩ := hli.mm
    have H := Lib.hid (⟨hli, hxl, hseg⟩ : Listing w b0 B (2 * k) A n c m0.fs m A5 c5 xs wr ∧ xs.length ≤ k ∧ xs ++ segsL m (zs.drop k) = sg)
    have HM := Lib.hid (⟨hmb, hri, hbb⟩ : Mb wr b0 A n c A2 n2 c2 m ∧ RefIn (2 * k) wr A n c A2 n2 c2 m ∧ ∀ ad, A2 = some ad → B ≤ ad.block ∧ blk A5 ≠ some ad.block)
    clear H0 hli hxl hseg hmb hri hbb HL HSG
    by_cases hlt : k < nz
    · have hki : (k : Int) < (nz : Int) := by omega
      have hk0 : ¬ (k : Int) < 0 := by omega
      have hwk : IntKind.i64.wrap ((k : Int) + 1) = (k : Int) + 1 := by have := HN.out.2; exact IntWalk.i64_in _ (by omega)
      obtain ⟨z, hz⟩ : ∃ z, zs[k]? = some z := ⟨_, List.getElem?_eq_getElem (by rw [← HN.out.1]; exact hlt)⟩
      obtain ⟨ad, rfl, -, d0, d1⟩ := (HX.out.thru H.out.1.k) k z hz
      have HZ := Lib.hid (⟨HR.out z (List.mem_of_getElem? hz), by rw [List.drop_eq_getElem_cons (by rw [← HN.out.1]; exact hlt)]; congr 1; exact Option.some.inj ((List.getElem?_eq_getElem _).symm.trans hz)⟩ : RightS z ∧ zs.drop k = z :: zs.drop (k + 1))
      obtain ⟨c0, c1, c2', c3', c4', c5'⟩ := HM.out.1.at'
      have HAd := Lib.hid (fun w1 (kb : Below wr.heap.size wr w1) => refadd_any (2 * k) A n c A2 n2 c2 m z w1 (HM.out.2.1.thru kb) HZ.out.1 (by have := HN.out.2; omega))
      have HZZ := Lib.hid hz
      clear hz
      go_upto_region 5 with fail
      go_cut [7, 8] (fun s7 s8 wx => ∃ (b4 : Nat) (A3 : Option Addr) (n3 c3 : Nat), s7 = .pointer (some ⟨b4, 0, none⟩) ∧ s8 = .bool (m.add z).2 ∧ Hid (Below wr.heap.size wr wx ∧ Mb wx b4 A n c A3 n3 c3 (m.add z).1 ∧ RefIn (2 * k + 1) wx A n c A3 n3 c3 (m.add z).1 ∧ wr.heap.size ≤ b4 ∧ ∀ ad, A3 = some ad → wr.heap.size ≤ ad.block ∨ A3 = A2))
      case first =>
        have hb0l := HM.out.1.lt
        have hadl : (ad.add (k * 2)).block < wr.heap.size := block_lt_of_cell d0
        have d0a : ∀ o, (wr.alloc o).cell? (ad.add (k * 2)) = some (.int .i64 z.wd) := fun o => ((ba1 wr o).cell hadl).trans d0
        have d1a : ∀ o, (wr.alloc o).cell? ⟨(ad.add (k * 2)).block, (ad.add (k * 2)).off + 1, none⟩ = some (.int .i64 z.ht) := fun o => ((ba1 wr o).cell (p := ⟨(ad.add (k * 2)).block, (ad.add (k * 2)).off + 1, none⟩) hadl).trans d1
        go_region_with (first
          | (go_at_call 32; (with_reducible refine (HAd.out wr.drew (bd0 wr)).mono ?_); rintro e w5 ⟨hout, k5⟩; obtain ⟨A3, n3, c3, rfl, hr5, hb5⟩ := hout; have S5 := Lib.hid (⟨thru (bd0 wr) k5, hr5, hb5⟩ : Below wr.heap.size wr w5 ∧ RefIn (2 * k + 1) w5 A n c A3 n3 c3 (m.add z).1 ∧ ∀ ad, A3 = some ad → wr.heap.size ≤ ad.block ∨ A3 = A2); clear hr5 k5 hb5)
          | (go_at_call 32; (with_reducible refine (HAd.out _ (bd1 wr _)).mono ?_); rintro e w5 ⟨hout, k5⟩; obtain ⟨A3, n3, c3, rfl, hr5, hb5⟩ := hout; have S5 := Lib.hid (⟨thru (bd1 wr _) k5, hr5, bd1_mb wr w5 k5, (fun ad e => (hb5 ad e).elim (fun q e2 => by have h := q; simp at h; omega) (fun q e2 => by have := HM.out.2.1.b ad (q.symm.trans e); omega)), (fun ad e => (hb5 ad e).imp (fun q => by have h := q; simp at h; omega) id)⟩ : Below wr.heap.size wr w5 ∧ RefIn (2 * k + 1) w5 A n c A3 n3 c3 (m.add z).1 ∧ Mb w5 wr.heap.size none 0 0 none 0 0 zeroM ∧ (∀ ad, A3 = some ad → ad.block ≠ wr.heap.size) ∧ ∀ ad, A3 = some ad → wr.heap.size ≤ ad.block ∨ A3 = A2); obtain ⟨z0, z1, z2, z3, z4, z5⟩ := S5.out.2.2.1.at'; obtain ⟨f0, f1, f2, f3, f4, f5⟩ := S5.out.2.2.1.free; clear hr5 k5 hb5))
        all_goals go_wp2_with fail
        all_goals go_meet
        all_goals first
          | (have hz0 := z0; clear hz0; exact ⟨wr.heap.size, A3, n3, c3, rfl, rfl, Lib.hid (and_more (six_out HM.out.2.1.i.hx S5.out.1 S5.out.2.1 S5.out.2.2.1 S5.out.2.2.2.1) S5.out.2.2.2.2)⟩)
          | exact ⟨w5.heap.size, A3, n3, c3, rfl, rfl, Lib.hid ⟨thru S5.out.1 (ba1 w5 _), heap_alloc_new w5 _, S5.out.2.1.thru (ba1 w5 _), S5.out.1.size, S5.out.2.2⟩⟩
      case rest =>
        obtain ⟨b4, A3, n3, c3, rfl, rfl, hc⟩ := hcut
        have HC := Lib.hid (⟨hc.out.1, hc.out.2.1, hc.out.2.2.1, hc.out.2.2.2.1, (fun ad e => (hc.out.2.2.2.2 ad e).elim (fun q => ⟨by have := H.out.1.z; omega, fun e2 => by have := (H.out.1.l.lt _ e2).2; omega⟩) (fun q => HM.out.2.2 ad (q.symm.trans e)))⟩ : Below wr.heap.size wr wc ∧ Mb wc b4 A n c A3 n3 c3 (m.add z).1 ∧ RefIn (2 * k + 1) wc A n c A3 n3 c3 (m.add z).1 ∧ wr.heap.size ≤ b4 ∧ ∀ ad, A3 = some ad → B ≤ ad.block ∧ blk A5 ≠ some ad.block)
        have HFl := Lib.hid (by rw [H.out.1.f]; exact HI.out.i.hx : Floats w w.heap.size A m.fs)
        clear hc
        clear c0 c1 c2' c3' c4' c5' d0 d1 HAd
        have hsegs := H.out.2.2
        rw [HZ.out.2] at hsegs
        have HSG := Lib.hid hsegs
        clear hsegs
        obtain ⟨v, hv⟩ : ∃ v, (m.add z).2 = v := ⟨_, rfl⟩
        have HV := Lib.hid hv
        rw [hv]
        clear hv
        have hmf : (m.add z).1.fs = m.fs := add_same m z
        have HMF := Lib.hid hmf
        clear hmf
        cases v with
        | true =>
          generalize hm' : (m.add z).1 = m' at *
          have HM' := Lib.hid hm'
          clear hm'
          have hb0 := HM.out.1.below HC.out.1
          obtain ⟨e0, e1, e2, e3, e4, e5⟩ := HC.out.2.1.at'
          obtain ⟨c0, c1, c2', c3', c4', c5'⟩ := hb0.at'
          obtain ⟨f0, f1, f2, f3, f4, f5⟩ := hb0.free
          have L9 := Lib.hid (list_six (w := w) (H.out.1.l.below HC.out.1) hb0 HC.out.2.2.1 (by rw [HMF.out]; exact HFl.out) (thru H.out.1.k HC.out.1) HB.out.1 HB.out.2 (fun ad e => (HC.out.2.2.2.2 ad e).1))
          clear hb0
          go_wp2_with fail
          go_roundw
          case rel => exact ⟨k + 1, by omega, by go_num, A5, c5, xs.length, rfl, Lib.hid ⟨m', xs, rfl, ⟨⟨A3, n3, c3, L9.out.2.1, L9.out.2.2.1.mono (by omega), HC.out.2.2.2.2⟩, by rw [HMF.out]; exact H.out.1.f, L9.out.2.2.2.1, L9.out.1, by have := L9.out.2.2.2.2.size; have := HC.out.1.size; have := H.out.1.z; omega⟩, by have := H.out.2.1; omega, by have := HSG.out; rwa [segsL_yes HV.out, HM'.out] at this⟩⟩
          case measure => simp [intOf]; omega
        | false =>
          have hne : m.az ≠ [] := fun e => by have h := HV.out; rw [add_nil e] at h; cases h
          have hfit : m.fits z = false := by
            cases hf : m.fits z with
            | false => rfl
            | true => have h := HV.out; rw [add_fits hne hf] at h; cases h
          have hadd : (m.add z).1 = m := by rw [add_not hne hfit]
          have hfin : m.fin = { m with y := m.b, az := [] } := fin_some hne
          rw [hadd] at HC
          have hmid1 : Mid (2 * k + 1) m.fin := H.out.1.mm.elim fun _ h => h.elim fun _ h => h.elim fun _ h => h.2.1.d.fin
          have hp := HM.out.2.1.p
          have HFI := Lib.hid (⟨hne, hmid1, (by rw [hfin]; exact ⟨hp.1, show m.top ≤ _ by omega⟩)⟩ : m.az ≠ [] ∧ Mid (2 * k + 1) m.fin ∧ -281474976710656 ≤ m.fin.top ∧ m.fin.top ≤ 562949953421312 + ((2 * k + 1 : Nat) : Int) * 2147483648)
          have HFN := Lib.hid hfin
          have HNo := Lib.hid (refnow_some A n c A2 n2 c2 m wc (HM.out.2.1.i.thru HC.out.1) hne)
          rw [show lineV m = (lnOf m).v from rfl] at HNo
          have hb0 := HM.out.1.below HC.out.1
          obtain ⟨c0, c1, c2', c3', c4', c5'⟩ := hb0.at'
          clear hne hfit hadd hfin hmid1 hp hb0 HMF
          go_upto_region 8 with (first
            | (go_at_call 33; refine HNo.out.mono ?_; rintro e w6 ⟨rfl, k6⟩; have K6 := Lib.hid (⟨thru HC.out.1 k6, H.out.1.l.below (thru HC.out.1 k6), k6⟩ : Below wr.heap.size wr w6 ∧ MineE encL 47 w6 B A5 xs.length c5 (xs.map lnOf) ∧ Below wc.heap.size wc w6); clear k6)
            | (at_builtin; refine wpList_append_E (bytes := 48) (by omega) infoRL _ rfl (.tmp 27) (.tmp 30) rfl B A5 xs.length c5 (xs.map lnOf) rfl (K6.out.2.1.alloc _) (some ⟨w6.heap.size, 0, none⟩) 1 1 [lnOf m] rfl (oneE_src encL w6 (lnOf m) 47) (by have := H.out.2.1; have := HN.out.2; omega) (by have := H.out.1.z; have := K6.out.1.size; simp; omega) ?_; intro A6 c6 w7 hA; have HA := Lib.hid hA; clear hA))
          clear c0 c1 c2' c3' c4' c5'
          have gA := HA.out.2.1
          have kA : But (fun j => blk A5 = some j) (w6.alloc (.cells (lnrow (lnOf m)).toArray 47)) w7 := ⟨gA.os, gA.tape, gA.output, gA.size, fun j hj hn => gA.block j hj (fun e => hn e.symm)⟩
          have k7 : But (fun j => blk A5 = some j) wc w7 := (But.of_below (S := fun j => blk A5 = some j) (thru K6.out.2.2 (ba1 w6 (.cells (lnrow (lnOf m)).toArray 47)))).trans kA (fun _ _ e => e)
          have hlt5 : ∀ j, blk A5 = some j → B ≤ j ∧ j < wr.heap.size := fun j e => H.out.1.l.lt j e
          have kw : Below w.heap.size w w7 := (thru H.out.1.k HC.out.1).trans (k7.below (thru H.out.1.k HC.out.1).size (fun j e => by have := hlt5 j e; have := HB.out; omega))
          have hb4l := HC.out.2.1.lt
          have hb07 : Mb w7 b0 A n c A2 n2 c2 m := (k7.block b0 (HM.out.1.below HC.out.1).lt (fun e => by have := hlt5 b0 e; have := HB.out; omega)).trans (HM.out.1.below HC.out.1)
          have hb47 : Mb w7 b4 A n c A3 n3 c3 m := (k7.block b4 hb4l (fun e => by have := hlt5 b4 e; have := HC.out.2.2.2.1; omega)).trans HC.out.2.1
          have hr7 : RefIn (2 * k) w7 A n c A2 n2 c2 m := (HM.out.2.1.thru HC.out.1).six HFl.out kw k7 (fun ad e => (HM.out.2.2 ad e).2)
          have hl7 : MineE encL 47 w7 B A6 (xs ++ [m]).length c6 ((xs ++ [m]).map lnOf) := by
            have h := HA.out.1
            rw [List.map_append, List.length_append]
            exact h
          have h46 : blk A6 ≠ some b4 := fun e => by
            rcases HA.out.2.2 with q | q
            · rw [q] at e; have := hlt5 b4 e; have := HC.out.2.2.2.1; omega
            · rw [q] at e; injection e with e; have := K6.out.2.2.size; simp at e; omega
          have S7 := Lib.hid (⟨kw, hb07, hb47, hr7, hl7, h46, by have := k7.size; have := HC.out.1.size; have := H.out.1.z; omega⟩ : Below w.heap.size w w7 ∧ Mb w7 b0 A n c A2 n2 c2 m ∧ Mb w7 b4 A n c A3 n3 c3 m ∧ RefIn (2 * k) w7 A n c A2 n2 c2 m ∧ MineE encL 47 w7 B A6 (xs ++ [m]).length c6 ((xs ++ [m]).map lnOf) ∧ blk A6 ≠ some b4 ∧ B ≤ w7.heap.size)
          have HB4 := Lib.hid (⟨by have := HC.out.2.2.2.1; have := H.out.1.k.size; omega, by have := HC.out.2.2.2.1; have := H.out.1.z; have := HB.out; omega⟩ : w.heap.size ≤ b4 ∧ b0 ≠ b4)
          clear gA kA k7 hlt5 kw hb4l hb07 hb47 hr7 hl7 h46 HA K6 HNo
          have HEn := Lib.hid (fun w1 (kb : Below w7.heap.size w7 w1) => refend_some A n c A2 n2 c2 m w1 (S7.out.2.2.2.1.i.thru kb) HFI.out.1)
          have HAe := Lib.hid (fun w1 (h : RefIn (2 * k + 1) w1 A n c none 0 0 m.fin) => refadd_any (2 * k + 1) A n c none 0 0 m.fin z w1 h HZ.out.1 (by have := HN.out.2; omega))
          have hseg2 := HSG.out
          rw [segsL_no HV.out] at hseg2
          have hfs2 : (m.fin.add z).1.fs = m.fs := by rw [add_same, fin_same]
          obtain ⟨m2, hm2⟩ : ∃ m2, (m.fin.add z).1 = m2 := ⟨_, rfl⟩
          rw [hm2] at hseg2 hfs2
          have HM2 := Lib.hid (⟨hm2, hseg2, hfs2⟩ : (m.fin.add z).1 = m2 ∧ xs ++ m :: segsL m2 (zs.drop (k + 1)) = sg ∧ m2.fs = m.fs)
          unfold AddOut at HAe
          rw [hm2] at HAe
          clear hseg2 hfs2 hm2
          have hz7 : AtZ w7 (ad.add (k * 2)) z := by
            obtain ⟨a, e, -, hq⟩ := (HX.out.thru S7.out.1) k z HZZ.out
            injection e with e
            rw [e]
            exact hq
          have HZ7 := Lib.hid hz7
          obtain ⟨d0, d1⟩ := hz7
          obtain ⟨c0, c1, c2', c3', c4', c5'⟩ := S7.out.2.1.at'
          go_cut [32] (fun t wx => ∃ (A4 : Option Addr) (n4 c4 : Nat), Hid (Below w.heap.size w wx ∧ Mb wx b4 A n c A4 n4 c4 m2 ∧ RefIn (2 * k + 2) wx A n c A4 n4 c4 m2 ∧ Mb wx b0 A n c A2 n2 c2 m ∧ MineE encL 47 wx B A6 (xs ++ [m]).length c6 ((xs ++ [m]).map lnOf) ∧ (∀ ad, A4 = some ad → B ≤ ad.block ∧ blk A6 ≠ some ad.block) ∧ B ≤ wx.heap.size))
          case first =>
            go_region_with (first
              | (go_at_call 34; (with_reducible refine (HEn.out w7.drew (bd0 w7)).mono ?_); rintro e w8 ⟨rfl, k8⟩; have S8 := Lib.hid (⟨thru (bd0 w7) k8, (S7.out.2.2.2.1.thru (thru (bd0 w7) k8)).fin HFI.out.1 HFI.out.2.1 HFI.out.2.2⟩ : Below w7.heap.size w7 w8 ∧ RefIn (2 * k + 1) w8 A n c none 0 0 m.fin); obtain ⟨p0, p1⟩ := AtZ.below HZ7.out (block_lt_of_cell HZ7.out.1) S8.out.1; clear k8)
              | (go_at_call 32; (with_reducible refine (HAe.out w8 S8.out.2).mono ?_); rintro e w9 ⟨⟨A4, n4, c4, rfl, hr9, hb9⟩, k9⟩; have S9 := Lib.hid (⟨thru S8.out.1 k9, hr9, (fun ad e => (hb9 ad e).elim (fun q => Nat.le_trans S8.out.1.size q) (fun q => by rw [q] at e; cases e))⟩ : Below w7.heap.size w7 w9 ∧ RefIn (2 * k + 2) w9 A n c A4 n4 c4 m2 ∧ ∀ ad, A4 = some ad → w7.heap.size ≤ ad.block); obtain ⟨z0, z1, z2, z3, z4, z5⟩ := (S7.out.2.2.1.below S9.out.1).at'; obtain ⟨f0, f1, f2, f3, f4, f5⟩ := (S7.out.2.2.1.below S9.out.1).free; clear hr9 hb9 k9))
            all_goals go_wp2_with fail
            all_goals go_meet
            all_goals (
              have L9 := list_six4 (w := w) (S7.out.2.2.2.2.1.below S9.out.1) (S7.out.2.2.1.below S9.out.1) (S7.out.2.1.below S9.out.1) S9.out.2.1 (by rw [HM2.out.2.2]; exact HFl.out) (thru S7.out.1 S9.out.1) HB4.out.1 HB4.out.2 S7.out.2.2.2.2.2.1 (fun ad e => by have := S9.out.2.2 ad e; have := S7.out.2.2.1.lt; omega)
              exact ⟨A4, n4, c4, Lib.hid ⟨L9.1, L9.2.1, L9.2.2.1, L9.2.2.2.1, L9.2.2.2.2.1, fun ad e => ⟨Nat.le_trans S7.out.2.2.2.2.2.2 (S9.out.2.2 ad e), fun e2 => by have := (S7.out.2.2.2.2.1.lt _ e2).2; have := S9.out.2.2 ad e; omega⟩, Nat.le_trans S7.out.2.2.2.2.2.2 (Nat.le_trans S9.out.1.size L9.2.2.2.2.2.size)⟩⟩)
          case rest =>
            obtain ⟨A4, n4, c4, hc⟩ := hcut
            have HC2 := Lib.hid hc.out
            clear hc c0 c1 c2' c3' c4' c5' d0 d1
            obtain ⟨e0, e1, e2, e3, e4, e5⟩ := HC2.out.2.1.at'
            obtain ⟨c0, c1, c2', c3', c4', c5'⟩ := HC2.out.2.2.2.1.at'
            obtain ⟨f0, f1, f2, f3, f4, f5⟩ := HC2.out.2.2.2.1.free
            have L9 := Lib.hid (list_six (w := w) HC2.out.2.2.2.2.1 HC2.out.2.2.2.1 HC2.out.2.2.1 (by rw [HM2.out.2.2]; exact HFl.out) HC2.out.1 HB.out.1 HB.out.2 (fun ad e => (HC2.out.2.2.2.2.2.1 ad e).1))
            go_wp2_with fail
            go_roundw
            case rel => exact ⟨k + 1, by omega, by go_num, A6, c6, (xs ++ [m]).length, (by rw [List.length_append]; rfl), Lib.hid ⟨m2, xs ++ [m], rfl, ⟨⟨A4, n4, c4, L9.out.2.1, L9.out.2.2.1.mono (by omega), HC2.out.2.2.2.2.2.1⟩, by rw [HM2.out.2.2]; exact H.out.1.f, L9.out.2.2.2.1, L9.out.1, by have := L9.out.2.2.2.2.size; have := HC2.out.2.2.2.2.2.2; omega⟩, by have := H.out.2.1; simp; omega, by rw [← HM2.out.2.1]; simp⟩⟩
            case measure => simp [intOf]; omega
    · obtain rfl : k = nz := by omega
      have he : zs.drop k = [] := List.drop_eq_nil_of_le (by rw [← HN.out.1]; exact Nat.le_refl _)
      have hseg : xs ++ segE m = sg := by have := H.out.2.2; rwa [he, segsL_nil] at this
      have HSE := Lib.hid hseg
      have hb0 := HM.out.1
      obtain ⟨c0, c1, c2', c3', c4', c5'⟩ := hb0.at'
      clear he hseg hb0
      by_cases hm : m.az = []
      · have hn0 : n2 = 0 := by rw [HM.out.2.1.i.hn2, hm]; rfl
        subst hn0
        have hsg : xs = sg := by have := HSE.out; unfold segE at this; rw [hm] at this; simpa using this
        have HSG := Lib.hid hsg
        clear hm hsg
        go_wp2_with fail
        go_ret
        refine ⟨⟨A5, c5, ?_, ?_⟩, H.out.1.k⟩
        · rw [← HSG.out]; rfl
        · rw [← HSG.out]; exact MineE.mono H.out.1.l (by have := HB.out; omega)
      · have hpos : (0 : Int) < (n2 : Int) := by have := List.length_pos_iff.2 hm; have := HM.out.2.1.i.hn2; omega
        have hsg : xs ++ [m] = sg := by
          have := HSE.out
          unfold segE at this
          cases e : m.az with
          | nil => exact absurd e hm
          | cons a l => rw [e] at this; exact this
        have HSG := Lib.hid hsg
        have HNo := Lib.hid (refnow_some A n c A2 n2 c2 m wr HM.out.2.1.i hm)
        rw [show lineV m = (lnOf m).v from rfl] at HNo
        clear hm hsg
        go_wp2_with (first
          | (go_at_call 33; refine HNo.out.mono ?_; rintro e w6 ⟨rfl, k6⟩; have K6 := Lib.hid (⟨k6, H.out.1.l.below k6, thru H.out.1.k k6⟩ : Below wr.heap.size wr w6 ∧ MineE encL 47 w6 B A5 xs.length c5 (xs.map lnOf) ∧ Below w.heap.size w w6); clear k6)
          | (at_builtin; refine wpList_append_E (bytes := 48) (by omega) infoRL _ rfl (.tmp 47) (.tmp 50) rfl B A5 xs.length c5 (xs.map lnOf) rfl (K6.out.2.1.alloc _) (some ⟨w6.heap.size, 0, none⟩) 1 1 [lnOf m] rfl (oneE_src encL w6 (lnOf m) 47) (by have := H.out.2.1; have := HN.out.2; omega) (by have := H.out.1.z; have := K6.out.1.size; simp; omega) ?_; intro A6 c6 w7 hA; have HA := Lib.hid (⟨hA.1, AppendedE.below hA (K6.out.2.1.alloc _) (thru K6.out.2.2 (ba1 w6 _)) (by have := HB.out; omega) (by have := K6.out.2.2.size; simp; omega)⟩ : MineE encL 47 w7 B A6 (xs.length + 1) c6 (xs.map lnOf ++ [lnOf m]) ∧ Below w.heap.size w w7); clear hA))
        go_ret
        refine ⟨⟨A6, c6, ?_, ?_⟩, HA.out.2⟩
        · rw [← HSG.out, List.length_append]; rfl
        · rw [← HSG.out, List.length_append, List.map_append]
          exact MineE.mono HA.out.1 (by have := HB.out; omega)

end Go.Proofs.Ytmgokpdeolnidaa.Line
