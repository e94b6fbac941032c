/- The law of the first place: its body, up to First. -/
import Derived.Test.YtpfcefflcmeobaaSpacePFirst
import Derived.Laws.EntriesVeiled
namespace Go.Proofs.Ytpfcefflcmeobaa.Space
open Go.RowKit Go.Sort Go.Proofs.Ytpfcefflcmeobaa.Rect Go.Proofs.Ytpfcefflcmeobaa.More Go.Proofs.Ytpfcefflcmeobaa.Shelf
set_option linter.unusedVariables false
set_option linter.unusedSimpArgs false

theorem But.from_below {B : Nat} {w w' : World} (h : Below B w w') : But (fun k => B ≤ k) w w' := ⟨h.os, h.tape, h.output, h.size, fun k _ hs => h.block k (Nat.lt_of_not_le hs)⟩

section
variable {S : World → (Nat → Prop) → Addr → List Fl → Prop}

/-- First, asked by way of the law's two closures. -/
theorem first_asks (hO : SpaceOk S) (A : Option Addr) (n c : Nat) (fs : List Fl) (B ba bf b4 b7 b6 : Nat) (F : Nat → Prop) (p : Addr) (y hv wv hm wm : Int) (w : World) (hS : S w F p fs) (hn : n = fs.length) (hlen : n ≤ 1000) (hx : Floats w B A fs) (hs : fs.all nearF = true) (hy : inS y = true)
    (hB : B ≤ w.heap.size) (hF : ∀ k, F k → k < B) (h4 : b4 < B) (h7 : b7 < B) (h6 : b6 < B) (hb : bf < B)
    (c4 : w.cell? ⟨b4, 0, none⟩ = some (.slice A n c)) (c7 : w.cell? ⟨b7, 0, none⟩ = some (.int .u8 hv)) (c6 : w.cell? ⟨b6, 0, none⟩ = some (.int .u8 wv)) (hhm : hv.tmod 12 = hm) (hwm : wv.tmod 20 = wm) (hm0 : 0 ≤ hm ∧ hm < 12) (hw0 : 0 ≤ wm ∧ wm < 20)
    (cf : w.cell? ⟨bf, 0, none⟩ = some (.func (.func 26) #[] #[.pointer (some ⟨b4, 0, none⟩), .pointer (some ⟨b7, 0, none⟩), .pointer (some ⟨b6, 0, none⟩)])) (ha : Asked w B ba []) :
    Calls Try.prog 27 #[.pointer (some p), .int .i64 y, .func (.func 28) #[] #[.pointer (some ⟨ba, 0, none⟩), .pointer (some ⟨bf, 0, none⟩)]] w fun r w' => r = .returned (.int .i64 (atD (soQ fs hm wm) (topsD fs y))) ∧ S w' F p fs ∧ Asked w' B ba (askL (soQ fs hm wm) (topsD fs y)) ∧ Below B w w' := by
  have hf := hO.first w F p fs y 28 #[.pointer (some ⟨ba, 0, none⟩), .pointer (some ⟨bf, 0, none⟩)] (soQ fs hm wm) (fun w1 pre => Asked w1 B ba pre ∧ Below B w w1) hS hs hy (enters_of Try.func28 (by kernel_rfl) rfl)
    ⟨ha, Below.refl _ _⟩ (fun w1 w2 pre ⟨q1, q2⟩ k => ⟨asked_below q1 k, q2.trans (k.mono (Nat.le_trans hB q2.size))⟩)
    (fun w1 pre z hS1 ⟨q1, q2⟩ hz hl => (asks_any B ba bf 26 #[.pointer (some ⟨b4, 0, none⟩), .pointer (some ⟨b7, 0, none⟩), .pointer (some ⟨b6, 0, none⟩)] pre z (soQ fs hm wm z) w1 w q1 (Nat.le_trans hB q2.size) hl hb ((q2.cell (p := ⟨bf, 0, none⟩) hb).trans cf)
      (enters_of Try.func26 (by kernel_rfl) rfl)
      (fun w2 k2 => so_any A n c fs b4 b7 b6 hv wv hm wm z w2 hn (by omega) ((hx.below (q2.trans k2)).more (Nat.le_trans hB (q2.trans k2).size)) hs hz (((q2.trans k2).cell (p := ⟨b4, 0, none⟩) h4).trans c4) (((q2.trans k2).cell (p := ⟨b7, 0, none⟩) h7).trans c7) (((q2.trans k2).cell (p := ⟨b6, 0, none⟩) h6).trans c6) hhm hwm hm0 hw0)).mono
      fun e w' ⟨r1, r2, r3⟩ => ⟨r1, hO.keep _ _ _ _ _ _ hS1 (But.from_below r3) (fun k hk q => by have := hF k hk; omega), r2, q2.trans r3⟩)
  exact hf.mono fun r w' ⟨q1, q2, q3, q4⟩ => ⟨q1, q2, q3, q4⟩

end

end Go.Proofs.Ytpfcefflcmeobaa.Space
