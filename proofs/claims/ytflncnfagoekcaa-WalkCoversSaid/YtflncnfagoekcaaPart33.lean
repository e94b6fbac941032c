/- The walk of TreeLaws, over the contracts of the program's trees. -/
import Derived.Test.YtflncnfagoekcaaPart32
import Derived.Laws.OwnMore
namespace Go.Proofs.Ytflncnfagoekcaa.Tree
open Go.RowKit Go.Sort Go.Proofs.Ytflncnfagoekcaa.Record Go.Proofs.Ytflncnfagoekcaa.Script Go.Proofs.Ytflncnfagoekcaa.More

section
variable {T : World → Addr → List Bx → Prop}

theorem kids_new (hT : TreeOk T) {n : Nat} {bs : List Bx} (hn : n = bs.length) {w : World} {p : Addr} (h : T w p bs) {k l : Nat} (hk : k < n) (hl : (kids (dOf bs) n k).length = l) : Calls Try.prog 30 #[.pointer (some p), .int .i64 (k : Int)] w fun r w' => (∃ A1 c1, r = .returned (.slice A1 l c1) ∧ Nums w' w'.heap.size A1 ((kids (dOf bs) n k).map Int.ofNat) ∧ (0 < l → ∀ ad, A1 = some ad → w.heap.size ≤ ad.block)) ∧ Below w.heap.size w w' := by
  refine (hT.kids w p bs k h).mono ?_
  rintro r w' ⟨u, rfl, ⟨A1, c1, rfl, h1, h2⟩, kk⟩
  rw [kidsT_nat (by omega), ← hn] at h1 h2 ⊢
  refine ⟨⟨A1, c1, by rw [List.length_map, hl], h1, fun h0 => h2 (fun e => ?_)⟩, kk⟩
  have := congrArg List.length e
  rw [List.length_map, hl] at this
  simp at this
  omega

theorem box_lit (hT : TreeOk T) {n : Nat} {bs : List Bx} (hn : n = bs.length) {w : World} {p : Addr} (h : T w p bs) {k : Nat} {y : Bx} {d : Int} (hk : k < n) (hy : bs.getD k noB = y) (hd : y.d = d) : Calls Try.prog 24 #[.pointer (some p), .int .i64 (k : Int)] w fun r w' => r = .returned (.agg #[.int .i64 d, .int .i64 y.k, .int .i64 y.s, .int .i64 y.c, .int .i64 y.w, .int .i64 y.h, .int .i64 y.m0, .int .i64 y.m1, .int .i64 y.m2, .int .i64 y.m3, .int .i64 y.e0, .int .i64 y.e1, .int .i64 y.e2, .int .i64 y.e3]) ∧ Below w.heap.size w w' := by
  subst hd
  exact box_at hT hn h hk hy

theorem field_d (y : Bx) (d : Int) (w : World) : (Instr.field 48 (.agg #[.int .i64 d, .int .i64 y.k, .int .i64 y.s, .int .i64 y.c, .int .i64 y.w, .int .i64 y.h, .int .i64 y.m0, .int .i64 y.m1, .int .i64 y.m2, .int .i64 y.m3, .int .i64 y.e0, .int .i64 y.e1, .int .i64 y.e2, .int .i64 y.e3]) 0).run Try.prog w = .ok (.int .i64 d) w := by
  kernel_rfl

theorem nums_put {w : World} {A : Option Addr} {xs : List Int} (h : Nums w w.heap.size A xs) (a : Addr) (v : Value) (hne : 0 < xs.length → ∀ ad, A = some ad → ad.block ≠ a.block) : Nums (w.setCell a v) (w.setCell a v).heap.size A xs := fun k hk => by
  obtain ⟨ad, e, hb, hc⟩ := h k hk
  have hn := hne (by omega) ad e
  have hs : (w.setCell a v).heap.size = w.heap.size := by simp [World.setCell]
  refine ⟨ad, e, by rw [hs]; exact hb, ?_⟩
  have : (w.setCell a v).heap[(ad.add k).block]? = w.heap[(ad.add k).block]? := by
    rw [block_of_add]
    simp [World.setCell, Array.getElem?_modify, Ne.symm hn]
  simpa [World.cell?, this] using hc

end

end Go.Proofs.Ytflncnfagoekcaa.Tree
