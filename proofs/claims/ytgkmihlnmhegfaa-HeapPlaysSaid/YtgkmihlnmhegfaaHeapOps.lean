/- A slice of the statements' calls (layer 7), opened to its cells. -/
import Derived.Test.YtgkmihlnmhegfaaProg
import Derived.Test.YtgkmihlnmhegfaaLawClose
import Derived.KernelRfl
namespace Go.Proofs.Ytgkmihlnmhegfaa
open Go.RowKit Go.ChangeShapes Go.WideShapes
set_option linter.unusedVariables false

/-- A slice of calls: at each place its four fields. -/
def OpsIn (W : World) (A : Option Addr) (len : Nat) : Prop := ∀ i, i < len → ∃ p, A = some p ∧ p.block < W.heap.size ∧ ∃ (d h a n : Int),
  (W.cell? (p.add (i * 4)) = some (.int .i64 d) ∧ W.cell? ⟨(p.add (i * 4)).block, (p.add (i * 4)).off + 1, none⟩ = some (.int .i64 h) ∧ W.cell? ⟨(p.add (i * 4)).block, (p.add (i * 4)).off + 2, none⟩ = some (.int .u64 a) ∧ W.cell? ⟨(p.add (i * 4)).block, (p.add (i * 4)).off + 3, none⟩ = some (.int .u64 n)) ∧
  (Lit.int .i64 h).wf = true

theorem ops_of_trod {H : Type} {enc : TypeId × Value → H} {W : World} {A : Option Addr} {len cap : Nat} {d : DataW H} {p : List MemPlace} (h : DataW.Trod enc Try.prog W 0 (fun _ => true) true 22 (.slice A len cap) d p) : len ≤ maxLen ∧ OpsIn W A len := by
  obtain ⟨hl, hi⟩ := structs_of_trod Try.underlying22 Try.underlying31 (by kernel_rfl) (by kernel_rfl) (by decide) h
  refine ⟨hl, fun i hlt => ?_⟩
  obtain ⟨p, e, hb, hf⟩ := hi i hlt
  obtain ⟨x0, e0, w0⟩ := hf 0 _ .i64 rfl Try.underlying3
  obtain ⟨x1, e1, w1⟩ := hf 1 _ .i64 rfl Try.underlying3
  obtain ⟨x2, e2, w2⟩ := hf 2 _ .u64 rfl Try.underlying29
  obtain ⟨x3, e3, w3⟩ := hf 3 _ .u64 rfl Try.underlying29
  have at_ : ∀ j x, 0 < j → W.cell? (p.add (i * 4 + j)) = some x → W.cell? ⟨(p.add (i * 4)).block, (p.add (i * 4)).off + j, none⟩ = some x := fun j x hj h => by
    rw [← Go.Deep.add_add, add_pos _ _ hj] at h; exact h
  exact ⟨p, e, hb, x0, x1, x2, x3, ⟨e0, at_ 1 _ (by omega) e1, at_ 2 _ (by omega) e2, at_ 3 _ (by omega) e3⟩, w1⟩
end Go.Proofs.Ytgkmihlnmhegfaa
