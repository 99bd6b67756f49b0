/- A slice of the statements' calls (layer 2), opened to its cells. -/
import Derived.Test.YtdnamjlknmcdjaaDoorProg
import Derived.Test.YtdnamjlknmcdjaaDoorLawClose
import Derived.KernelRfl
namespace Go.Proofs.YtdnamjlknmcdjaaDoor
open Go.RowKit Go.ChangeShapes Go.WideShapes
set_option linter.unusedVariables false

/-- A slice of calls: at each place its seven fields. -/
def OpsIn (W : World) (A : Option Addr) (len : Nat) : Prop := ∀ i, i < len → ∃ p, A = some p ∧ p.block < W.heap.size ∧ ∃ (d a n k : Int) (ad : Nat) (old v : Int),
  (W.cell? (p.add (i * 7)) = some (.int .i64 d) ∧ W.cell? ⟨(p.add (i * 7)).block, (p.add (i * 7)).off + 1, none⟩ = some (.int .i64 a) ∧ W.cell? ⟨(p.add (i * 7)).block, (p.add (i * 7)).off + 2, none⟩ = some (.int .i64 n) ∧ W.cell? ⟨(p.add (i * 7)).block, (p.add (i * 7)).off + 3, none⟩ = some (.int .i64 k) ∧ W.cell? ⟨(p.add (i * 7)).block, (p.add (i * 7)).off + 4, none⟩ = some (.int .u64 ad) ∧ W.cell? ⟨(p.add (i * 7)).block, (p.add (i * 7)).off + 5, none⟩ = some (.int .u64 old) ∧ W.cell? ⟨(p.add (i * 7)).block, (p.add (i * 7)).off + 6, none⟩ = some (.int .u64 v)) ∧
  (-9223372036854775808 ≤ a ∧ a ≤ 9223372036854775807 ∧ n ≤ 9223372036854775807 ∧ ad < 18446744073709551616 ∧ 0 ≤ old ∧ old ≤ 18446744073709551615 ∧ 0 ≤ v ∧ v ≤ 18446744073709551615)

theorem ops_of_trod {H : Type} {enc : TypeId × Value → H} {W : World} {A : Option Addr} {len cap : Nat} {d : DataW H} {p : List MemPlace} (h : DataW.Trod enc Tryd.prog W 0 (fun _ => true) true 22 (.slice A len cap) d p) : len ≤ maxLen ∧ OpsIn W A len := by
  obtain ⟨hl, hi⟩ := structs_of_trod Tryd.underlying22 Tryd.underlying36 (by kernel_rfl) (by kernel_rfl) (by decide) h
  refine ⟨hl, fun i hlt => ?_⟩
  obtain ⟨p, e, hb, hf⟩ := hi i hlt
  obtain ⟨x0, e0, w0⟩ := hf 0 _ .i64 rfl Tryd.underlying3
  obtain ⟨x1, e1, w1⟩ := hf 1 _ .i64 rfl Tryd.underlying3
  obtain ⟨x2, e2, w2⟩ := hf 2 _ .i64 rfl Tryd.underlying3
  obtain ⟨x3, e3, w3⟩ := hf 3 _ .i64 rfl Tryd.underlying3
  obtain ⟨x4, e4, w4⟩ := hf 4 _ .u64 rfl Tryd.underlying34
  obtain ⟨x5, e5, w5⟩ := hf 5 _ .u64 rfl Tryd.underlying34
  obtain ⟨x6, e6, w6⟩ := hf 6 _ .u64 rfl Tryd.underlying34
  have at_ : ∀ j x, 0 < j → W.cell? (p.add (i * 7 + j)) = some x → W.cell? ⟨(p.add (i * 7)).block, (p.add (i * 7)).off + j, none⟩ = some x := fun j x hj h => by
    rw [← Go.Deep.add_add, add_pos _ _ hj] at h; exact h
  obtain ⟨r4, q4⟩ := u64_wf w4
  obtain ⟨ad, rfl⟩ : ∃ n : Nat, x4 = n := ⟨x4.toNat, by omega⟩
  have r1 := i64_wf w1
  have r2 := i64_wf w2
  have r5 := u64_wf w5
  have r6 := u64_wf w6
  exact ⟨p, e, hb, x0, x1, x2, x3, ad, x5, x6, ⟨e0, at_ 1 _ (by omega) e1, at_ 2 _ (by omega) e2, at_ 3 _ (by omega) e3, at_ 4 _ (by omega) e4, at_ 5 _ (by omega) e5, at_ 6 _ (by omega) e6⟩, r1.1, r1.2, r2.2, by omega, r5.1, r5.2, r6.1, r6.2⟩
end Go.Proofs.YtdnamjlknmcdjaaDoor
