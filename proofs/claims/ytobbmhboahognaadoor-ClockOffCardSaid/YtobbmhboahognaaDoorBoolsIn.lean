/- A slice of truth values that came in, opened to its cells. -/
import Derived.Test.YtobbmhboahognaaDoorLawClose
namespace Go.Proofs.YtobbmhboahognaaDoor
open Go.RowKit Go.ChangeShapes Go.WideShapes
set_option linter.unusedVariables false
section
variable {H : Type} {enc : TypeId × Value → H} {P : Program} {W : World}
/-- A slice of truth values: its address (none: nil), its values. -/
def BoolsIn (W : World) (A : Option Addr) (zs : List Bool) : Prop := ∀ i, i < zs.length → ∃ a, A = some a ∧ a.block < W.heap.size ∧ W.cell? (a.add i) = some (.bool (zs.getD i false))
theorem bools_list (len : Nat) (g : Nat → Option Value) (h : ∀ i, i < len → ∃ b, g i = some (.bool b)) : ∃ zs : List Bool, zs.length = len ∧ ∀ i, i < len → g i = some (.bool (zs.getD i false)) := by
  induction len with
  | zero => exact ⟨[], rfl, fun i hi => by omega⟩
  | succ n ih =>
    obtain ⟨zs, hl, hz⟩ := ih (fun i hi => h i (by omega))
    obtain ⟨b, hb⟩ := h n (by omega)
    refine ⟨zs ++ [b], by simp [hl], fun i hi => ?_⟩
    rcases Nat.lt_or_ge i n with h1 | h1
    · rw [hz i h1]
      simp [List.getD, List.getElem?_append_left (show i < zs.length by omega)]
    · obtain rfl : i = n := by omega
      rw [hb]
      simp [List.getD, hl]
theorem bools_of_trod {t e : TypeId} {A : Option Addr} {len cap : Nat} {d : DataW H} {p : List MemPlace} (ht : P.underlying t = some (.slice e)) (he : P.underlying e = some .bool) (hc : P.cellsOf e = 1)
    (h : DataW.Trod enc P W 0 (fun _ => true) true t (.slice A len cap) d p) : ∃ zs : List Bool, zs.length = len ∧ len ≤ maxLen ∧ BoolsIn W A zs := by
  obtain ⟨fuel, hf⟩ := h
  rcases Go.Deep.open_slice ht hf with ⟨hcs, _⟩ | ⟨a, len', cap', m, n, D, Pl, hcs, _, hl, hm, hmm, _, hx⟩
  · simp [Value.cells] at hcs
    obtain ⟨rfl, rfl, rfl⟩ := hcs
    exact ⟨[], rfl, by simp, fun i hi => by simp at hi⟩
  · simp [Value.cells] at hcs
    obtain ⟨rfl, rfl, rfl⟩ := hcs
    simp only [if_true] at hmm
    obtain ⟨zs, hzl, hz⟩ := bools_list len (fun i => W.cell? (a.add i)) (fun i hi => by
      obtain ⟨cs', h1, h2⟩ := hx i (by omega)
      rw [hc] at h1
      obtain ⟨_, hcl, hat⟩ := World.cells?_some h1
      obtain ⟨b, rfl, _⟩ := DataW.trod_bool he h2
      have := hat 0 (by omega)
      rw [Nat.mul_one] at this
      have e0 : (a.add i).add 0 = a.add i := by rw [Go.Deep.add_add]; rfl
      rw [e0] at this
      exact ⟨b, this⟩)
    refine ⟨zs, hzl, by omega, fun i hi => ⟨a, rfl, ?_, hz i (by omega)⟩⟩
    rw [← block_add a i]; exact World.block_lt_of_cell? _ _ (hz i (by omega))
end
end Go.Proofs.YtobbmhboahognaaDoor
