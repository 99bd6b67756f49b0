/- What the walks of layer 3's laws find in a slice of blocks that was told; two blocks that are the same. -/
import Derived.Test.YtlodelcenejfhaaDoorAllocTail
import Derived.Laws.StructEq
import Derived.Deep.QuietTactic
namespace Go.Proofs.YtlodelcenejfhaaDoor
open Go.RowKit Go.Shelf
set_option linter.unusedVariables false

theorem below_drewN (W : World) (n : Nat) : Below W.heap.size W (W.drewN n) := ⟨rfl, (Below.refl W.heap.size W).tape, rfl, Nat.le_refl _, fun _ _ => rfl⟩
/-- A slice of blocks, cell by cell. -/
def BlkIn (W : World) (ad : Option Addr) (L : List Blk) : Prop := ∀ i, i < L.length → ∃ g, ad = some ⟨g, 0, none⟩ ∧ g < W.heap.size ∧ W.cell? ⟨g, i * 3, none⟩ = some (.int .i64 (L.getD i blk0).p) ∧ W.cell? ⟨g, i * 3 + 1, none⟩ = some (.int .i64 (L.getD i blk0).n) ∧ W.cell? ⟨g, i * 3 + 2, none⟩ = some (.int .i64 (L.getD i blk0).k)
theorem told_slice {W : World} {B : Nat} {v : Value} {L : List Blk} (h : W.ownsRow B 65 3 v L.length (flat L)) : ∃ ad cap, v = .slice ad L.length cap ∧ BlkIn W ad L := by
  rcases row_cases h with ⟨rfl, rfl⟩ | ⟨g, cap, rfl, _, hg, _, hc⟩
  · exact ⟨none, 0, rfl, fun i hi => by simp at hi⟩
  · refine ⟨_, cap, rfl, fun i hi => ?_⟩
    obtain ⟨x0, x1, x2⟩ := flat_at L i hi
    exact ⟨g, rfl, hg, hc _ _ x0, hc _ _ x1, hc _ _ x2⟩
theorem BlkIn.below {W W' : World} {ad : Option Addr} {L : List Blk} (h : BlkIn W ad L) (hb : Below W.heap.size W W') : BlkIn W' ad L := fun i hi => by
  obtain ⟨g, e, hg, h0, h1, h2⟩ := h i hi
  exact ⟨g, e, Nat.lt_of_lt_of_le hg hb.size, (hb.cell (p := ⟨g, i * 3, none⟩) hg).trans h0, (hb.cell (p := ⟨g, i * 3 + 1, none⟩) hg).trans h1, (hb.cell (p := ⟨g, i * 3 + 2, none⟩) hg).trans h2⟩
theorem BlkIn.only {W W' : World} {F : List Nat} {ad : Option Addr} {L : List Blk} (h : BlkIn W ad L) (ho : Only F W W') (hF : ∀ g, ad = some ⟨g, 0, none⟩ → g ∉ F) : BlkIn W' ad L := fun i hi => by
  obtain ⟨g, e, hg, h0, h1, h2⟩ := h i hi
  have hb := ho.block g hg (hF g e)
  refine ⟨g, e, Nat.lt_of_lt_of_le hg ho.size, ?_, ?_, ?_⟩
  · rw [World.cell?_of_block (w := W) (w' := W') (a := ⟨g, i * 3, none⟩) hb]; exact h0
  · rw [World.cell?_of_block (w := W) (w' := W') (a := ⟨g, i * 3 + 1, none⟩) hb]; exact h1
  · rw [World.cell?_of_block (w := W) (w' := W') (a := ⟨g, i * 3 + 2, none⟩) hb]; exact h2
theorem neq_same (p n k : Int) (w : World) : (binOp .neq 65 (.agg #[.int .i64 p, .int .i64 n, .int .i64 k]) (.agg #[.int .i64 p, .int .i64 n, .int .i64 k])).run Tryd.prog w = .ok (.bool false) w := by
  have u3 := Tryd.underlying3
  have a3 := Tryd.isAgg3
  have z3 := Tryd.sizeOf3
  have hS : Tryd.prog.underlying 65 = some (.struct (Tryd.prog.fieldsOf 65)) := by kernel_rfl
  have hp : Tryd.prog.stoodInHeld 65 = false := by kernel_rfl
  rw [run_neq_struct, show (10000 : Nat) = 9999 + 1 from rfl, run_equalIn_agg w 9999 65 _ _ hS hp]
  simp only [Program.fieldsOf, Tryd.underlying65]
  go_simp
theorem guard_blk : Tryd.prog.eqGuardType Tryd.prog.depth 65 = false := by kernel_rfl
end Go.Proofs.YtlodelcenejfhaaDoor
