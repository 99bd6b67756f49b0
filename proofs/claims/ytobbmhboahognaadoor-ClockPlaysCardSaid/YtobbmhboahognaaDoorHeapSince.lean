/- A queue that was made since (layer 7). -/
import Derived.Test.YtobbmhboahognaaDoorHeapSpec
namespace Go.Proofs.YtobbmhboahognaaDoor
open Go.RowKit
set_option linter.unusedVariables false

/-- A queue in memory that was made since w0. -/
structure Since (w0 : World) (B0 : Nat) (W : World) (b mb N : Nat) (v : Value) (c : Nat) (S : List Itm) (last : Nat) : Prop where
  at1 : HeapIs W b mb N v c S last
  hb : B0 ≤ b
  hm : B0 ≤ mb
  hN : B0 ≤ N
  bel : Below B0 w0 W
section
variable {w0 W W' : World} {B0 b mb N c : Nat} {v : Value} {S : List Itm} {last : Nat}
theorem Since.led {v' : Value} {c' : Nat} {S' : List Itm} {last' : Nat} (h : Since w0 B0 W b mb N v c S last) (l : Led W b mb N v W' v' c' S' last') : Since w0 B0 W' b mb N v' c' S' last' := by
  have hf := h.at1.facts
  refine ⟨l.at1, h.hb, h.hm, h.hN, h.bel.trans (l.only.below (fun k hk => ?_) (by have := h.hN; omega))⟩
  simp only [List.mem_cons] at hk
  rcases hk with rfl | rfl | hk
  · exact h.hb
  · exact h.hm
  · have := (h.at1.own k (by simpa using hk)).1; have := h.hN; omega
theorem Since.below (h : Since w0 B0 W b mb N v c S last) (hb : Below W.heap.size W W') : Since w0 B0 W' b mb N v c S last := h.led (Led.same h.at1 hb)
end
theorem newQ (w0 : World) (B0 : Nat) (W : World) (hb : Below B0 w0 W) (hB : B0 ≤ W.heap.size) : Calls Tryd.prog 54 #[] W fun e w' => e = .returned (.pointer (some ⟨W.heap.size + 1, 0, none⟩)) ∧ Since w0 B0 w' (W.heap.size + 1) W.heap.size (W.heap.size + 2) (.slice none 0 0) 0 [] 0 :=
  (newS W).mono fun _ _ ⟨h1, h2, h3⟩ => ⟨h1, h2, by omega, hB, by omega, hb.trans (h3.mono hB)⟩

end Go.Proofs.YtobbmhboahognaaDoor
