/- Drop (layer 7). The conditions: the queue is not too long, its last handle not too great, and its map has room. -/
import Derived.Test.YtobbmhboahognaaDoorHeapTake
namespace Go.Proofs.YtobbmhboahognaaDoor
open Go.RowKit
set_option linter.unusedVariables false

section
variable {w : World} {b mb N c : Nat} {v : Value} {L : List Itm} {last : Nat}
set_option maxRecDepth 100000 in
set_option maxHeartbeats 1000000 in
theorem drop_no (h : HeapAt w b mb N v c L last) (k : Int) (hk : (Lit.int .i64 k).wf = true) (hn : ∀ x ∈ L, x.h ≠ k) : Calls Tryd.prog 55 #[.pointer (some ⟨b, 0, none⟩), .int .i64 k] w fun e w' => e = .returned (.tuple #[.int .u64 0, .bool false]) ∧ w = w' := by
  obtain ⟨f, hp, hf⟩ := h.pos
  have c1 := h.c1
  have hlk := hp.look k hk
  have hfk : f k = none := by
    cases e : f k with
    | none => rfl
    | some i =>
      obtain ⟨h1, h2⟩ := (hf k i).1 e
      exact absurd h2 (hn _ (by rw [at_get _ _ h1]; exact List.getElem_mem _))
  rw [hfk] at hlk
  have hlk' : (Instr.lookup 165 (.map (some mb)) (.int .i64 k) true).run Tryd.prog w = .ok (.tuple #[.int .i64 0, .bool false]) w := hlk
  clear h hp hf hfk hn hlk
  go_enter Tryd.func55, Tryd.ntmps55
  go_wp2
  go_ret2
  exact ⟨rfl, rfl⟩
set_option maxRecDepth 100000 in
set_option maxHeartbeats 1000000 in
theorem drop_yes (h : HeapAt w b mb N v c L last) (i : Nat) (hi : i < L.length) (k : Int) (hik : (at_ L i).h = k) (hl : L.length < 1073741824) (hlast : last < 1073741824) (hc : c + 2 * L.length < maxLen) :
    Calls Tryd.prog 55 #[.pointer (some ⟨b, 0, none⟩), .int .i64 k] w (TakePost b mb N v c L last i w) := by
  have hkh := h.hs _ (show at_ L i ∈ L by rw [at_get _ _ hi]; exact List.getElem_mem _)
  obtain ⟨f, hp, hf⟩ := h.pos
  have c1 := h.c1
  have hlk := hp.look k (WalkArith.wf_i64 (by omega))
  have hfk : f k = some i := (hf k i).2 ⟨hi, hik⟩
  rw [hfk] at hlk
  have hlk' : (Instr.lookup 165 (.map (some mb)) (.int .i64 k) true).run Tryd.prog w = .ok (.tuple #[.int .i64 (i : Int), .bool true]) w := hlk
  have RM := Lib.hid (remove_any h i hi hl hlast hc)
  clear h hp hf hfk hlk hik hkh
  go_enter Tryd.func55, Tryd.ntmps55
  go_wp2_with fail
  go_at_call 87
  refine RM.out.mono ?_
  rintro e w' ⟨rfl, hr⟩
  have HR := Lib.hid hr
  obtain ⟨y, hy⟩ : ∃ y, y = at_ L i := ⟨_, rfl⟩
  have HY := Lib.hid hy
  simp only [← hy]
  clear hr hy
  obtain ⟨y0, y1, y2⟩ := y
  dsimp only
  have hfd : ∀ W, (Instr.field 171 (.agg #[.int .u64 y0, .int .u64 y1, .int .i64 y2]) 1).run Tryd.prog W = .ok (.int .u64 y1) W := fun _ => by kernel_rfl
  go_wp2_with fail
  go_ret2
  exact ⟨by rw [← HY.out]; rfl, HR.out⟩
end
end Go.Proofs.YtobbmhboahognaaDoor
