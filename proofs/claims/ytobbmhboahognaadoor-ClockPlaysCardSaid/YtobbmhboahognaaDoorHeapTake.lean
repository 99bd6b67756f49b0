/- Pop (layer 7). The conditions: the queue is not too long, its last handle not too great, and its map has room. -/
import Derived.Test.YtobbmhboahognaaDoorHeapPut
namespace Go.Proofs.YtobbmhboahognaaDoor
open Go.RowKit
set_option linter.unusedVariables false

/-- What is left when the item at i was taken. -/
def TakePost (b mb N : Nat) (v : Value) (c : Nat) (L : List Itm) (last i : Nat) (W : World) (e : Ending) (W' : World) : Prop :=
  e = .returned (.tuple #[.int .u64 (at_ L i).w, .bool true]) ∧ ∃ v' c' L', Turned W b mb N v c W' v' c' L' last ∧ (at_ L i :: L').Perm L ∧ c' ≤ c + 2 * L.length + 1

section
variable {w : World} {b mb N c : Nat} {v : Value} {L : List Itm} {last : Nat}
/-- The first one is taken. -/
def popsB (L : List Itm) (now : Int) : Bool := !L.isEmpty && decide ((at_ L 0).d ≤ now)
set_option maxRecDepth 100000 in
set_option maxHeartbeats 1000000 in
theorem pop_no (h : HeapAt w b mb N v c L last) (now : Int) (hl : L.length < 1073741824) (hn : popsB L now = false) : Calls Tryd.prog 58 #[.pointer (some ⟨b, 0, none⟩), .int .u64 now] w fun e w' => e = .returned (.tuple #[.int .u64 0, .bool false]) ∧ Below w.heap.size w w' := by
  have FA := Lib.hid (first_any h hl)
  unfold firstV at FA
  unfold popsB at hn
  by_cases h0 : L = []
  · rw [if_pos h0] at FA
    clear h hn h0 hl
    go_enter Tryd.func58, Tryd.ntmps58
    go_wp2_with fail
    go_at_call 88
    refine FA.out.mono ?_
    rintro e w' ⟨rfl, hb⟩
    go_wp2_with fail
    go_ret2
    exact ⟨rfl, hb⟩
  · rw [if_neg h0] at FA
    have hgt : now < (at_ L 0).d := by simp [h0] at hn; exact hn
    obtain ⟨y, hy⟩ : ∃ y, y = at_ L 0 := ⟨_, rfl⟩
    rw [← hy] at FA hgt
    clear h hn h0 hl hy
    obtain ⟨y0, y1, y2⟩ := y
    dsimp only at FA hgt
    go_enter Tryd.func58, Tryd.ntmps58
    go_wp2_with fail
    go_at_call 88
    refine FA.out.mono ?_
    rintro e w' ⟨rfl, hb⟩
    go_wp2_with fail
    go_ret2
    exact ⟨rfl, hb⟩
set_option maxRecDepth 100000 in
set_option maxHeartbeats 1000000 in
theorem pop_yes (h : HeapAt w b mb N v c L last) (now : Int) (hl : L.length < 1073741824) (hlast : last < 1073741824) (hc : c + 2 * L.length < maxLen) (hn : popsB L now = true) :
    Calls Tryd.prog 58 #[.pointer (some ⟨b, 0, none⟩), .int .u64 now] w fun e w' => ∃ w1, Below w.heap.size w w1 ∧ TakePost b mb N v c L last 0 w1 e w' := by
  have FA := Lib.hid (first_any h hl)
  unfold firstV at FA
  unfold popsB at hn
  have h0 : L ≠ [] := by rintro rfl; simp at hn
  have hle : (at_ L 0).d ≤ now := by simp [h0] at hn; exact hn
  rw [if_neg h0] at FA
  obtain ⟨y, hy⟩ : ∃ y, y = at_ L 0 := ⟨_, rfl⟩
  rw [← hy] at FA hle
  have hl0 : 0 < L.length := List.length_pos_iff.2 h0
  have RM := Lib.hid (fun w1 (hb : Below w.heap.size w w1) => remove_any (h.below hb) 0 hl0 hl hlast hc)
  have HY := Lib.hid hy
  clear h hn h0 hy
  obtain ⟨y0, y1, y2⟩ := y
  dsimp only at FA hle
  go_enter Tryd.func58, Tryd.ntmps58
  go_wp2_with fail
  go_at_call 88
  refine FA.out.mono ?_
  rintro e w1 ⟨rfl, hb⟩
  have RM1 := Lib.hid (RM.out w1 hb)
  have HB := Lib.hid hb
  clear hb
  go_wp2_with fail
  go_at_call 87
  refine RM1.out.mono ?_
  rintro e w' ⟨rfl, hr⟩
  have HR := Lib.hid hr
  simp only [← HY.out]
  clear hr
  have hfd : ∀ W, (Instr.field 171 (.agg #[.int .u64 y0, .int .u64 y1, .int .i64 y2]) 1).run Tryd.prog W = .ok (.int .u64 y1) W := fun _ => by kernel_rfl
  go_wp2_with fail
  go_ret2
  exact ⟨w1, HB.out, by rw [← HY.out]; rfl, HR.out⟩
end
end Go.Proofs.YtobbmhboahognaaDoor
