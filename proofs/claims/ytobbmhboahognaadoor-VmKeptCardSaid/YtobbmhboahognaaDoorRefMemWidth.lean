/- The document's memory (layer 2): the contract of Width. -/
import Derived.Test.YtobbmhboahognaaDoorRefMem
namespace Go.Proofs.YtobbmhboahognaaDoor
open Go.RowKit

set_option maxHeartbeats 400000 in
theorem refWidth {w : World} {b bw bh : Nat} {m : Cells} (h : RefMem w b bw bh m) (hl : m.ws.length < 2147483648) (at' : Nat) :
    Calls Tryd.prog 68 #[.pointer (some ⟨b, 0, none⟩), .int .u64 at'] w fun e w' => e = .returned (.int .i64 (widthAt m.ws at')) ∧ w = w' := by
  have c0 := h.c0
  by_cases hi : at' < m.ws.length
  · have cw := h.cw at' hi
    obtain ⟨x, hx⟩ : ∃ x, x = widthAt m.ws at' := ⟨_, rfl⟩
    rw [← hx]
    rw [show m.ws.getD at' 0 = x from hx.symm] at cw
    clear hx h
    go_enter Tryd.func68, Tryd.ntmps68
    go_wp2
    go_ret
    exact ⟨rfl, rfl⟩
  · rw [widthAt_out _ _ hi]
    clear h
    go_enter Tryd.func68, Tryd.ntmps68
    go_wp2
    go_ret
    exact ⟨rfl, rfl⟩

end Go.Proofs.YtobbmhboahognaaDoor
