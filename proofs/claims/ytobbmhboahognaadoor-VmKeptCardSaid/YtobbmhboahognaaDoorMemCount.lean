/- The program's memory (layer 2): the contract of Count. The condition: it lies there. -/
import Derived.Test.YtobbmhboahognaaDoorMem
namespace Go.Proofs.YtobbmhboahognaaDoor
open Go.RowKit

set_option maxHeartbeats 400000 in
theorem memCount {w : World} {b bc : Nat} {m : Cells} {t : Int} (h : MemAt w b bc m t) :
    Calls Tryd.prog 20 #[.pointer (some ⟨b, 0, none⟩)] w fun e w' => e = .returned (.int .i64 m.n) ∧ w = w' := by
  have c2 := h.c2
  obtain ⟨N, hN⟩ : ∃ N, N = m.n := ⟨_, rfl⟩
  rw [← hN] at c2 ⊢
  clear h hN
  go_enter Tryd.func20, Tryd.ntmps20
  go_wp2
  go_ret
  exact ⟨rfl, rfl⟩

end Go.Proofs.YtobbmhboahognaaDoor
