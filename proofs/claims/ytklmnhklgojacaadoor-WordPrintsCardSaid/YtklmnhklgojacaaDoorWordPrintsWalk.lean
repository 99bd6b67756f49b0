/- The walk of WordPrints: it returns true; of what was there nothing has turned. -/
import Derived.Test.YtklmnhklgojacaaDoorAwake
import Derived.Test.YtklmnhklgojacaaDoorRefPrint
namespace Go.Proofs.YtklmnhklgojacaaDoor
open Go.RowKit

set_option maxHeartbeats 400000 in
theorem wordPrints_walk (a0 : Int) (w0 : (Lit.int .u64 a0).wf = true) (w : World) (hg : ErrType w) (ht : Pow10 w) :
    Calls Tryd.prog 5 #[.int .u64 a0] w fun e w' => e = .returned (.bool true) ∧ Below w.heap.size w w' := by
  have hr : 0 ≤ a0 ∧ a0 ≤ 18446744073709551615 := by
    simp [Lit.wf, IntKind.min, IntKind.max, IntKind.signed, IntKind.bits] at w0
    exact ⟨by omega, by omega⟩
  obtain ⟨u, rfl⟩ : ∃ u : Nat, a0 = u := ⟨a0.toNat, by omega⟩
  have hu : u < 18446744073709551616 := by omega
  have P1 := Lib.hid (print_any u hu w ht)
  have P2 := Lib.hid (fun w => refprint_any u hu w)
  have HG := Lib.hid hg
  have HT := Lib.hid ht
  obtain ⟨D, hD⟩ : ∃ D : ByteArray, D = ⟨(Lib.decDigits u).toArray⟩ := ⟨_, rfl⟩
  rw [← hD] at P1 P2
  have HD := Lib.hid hD
  clear w0 hr hg ht hD
  go_enter Tryd.func5, Tryd.ntmps5
  go_wp2_with fail
  go_at_call 22
  refine P1.out.mono ?_
  rintro e w1 ⟨rfl, hb⟩
  have HT1 := Lib.hid (pow10_below hb HT.out)
  have HG1 := Lib.hid (errType_below hb HG.out (cell_lt HG.out))
  go_wp2_with fail
  go_at_call 23
  refine (P2.out _).mono ?_
  rintro e w' ⟨rfl, rfl⟩
  go_wp2_with fail
  go_at_call 19
  refine (awake_any _ HG1.out HT1.out).mono ?_
  rintro e w2 ⟨rfl, hb2⟩
  go_wp2_with fail
  go_ret
  exact ⟨rfl, hb.trans (hb2.mono hb.size)⟩
end Go.Proofs.YtklmnhklgojacaaDoor
