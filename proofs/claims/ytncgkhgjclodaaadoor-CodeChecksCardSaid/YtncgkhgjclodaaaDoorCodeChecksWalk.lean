/- Any instructions may be, or the first one that may not is told: the walk of CodeChecks. The conditions: the instructions lie there and fit the reach of memory; the library's variable errors.errorType holds the type error. -/
import Derived.Test.YtncgkhgjclodaaaDoorCodeAwake
import Derived.Test.YtncgkhgjclodaaaDoorRefCheck
import Derived.Test.YtncgkhgjclodaaaDoorKeepCode
namespace Go.Proofs.YtncgkhgjclodaaaDoor
open Go.RowKit
set_option linter.unusedVariables false

set_option maxHeartbeats 2000000 in
set_option maxRecDepth 100000 in
theorem codeChecks_walk (lib : Bool) (w : World) (A : Option Addr) (cap : Nat) (l : List Inst) (hg : l.length * 56 ≤ 140737488355328) (hI : InsIn w A l) (hO : ∀ i, i < l.length → InsOk (l.getD i inst0)) (hE : ErrType w) :
    Calls Tryd.prog 3 #[.slice A l.length cap, .bool lib] w fun e w' => e = .returned (.bool true) ∧ Below w.heap.size w w' := by
  have hl : l.length < 4611686018427387904 := by omega
  have CC := Lib.hid (copyCode_any A cap l w hI hg)
  have CK := Lib.hid (fun B c W (h : InsIn W B l) => check_any B c l lib W hl h hO)
  have RC := Lib.hid (fun W (h : Below w.heap.size w W) => refCheck_any A cap l lib W hl (hI.below h))
  have CS := Lib.hid (fun B c W (h : Below w.heap.size w W) (h2 : InsIn W B l) => code_same A B cap c l W hl (hI.below h) h2)
  have TC := Lib.hid (told_check l lib)
  have HE := Lib.hid hE
  obtain ⟨N, hN⟩ : ∃ N, N = l.length := ⟨_, rfl⟩
  rw [← hN] at CC CK RC CS hl ⊢
  clear hN hg hI hO hE
  go_enter Tryd.func3, Tryd.ntmps3
  go_wp2_with fail
  go_at_call 11
  refine CC.out.mono ?_
  rintro e w1 ⟨B, c, rfl, hB, hb1, _⟩
  have B1 := Lib.hid hb1
  have IB := Lib.hid hB
  clear hb1 hB
  go_wp2_with fail
  go_at_call 13
  refine (CK.out _ _ _ IB.out).mono ?_
  intro e w2 h2
  obtain ⟨v, rfl, h2, hb2⟩ := h2.returned
  have B2 := Lib.hid (B1.out.trans (hb2.mono B1.out.size))
  have IB2 := Lib.hid (IB.out.below hb2)
  have P2 := Lib.hid h2
  clear h2 hb2
  go_wp2_with fail
  go_at_call 14
  refine (RC.out _ B2.out).mono ?_
  intro e w3 h3
  obtain ⟨f, rfl, h3, hb3⟩ := (chk_f h3).returned
  have B3 := Lib.hid (B2.out.trans (hb3.mono B2.out.size))
  have IB3 := Lib.hid (IB2.out.below hb3)
  have SM := Lib.hid (same_ef TC.out P2.out h3 (errType_below B3.out HE.out (cell_lt HE.out)))
  clear h3 hb3
  go_wp2_with fail
  go_at_call 12
  refine SM.out.mono ?_
  rintro e w4 ⟨rfl, hb4⟩
  have B4 := Lib.hid (B3.out.trans (hb4.mono B3.out.size))
  have CS4 := Lib.hid (CS.out B c w4 B4.out (IB3.out.below hb4))
  clear hb4
  go_wp2_with fail
  go_at_call 15
  refine CS4.out.mono ?_
  rintro e w5 ⟨rfl, hb5⟩
  have B5 := Lib.hid (B4.out.trans (hb5.mono B4.out.size))
  clear hb5
  go_wp2_with fail
  go_at_call 16
  refine (awake_any w5 (errType_below B5.out HE.out (cell_lt HE.out))).mono ?_
  rintro e w6 ⟨rfl, hb6⟩
  have B6 := Lib.hid (B5.out.trans (hb6.mono B5.out.size))
  clear hb6
  go_wp2_with fail
  go_ret
  exact ⟨rfl, B6.out⟩
end Go.Proofs.YtncgkhgjclodaaaDoor
