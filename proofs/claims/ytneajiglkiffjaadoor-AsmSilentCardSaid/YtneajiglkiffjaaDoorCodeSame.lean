/- Contract of the statements' help Code: the same instructions twice are the same (KeepCode's last part, for a layer without CopyCode). -/
import Derived.Test.YtneajiglkiffjaaDoorInsIn
import Derived.Deep.CutRange
import Derived.Deep.DeepCutAuto
import Derived.Deep.CutBlock
import Derived.BigQuiet
namespace Go.Proofs.YtneajiglkiffjaaDoor
open Go.RowKit
set_option linter.unusedVariables false

set_option maxHeartbeats 1000000 in
/-- The same instructions twice are the same. -/
theorem code_same (A B : Option Addr) (cap cap2 : Nat) (l : List Inst) (w : World) (hl : l.length < 4611686018427387904) (hA : InsIn w A l) (hB : InsIn w B l) :
    Calls Tryd.prog 8 #[.slice A l.length cap, .slice B l.length cap2] w fun e w' => e = .returned (.bool true) ∧ Below w.heap.size w w' := by
  obtain ⟨N, hN⟩ : ∃ N, N = l.length := ⟨_, rfl⟩
  have HA := Lib.hid hA
  have HB := Lib.hid hB
  have HN := Lib.hid hN
  rw [← hN] at hl ⊢
  clear hN hA hB
  go_enter Tryd.func8, Tryd.ntmps8
  go_wp2_with fail
  go_loopw [5] (fun vi wr => ∃ i : Nat, i ≤ N ∧ vi = .int .i64 i ∧ Hid (Below w.heap.size w wr)) (fun vi _ => N - (intOf vi).toNat)
  case atStart => exact ⟨0, by omega, rfl, Lib.hid (Below.refl _ _)⟩
  case round =>
    obtain ⟨i, hi, rfl, hbl⟩ := hrel
    by_cases hlt : i < N
    · obtain ⟨p, rfl, hp, c0, c1, c2, c3, c4, c5, c6⟩ := (HA.out.below hbl.out) i (by rw [← HN.out]; exact hlt)
      obtain ⟨p', rfl, hp', d0, d1, d2, d3, d4, d5, d6⟩ := (HB.out.below hbl.out) i (by rw [← HN.out]; exact hlt)
      generalize l.getD i inst0 = x at c0 c1 c2 c3 c4 c5 c6 d0 d1 d2 d3 d4 d5 d6
      have BD := Lib.hid (fun n => (⟨hbl.out.os, hbl.out.tape, hbl.out.output, hbl.out.size, hbl.out.block⟩ : Below w.heap.size w (wr.drewN n)))
      go_upto_region 6 with fail
      go_quiet (fail)
      go_wp2_with fail
      go_roundw
      case rel => exact ⟨i + 1, by omega, by go_num, Lib.hid (BD.out _)⟩
      case measure => simp [intOf]; omega
    · have FIN := Lib.hid hbl.out
      go_wp2_with fail
      go_ret
      exact ⟨rfl, FIN.out⟩
end Go.Proofs.YtneajiglkiffjaaDoor
