/- The statements' own example (layer 5): the call that asks whether the program is awake answers true. The condition: the program's table of names holds the names. -/
import Derived.Test.YtneajiglkiffjaaGreatDoorAsmParse
import Derived.Test.YtneajiglkiffjaaGreatDoorAsmFin0
import Derived.KernelRfl
namespace Go.Proofs.YtneajiglkiffjaaGreatDoor
open Go.RowKit
set_option linter.unusedVariables false

def awakeA : ByteArray := ⟨#[108, 111, 111, 112, 58, 10, 97, 100, 100, 32, 114, 49, 32, 114, 49, 32, 49, 32, 59, 32, 111, 110, 10, 106, 109, 112, 32, 108, 111, 111, 112, 10, 99, 97, 115, 32, 114, 49, 32, 91, 114, 50, 43, 51, 93, 32, 114, 52, 32, 33, 55, 61, 48]⟩
def awakeC : List Inst := [⟨3, 1, 1, -1, 1, 0, 0⟩, ⟨12, 0, 0, 0, 0, 0, 0⟩, ⟨21, 1, 2, 4, 3, 7, 1⟩]
def awakeL : Labs := [([108, 111, 111, 112], 0, 0)]
set_option maxRecDepth 100000 in
theorem awake_text : parseP awakeA.data.toList = .ok awakeC awakeL := by kernel_rfl
set_option maxHeartbeats 2000000 in
set_option maxRecDepth 100000 in
theorem awake_any (w : World) (N : NamesAt w) (hg : 0 < w.heap.size) : Calls Tryz.prog 11 #[] w fun e w' => e = .returned (.bool true) ∧ Below w.heap.size w w' := by
  have P := asmParse_any awakeA (by decide +kernel) w N hg
  rw [awake_text] at P
  have HP := Lib.hid (show Calls Tryz.prog 12 #[.string ⟨#[108, 111, 111, 112, 58, 10, 97, 100, 100, 32, 114, 49, 32, 114, 49, 32, 49, 32, 59, 32, 111, 110, 10, 106, 109, 112, 32, 108, 111, 111, 112, 10, 99, 97, 115, 32, 114, 49, 32, 91, 114, 50, 43, 51, 93, 32, 114, 52, 32, 33, 55, 61, 48]⟩] w (ParOut (.ok awakeC awakeL) w) from P)
  clear P N
  go_enter Tryz.func11, Tryz.ntmps11
  go_wp2_with fail
  go_at_call 12
  refine HP.out.mono ?_
  rintro e w' ⟨hb, vc, vl, rfl, h1, h2⟩
  obtain ⟨g, cap, rfl⟩ := nil_form h1 (by decide)
  obtain ⟨g2, cap2, rfl⟩ := nil_form h2 (by decide)
  have a0 := own_cell h1 0 (.int .i64 3) rfl
  have a3 := own_cell h1 3 (.int .i64 (-1)) rfl
  have a4 := own_cell h1 4 (.int .u64 1) rfl
  have b4 := own_cell h1 18 (.int .u64 3) rfl
  have b5 := own_cell h1 19 (.int .i64 7) rfl
  have b6 := own_cell h1 20 (.int .i64 1) rfl
  have l0 := own_cell h2 0 (.string ⟨#[108, 111, 111, 112]⟩) rfl
  have l1 := own_cell h2 1 (.int .i64 0) rfl
  have HB := Lib.hid hb
  have e3 : awakeC.length = 3 := rfl
  have e1 : awakeL.length = 1 := rfl
  rw [e3, e1]
  clear hb h1 h2 e3 e1
  go_wp2_with fail
  go_ret
  exact ⟨rfl, HB.out⟩
end Go.Proofs.YtneajiglkiffjaaGreatDoor
