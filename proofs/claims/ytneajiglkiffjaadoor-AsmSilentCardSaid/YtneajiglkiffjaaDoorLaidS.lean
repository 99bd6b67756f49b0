/- As LaidN, for the rows that do not list errors.errorType. -/
import Derived.Test.YtneajiglkiffjaaDoorLaidN
import Derived.MakeChecks
namespace Go.Proofs.YtneajiglkiffjaaDoor
open Go.RowKit

theorem laidD_plain (W : World) : laidMetH Tryd.prog laidD W = laidMet Tryd.prog laidD W := MakeChecks.laidMetH_plain _ _ _ (by kernel_rfl)
theorem doorD_met (os : Os) (args : Array Value) : laidMetH Tryd.prog laidD ((laidW os).forCall (fun _ _ => 0) ⟨#[], args, []⟩).memory := by
  rw [laidD_plain]
  exact laidD_met os args
theorem namesAt_of_laidD {W : World} (h : laidMetH Tryd.prog laidD W) : NamesAt W := by
  rw [laidD_plain] at h
  exact namesAt_of_met h (by simp [laidD])
end Go.Proofs.YtneajiglkiffjaaDoor
