/- The program's row of an operation (layer 4): the contract of rowOf, at every number. -/
import Derived.Test.YtncgkhgjclodaaaDoorCodeRowA
import Derived.Test.YtncgkhgjclodaaaDoorCodeRowB
import Derived.Test.YtncgkhgjclodaaaDoorCodeRowC
namespace Go.Proofs.YtncgkhgjclodaaaDoor
open Go.RowKit
set_option linter.unusedVariables false

theorem row_any (op : Int) (w : World) : Calls Tryd.prog 36 #[.int .i64 op] w (RowPost (rowCs op) (shapeOf op).Is w) := by
  by_cases h : op < 1 ∨ 58 < op
  · have hs : shapeOf op = shp0 := by unfold shapeOf; rw [if_neg (by omega)]
    have hv : rowCs op = [.bool false, .bool false, .bool false, .bool false, .bool false, .int .i64 0] := by unfold rowCs vOf; rw [hs]; rfl
    rw [hv, hs]
    exact row_none op h w
  have hx : op = 1 ∨ op = 2 ∨ op = 3 ∨ op = 4 ∨ op = 5 ∨ op = 6 ∨ op = 7 ∨ op = 8 ∨ op = 9 ∨ op = 10 ∨ op = 11 ∨ op = 12 ∨ op = 13 ∨ op = 14 ∨ op = 15 ∨ op = 16 ∨ op = 17 ∨ op = 18 ∨ op = 19 ∨ op = 20 ∨ op = 21 ∨ op = 22 ∨ op = 23 ∨ op = 24 ∨ op = 25 ∨ op = 26 ∨ op = 27 ∨ op = 28 ∨ op = 29 ∨ op = 30 ∨ op = 31 ∨ op = 32 ∨ op = 33 ∨ op = 34 ∨ op = 35 ∨ op = 36 ∨ op = 37 ∨ op = 38 ∨ op = 39 ∨ op = 40 ∨ op = 41 ∨ op = 42 ∨ op = 43 ∨ op = 44 ∨ op = 45 ∨ op = 46 ∨ op = 47 ∨ op = 48 ∨ op = 49 ∨ op = 50 ∨ op = 51 ∨ op = 52 ∨ op = 53 ∨ op = 54 ∨ op = 55 ∨ op = 56 ∨ op = 57 ∨ op = 58 := by omega
  clear h
  rcases hx with rfl | rfl | rfl | rfl | rfl | rfl | rfl | rfl | rfl | rfl | rfl | rfl | rfl | rfl | rfl | rfl | rfl | rfl | rfl | rfl | rfl | rfl | rfl | rfl | rfl | rfl | rfl | rfl | rfl | rfl | rfl | rfl | rfl | rfl | rfl | rfl | rfl | rfl | rfl | rfl | rfl | rfl | rfl | rfl | rfl | rfl | rfl | rfl | rfl | rfl | rfl | rfl | rfl | rfl | rfl | rfl | rfl | rfl
  · exact row_1 w
  · exact row_2 w
  · exact row_3 w
  · exact row_4 w
  · exact row_5 w
  · exact row_6 w
  · exact row_7 w
  · exact row_8 w
  · exact row_9 w
  · exact row_10 w
  · exact row_11 w
  · exact row_12 w
  · exact row_13 w
  · exact row_14 w
  · exact row_15 w
  · exact row_16 w
  · exact row_17 w
  · exact row_18 w
  · exact row_19 w
  · exact row_20 w
  · exact row_21 w
  · exact row_22 w
  · exact row_23 w
  · exact row_24 w
  · exact row_25 w
  · exact row_26 w
  · exact row_27 w
  · exact row_28 w
  · exact row_29 w
  · exact row_30 w
  · exact row_31 w
  · exact row_32 w
  · exact row_33 w
  · exact row_34 w
  · exact row_35 w
  · exact row_36 w
  · exact row_37 w
  · exact row_38 w
  · exact row_39 w
  · exact row_40 w
  · exact row_41 w
  · exact row_42 w
  · exact row_43 w
  · exact row_44 w
  · exact row_45 w
  · exact row_46 w
  · exact row_47 w
  · exact row_48 w
  · exact row_49 w
  · exact row_50 w
  · exact row_51 w
  · exact row_52 w
  · exact row_53 w
  · exact row_54 w
  · exact row_55 w
  · exact row_56 w
  · exact row_57 w
  · exact row_58 w
end Go.Proofs.YtncgkhgjclodaaaDoor
