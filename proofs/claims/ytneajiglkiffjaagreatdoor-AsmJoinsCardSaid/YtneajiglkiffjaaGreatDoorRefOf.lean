/- The document's row of an operation (layer 4): the contract of Of, at every number. -/
import Derived.Test.YtneajiglkiffjaaGreatDoorCodePlain
import Derived.Test.YtneajiglkiffjaaGreatDoorProg
import Derived.WalkKit
import Derived.WalkSpells
import Derived.WalkLawsBesides
import Derived.Lib.Hide
import Derived.Laws.Rows
namespace Go.Proofs.YtneajiglkiffjaaGreatDoor
open Go.RowKit
set_option linter.unusedVariables false

theorem alloc2_below (w : World) (a b : Obj) : Below w.heap.size w ((w.alloc a).alloc b) := ((Below.refl _ _).alloc (Nat.le_refl _) _).alloc (by simp) _
set_option maxHeartbeats 4000000 in
set_option maxRecDepth 100000 in
/-- No operation. -/
theorem of_none (op : Int) (h : op < 1 ∨ 58 < op) (w : World) : Calls Tryz.prog 14 #[.int .i64 op] w fun e w' => e = .returned (.agg (shapeOf op).cs.toArray) ∧ Below w.heap.size w w' := by
  have hs : shapeOf op = shp0 := by unfold shapeOf; rw [if_neg (by omega)]
  rw [hs]
  have n1 : (op == 1) = false := by simp; omega
  have n2 : (op == 2) = false := by simp; omega
  have n3 : (op == 3) = false := by simp; omega
  have n4 : (op == 4) = false := by simp; omega
  have n5 : (op == 5) = false := by simp; omega
  have n6 : (op == 6) = false := by simp; omega
  have n7 : (op == 7) = false := by simp; omega
  have n8 : (op == 8) = false := by simp; omega
  have n9 : (op == 9) = false := by simp; omega
  have n10 : (op == 10) = false := by simp; omega
  have n11 : (op == 11) = false := by simp; omega
  have n12 : (op == 12) = false := by simp; omega
  have n13 : (op == 13) = false := by simp; omega
  have n14 : (op == 14) = false := by simp; omega
  have n15 : (op == 15) = false := by simp; omega
  have n16 : (op == 16) = false := by simp; omega
  have n17 : (op == 17) = false := by simp; omega
  have n18 : (op == 18) = false := by simp; omega
  have n19 : (op == 19) = false := by simp; omega
  have n20 : (op == 20) = false := by simp; omega
  have n21 : (op == 21) = false := by simp; omega
  have n22 : (op == 22) = false := by simp; omega
  have n23 : (op == 23) = false := by simp; omega
  have n24 : (op == 24) = false := by simp; omega
  have n25 : (op == 25) = false := by simp; omega
  have n26 : (op == 26) = false := by simp; omega
  have n27 : (op == 27) = false := by simp; omega
  have n28 : (op == 28) = false := by simp; omega
  have n29 : (op == 29) = false := by simp; omega
  have n30 : (op == 30) = false := by simp; omega
  have n31 : (op == 31) = false := by simp; omega
  have n32 : (op == 32) = false := by simp; omega
  have n33 : (op == 33) = false := by simp; omega
  have n34 : (op == 34) = false := by simp; omega
  have n35 : (op == 35) = false := by simp; omega
  have n36 : (op == 36) = false := by simp; omega
  have n37 : (op == 37) = false := by simp; omega
  have n38 : (op == 38) = false := by simp; omega
  have n39 : (op == 39) = false := by simp; omega
  have n40 : (op == 40) = false := by simp; omega
  have n41 : (op == 41) = false := by simp; omega
  have n42 : (op == 42) = false := by simp; omega
  have n43 : (op == 43) = false := by simp; omega
  have n44 : (op == 44) = false := by simp; omega
  have n45 : (op == 45) = false := by simp; omega
  have n46 : (op == 46) = false := by simp; omega
  have n47 : (op == 47) = false := by simp; omega
  have n48 : (op == 48) = false := by simp; omega
  have n49 : (op == 49) = false := by simp; omega
  have n50 : (op == 50) = false := by simp; omega
  have n51 : (op == 51) = false := by simp; omega
  have n52 : (op == 52) = false := by simp; omega
  have n53 : (op == 53) = false := by simp; omega
  have n54 : (op == 54) = false := by simp; omega
  have n55 : (op == 55) = false := by simp; omega
  have n56 : (op == 56) = false := by simp; omega
  have n57 : (op == 57) = false := by simp; omega
  have n58 : (op == 58) = false := by simp; omega
  clear h hs
  go_enter Tryz.func14, Tryz.ntmps14
  go_wp2
  refine bodyPost_ret (results_cell_row rfl _ _ w.heap.size _ _ (0, 0) _ rfl (heap_alloc2_old w _ _) Tryz.underlying46 rfl (by kernel_rfl)) rfl ?_
  exact ⟨rfl, alloc2_below w _ _⟩
set_option maxHeartbeats 40000000 in
set_option maxRecDepth 100000 in
/-- The row of every number. -/
theorem of_any (op : Int) (w : World) : Calls Tryz.prog 14 #[.int .i64 op] w fun e w' => e = .returned (.agg (shapeOf op).cs.toArray) ∧ Below w.heap.size w w' := by
  by_cases h : op < 1 ∨ 58 < op
  · exact of_none op h w
  have hx : op = 1 ∨ op = 2 ∨ op = 3 ∨ op = 4 ∨ op = 5 ∨ op = 6 ∨ op = 7 ∨ op = 8 ∨ op = 9 ∨ op = 10 ∨ op = 11 ∨ op = 12 ∨ op = 13 ∨ op = 14 ∨ op = 15 ∨ op = 16 ∨ op = 17 ∨ op = 18 ∨ op = 19 ∨ op = 20 ∨ op = 21 ∨ op = 22 ∨ op = 23 ∨ op = 24 ∨ op = 25 ∨ op = 26 ∨ op = 27 ∨ op = 28 ∨ op = 29 ∨ op = 30 ∨ op = 31 ∨ op = 32 ∨ op = 33 ∨ op = 34 ∨ op = 35 ∨ op = 36 ∨ op = 37 ∨ op = 38 ∨ op = 39 ∨ op = 40 ∨ op = 41 ∨ op = 42 ∨ op = 43 ∨ op = 44 ∨ op = 45 ∨ op = 46 ∨ op = 47 ∨ op = 48 ∨ op = 49 ∨ op = 50 ∨ op = 51 ∨ op = 52 ∨ op = 53 ∨ op = 54 ∨ op = 55 ∨ op = 56 ∨ op = 57 ∨ op = 58 := by omega
  clear h
  rcases hx with rfl | rfl | rfl | rfl | rfl | rfl | rfl | rfl | rfl | rfl | rfl | rfl | rfl | rfl | rfl | rfl | rfl | rfl | rfl | rfl | rfl | rfl | rfl | rfl | rfl | rfl | rfl | rfl | rfl | rfl | rfl | rfl | rfl | rfl | rfl | rfl | rfl | rfl | rfl | rfl | rfl | rfl | rfl | rfl | rfl | rfl | rfl | rfl | rfl | rfl | rfl | rfl | rfl | rfl | rfl | rfl | rfl | rfl
  all_goals
    refine (?_ : Calls Tryz.prog 14 #[.int .i64 _] w _)
    go_enter Tryz.func14, Tryz.ntmps14
    go_wp2
    refine bodyPost_ret (results_cell_row rfl _ _ w.heap.size _ _ (0, 0) _ rfl (heap_alloc2_old w _ _) Tryz.underlying46 rfl (by kernel_rfl)) rfl ?_
    exact ⟨rfl, alloc2_below w _ _⟩
end Go.Proofs.YtneajiglkiffjaaGreatDoor
