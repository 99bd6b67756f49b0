/- The program's row of an operation (layer 4): the contract of rowOf at the operations 40 to 58. -/
import Derived.Test.YtncgkhgjclodaaaDoorCodeRow0
namespace Go.Proofs.YtncgkhgjclodaaaDoor
open Go.RowKit
set_option linter.unusedVariables false

set_option maxHeartbeats 4000000 in
set_option maxRecDepth 100000 in
theorem row_40 (w : World) : Calls Tryd.prog 36 #[.int .i64 40] w (RowPost [.bool true, .bool false, .bool false, .bool false, .bool false, .int .i64 0] true w) := by
  go_enter Tryd.func36, Tryd.ntmps36
  go_wp2
  refine bodyPost_ret (results_row_tmp rfl _ _ w.heap.size _ _ (0, 0) _ _ rfl rfl (heap_alloc2_old w _ _) rfl Tryd.underlying79 (by kernel_rfl)) rfl ?_
  exact ⟨rfl, alloc2_below' w _ _⟩
set_option maxHeartbeats 4000000 in
set_option maxRecDepth 100000 in
theorem row_41 (w : World) : Calls Tryd.prog 36 #[.int .i64 41] w (RowPost [.bool true, .bool false, .bool false, .bool false, .bool false, .int .i64 0] true w) := by
  go_enter Tryd.func36, Tryd.ntmps36
  go_wp2
  refine bodyPost_ret (results_row_tmp rfl _ _ w.heap.size _ _ (0, 0) _ _ rfl rfl (heap_alloc2_old w _ _) rfl Tryd.underlying79 (by kernel_rfl)) rfl ?_
  exact ⟨rfl, alloc2_below' w _ _⟩
set_option maxHeartbeats 4000000 in
set_option maxRecDepth 100000 in
theorem row_42 (w : World) : Calls Tryd.prog 36 #[.int .i64 42] w (RowPost [.bool true, .bool false, .bool false, .bool false, .bool false, .int .i64 0] true w) := by
  go_enter Tryd.func36, Tryd.ntmps36
  go_wp2
  refine bodyPost_ret (results_row_tmp rfl _ _ w.heap.size _ _ (0, 0) _ _ rfl rfl (heap_alloc2_old w _ _) rfl Tryd.underlying79 (by kernel_rfl)) rfl ?_
  exact ⟨rfl, alloc2_below' w _ _⟩
set_option maxHeartbeats 4000000 in
set_option maxRecDepth 100000 in
theorem row_43 (w : World) : Calls Tryd.prog 36 #[.int .i64 43] w (RowPost [.bool true, .bool true, .bool false, .bool true, .bool false, .int .i64 1] true w) := by
  go_enter Tryd.func36, Tryd.ntmps36
  go_wp2
  refine bodyPost_ret (results_row_tmp rfl _ _ w.heap.size _ _ (0, 0) _ _ rfl rfl (heap_alloc2_old w _ _) rfl Tryd.underlying79 (by kernel_rfl)) rfl ?_
  exact ⟨rfl, alloc2_below' w _ _⟩
set_option maxHeartbeats 4000000 in
set_option maxRecDepth 100000 in
theorem row_44 (w : World) : Calls Tryd.prog 36 #[.int .i64 44] w (RowPost [.bool true, .bool false, .bool false, .bool false, .bool false, .int .i64 0] true w) := by
  go_enter Tryd.func36, Tryd.ntmps36
  go_wp2
  refine bodyPost_ret (results_row_tmp rfl _ _ w.heap.size _ _ (0, 0) _ _ rfl rfl (heap_alloc2_old w _ _) rfl Tryd.underlying79 (by kernel_rfl)) rfl ?_
  exact ⟨rfl, alloc2_below' w _ _⟩
set_option maxHeartbeats 4000000 in
set_option maxRecDepth 100000 in
theorem row_45 (w : World) : Calls Tryd.prog 36 #[.int .i64 45] w (RowPost [.bool true, .bool true, .bool false, .bool false, .bool false, .int .i64 2] true w) := by
  go_enter Tryd.func36, Tryd.ntmps36
  go_wp2
  refine bodyPost_ret (results_row_tmp rfl _ _ w.heap.size _ _ (0, 0) _ _ rfl rfl (heap_alloc2_old w _ _) rfl Tryd.underlying79 (by kernel_rfl)) rfl ?_
  exact ⟨rfl, alloc2_below' w _ _⟩
set_option maxHeartbeats 4000000 in
set_option maxRecDepth 100000 in
theorem row_46 (w : World) : Calls Tryd.prog 36 #[.int .i64 46] w (RowPost [.bool true, .bool false, .bool false, .bool false, .bool false, .int .i64 0] true w) := by
  go_enter Tryd.func36, Tryd.ntmps36
  go_wp2
  refine bodyPost_ret (results_row_tmp rfl _ _ w.heap.size _ _ (0, 0) _ _ rfl rfl (heap_alloc2_old w _ _) rfl Tryd.underlying79 (by kernel_rfl)) rfl ?_
  exact ⟨rfl, alloc2_below' w _ _⟩
set_option maxHeartbeats 4000000 in
set_option maxRecDepth 100000 in
theorem row_47 (w : World) : Calls Tryd.prog 36 #[.int .i64 47] w (RowPost [.bool true, .bool true, .bool false, .bool false, .bool false, .int .i64 0] true w) := by
  go_enter Tryd.func36, Tryd.ntmps36
  go_wp2
  refine bodyPost_ret (results_row_tmp rfl _ _ w.heap.size _ _ (0, 0) _ _ rfl rfl (heap_alloc2_old w _ _) rfl Tryd.underlying79 (by kernel_rfl)) rfl ?_
  exact ⟨rfl, alloc2_below' w _ _⟩
set_option maxHeartbeats 4000000 in
set_option maxRecDepth 100000 in
theorem row_48 (w : World) : Calls Tryd.prog 36 #[.int .i64 48] w (RowPost [.bool true, .bool true, .bool true, .bool false, .bool false, .int .i64 0] true w) := by
  go_enter Tryd.func36, Tryd.ntmps36
  go_wp2
  refine bodyPost_ret (results_row_tmp rfl _ _ w.heap.size _ _ (0, 0) _ _ rfl rfl (heap_alloc2_old w _ _) rfl Tryd.underlying79 (by kernel_rfl)) rfl ?_
  exact ⟨rfl, alloc2_below' w _ _⟩
set_option maxHeartbeats 4000000 in
set_option maxRecDepth 100000 in
theorem row_49 (w : World) : Calls Tryd.prog 36 #[.int .i64 49] w (RowPost [.bool true, .bool true, .bool false, .bool false, .bool false, .int .i64 0] true w) := by
  go_enter Tryd.func36, Tryd.ntmps36
  go_wp2
  refine bodyPost_ret (results_row_tmp rfl _ _ w.heap.size _ _ (0, 0) _ _ rfl rfl (heap_alloc2_old w _ _) rfl Tryd.underlying79 (by kernel_rfl)) rfl ?_
  exact ⟨rfl, alloc2_below' w _ _⟩
set_option maxHeartbeats 4000000 in
set_option maxRecDepth 100000 in
theorem row_50 (w : World) : Calls Tryd.prog 36 #[.int .i64 50] w (RowPost [.bool true, .bool true, .bool false, .bool false, .bool false, .int .i64 0] true w) := by
  go_enter Tryd.func36, Tryd.ntmps36
  go_wp2
  refine bodyPost_ret (results_row_tmp rfl _ _ w.heap.size _ _ (0, 0) _ _ rfl rfl (heap_alloc2_old w _ _) rfl Tryd.underlying79 (by kernel_rfl)) rfl ?_
  exact ⟨rfl, alloc2_below' w _ _⟩
set_option maxHeartbeats 4000000 in
set_option maxRecDepth 100000 in
theorem row_51 (w : World) : Calls Tryd.prog 36 #[.int .i64 51] w (RowPost [.bool true, .bool false, .bool false, .bool false, .bool false, .int .i64 0] true w) := by
  go_enter Tryd.func36, Tryd.ntmps36
  go_wp2
  refine bodyPost_ret (results_row_tmp rfl _ _ w.heap.size _ _ (0, 0) _ _ rfl rfl (heap_alloc2_old w _ _) rfl Tryd.underlying79 (by kernel_rfl)) rfl ?_
  exact ⟨rfl, alloc2_below' w _ _⟩
set_option maxHeartbeats 4000000 in
set_option maxRecDepth 100000 in
theorem row_52 (w : World) : Calls Tryd.prog 36 #[.int .i64 52] w (RowPost [.bool true, .bool false, .bool false, .bool false, .bool false, .int .i64 0] true w) := by
  go_enter Tryd.func36, Tryd.ntmps36
  go_wp2
  refine bodyPost_ret (results_row_tmp rfl _ _ w.heap.size _ _ (0, 0) _ _ rfl rfl (heap_alloc2_old w _ _) rfl Tryd.underlying79 (by kernel_rfl)) rfl ?_
  exact ⟨rfl, alloc2_below' w _ _⟩
set_option maxHeartbeats 4000000 in
set_option maxRecDepth 100000 in
theorem row_53 (w : World) : Calls Tryd.prog 36 #[.int .i64 53] w (RowPost [.bool true, .bool false, .bool false, .bool false, .bool false, .int .i64 0] true w) := by
  go_enter Tryd.func36, Tryd.ntmps36
  go_wp2
  refine bodyPost_ret (results_row_tmp rfl _ _ w.heap.size _ _ (0, 0) _ _ rfl rfl (heap_alloc2_old w _ _) rfl Tryd.underlying79 (by kernel_rfl)) rfl ?_
  exact ⟨rfl, alloc2_below' w _ _⟩
set_option maxHeartbeats 4000000 in
set_option maxRecDepth 100000 in
theorem row_54 (w : World) : Calls Tryd.prog 36 #[.int .i64 54] w (RowPost [.bool true, .bool true, .bool false, .bool false, .bool false, .int .i64 0] true w) := by
  go_enter Tryd.func36, Tryd.ntmps36
  go_wp2
  refine bodyPost_ret (results_row_tmp rfl _ _ w.heap.size _ _ (0, 0) _ _ rfl rfl (heap_alloc2_old w _ _) rfl Tryd.underlying79 (by kernel_rfl)) rfl ?_
  exact ⟨rfl, alloc2_below' w _ _⟩
set_option maxHeartbeats 4000000 in
set_option maxRecDepth 100000 in
theorem row_55 (w : World) : Calls Tryd.prog 36 #[.int .i64 55] w (RowPost [.bool false, .bool false, .bool false, .bool false, .bool false, .int .i64 0] true w) := by
  go_enter Tryd.func36, Tryd.ntmps36
  go_wp2
  refine bodyPost_ret (results_row_tmp rfl _ _ w.heap.size _ _ (0, 0) _ _ rfl rfl (heap_alloc2_old w _ _) rfl Tryd.underlying79 (by kernel_rfl)) rfl ?_
  exact ⟨rfl, alloc2_below' w _ _⟩
set_option maxHeartbeats 4000000 in
set_option maxRecDepth 100000 in
theorem row_56 (w : World) : Calls Tryd.prog 36 #[.int .i64 56] w (RowPost [.bool false, .bool false, .bool false, .bool false, .bool false, .int .i64 0] true w) := by
  go_enter Tryd.func36, Tryd.ntmps36
  go_wp2
  refine bodyPost_ret (results_row_tmp rfl _ _ w.heap.size _ _ (0, 0) _ _ rfl rfl (heap_alloc2_old w _ _) rfl Tryd.underlying79 (by kernel_rfl)) rfl ?_
  exact ⟨rfl, alloc2_below' w _ _⟩
set_option maxHeartbeats 4000000 in
set_option maxRecDepth 100000 in
theorem row_57 (w : World) : Calls Tryd.prog 36 #[.int .i64 57] w (RowPost [.bool true, .bool false, .bool false, .bool false, .bool false, .int .i64 0] true w) := by
  go_enter Tryd.func36, Tryd.ntmps36
  go_wp2
  refine bodyPost_ret (results_row_tmp rfl _ _ w.heap.size _ _ (0, 0) _ _ rfl rfl (heap_alloc2_old w _ _) rfl Tryd.underlying79 (by kernel_rfl)) rfl ?_
  exact ⟨rfl, alloc2_below' w _ _⟩
set_option maxHeartbeats 4000000 in
set_option maxRecDepth 100000 in
theorem row_58 (w : World) : Calls Tryd.prog 36 #[.int .i64 58] w (RowPost [.bool false, .bool false, .bool false, .bool false, .bool false, .int .i64 0] true w) := by
  go_enter Tryd.func36, Tryd.ntmps36
  go_wp2
  refine bodyPost_ret (results_row_tmp rfl _ _ w.heap.size _ _ (0, 0) _ _ rfl rfl (heap_alloc2_old w _ _) rfl Tryd.underlying79 (by kernel_rfl)) rfl ?_
  exact ⟨rfl, alloc2_below' w _ _⟩
end Go.Proofs.YtncgkhgjclodaaaDoor
