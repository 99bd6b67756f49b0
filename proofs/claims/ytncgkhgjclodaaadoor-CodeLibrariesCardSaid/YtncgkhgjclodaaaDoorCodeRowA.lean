/- The program's row of an operation (layer 4): the contract of rowOf at the operations 1 to 20. -/
import Derived.Test.YtncgkhgjclodaaaDoorCodeRow0
namespace Go.Proofs.YtncgkhgjclodaaaDoor
open Go.RowKit
set_option linter.unusedVariables false

set_option maxHeartbeats 4000000 in
set_option maxRecDepth 100000 in
theorem row_1 (w : World) : Calls Tryd.prog 36 #[.int .i64 1] w (RowPost [.bool true, .bool false, .bool false, .bool false, .bool false, .int .i64 2] true w) := by
  go_enter Tryd.func36, Tryd.ntmps36
  go_wp2
  refine bodyPost_ret (results_row_tmp rfl _ _ w.heap.size _ _ (0, 0) _ _ rfl rfl (heap_alloc2_old w _ _) rfl Tryd.underlying79 (by kernel_rfl)) rfl ?_
  exact ⟨rfl, alloc2_below' w _ _⟩
set_option maxHeartbeats 4000000 in
set_option maxRecDepth 100000 in
theorem row_2 (w : World) : Calls Tryd.prog 36 #[.int .i64 2] w (RowPost [.bool true, .bool true, .bool false, .bool false, .bool false, .int .i64 0] true w) := by
  go_enter Tryd.func36, Tryd.ntmps36
  go_wp2
  refine bodyPost_ret (results_row_tmp rfl _ _ w.heap.size _ _ (0, 0) _ _ rfl rfl (heap_alloc2_old w _ _) rfl Tryd.underlying79 (by kernel_rfl)) rfl ?_
  exact ⟨rfl, alloc2_below' w _ _⟩
set_option maxHeartbeats 4000000 in
set_option maxRecDepth 100000 in
theorem row_3 (w : World) : Calls Tryd.prog 36 #[.int .i64 3] w (RowPost [.bool true, .bool true, .bool true, .bool false, .bool true, .int .i64 1] true w) := by
  go_enter Tryd.func36, Tryd.ntmps36
  go_wp2
  refine bodyPost_ret (results_row_tmp rfl _ _ w.heap.size _ _ (0, 0) _ _ rfl rfl (heap_alloc2_old w _ _) rfl Tryd.underlying79 (by kernel_rfl)) rfl ?_
  exact ⟨rfl, alloc2_below' w _ _⟩
set_option maxHeartbeats 4000000 in
set_option maxRecDepth 100000 in
theorem row_4 (w : World) : Calls Tryd.prog 36 #[.int .i64 4] w (RowPost [.bool true, .bool true, .bool true, .bool false, .bool true, .int .i64 1] true w) := by
  go_enter Tryd.func36, Tryd.ntmps36
  go_wp2
  refine bodyPost_ret (results_row_tmp rfl _ _ w.heap.size _ _ (0, 0) _ _ rfl rfl (heap_alloc2_old w _ _) rfl Tryd.underlying79 (by kernel_rfl)) rfl ?_
  exact ⟨rfl, alloc2_below' w _ _⟩
set_option maxHeartbeats 4000000 in
set_option maxRecDepth 100000 in
theorem row_5 (w : World) : Calls Tryd.prog 36 #[.int .i64 5] w (RowPost [.bool true, .bool true, .bool true, .bool false, .bool true, .int .i64 1] true w) := by
  go_enter Tryd.func36, Tryd.ntmps36
  go_wp2
  refine bodyPost_ret (results_row_tmp rfl _ _ w.heap.size _ _ (0, 0) _ _ rfl rfl (heap_alloc2_old w _ _) rfl Tryd.underlying79 (by kernel_rfl)) rfl ?_
  exact ⟨rfl, alloc2_below' w _ _⟩
set_option maxHeartbeats 4000000 in
set_option maxRecDepth 100000 in
theorem row_6 (w : World) : Calls Tryd.prog 36 #[.int .i64 6] w (RowPost [.bool true, .bool true, .bool true, .bool false, .bool true, .int .i64 1] true w) := by
  go_enter Tryd.func36, Tryd.ntmps36
  go_wp2
  refine bodyPost_ret (results_row_tmp rfl _ _ w.heap.size _ _ (0, 0) _ _ rfl rfl (heap_alloc2_old w _ _) rfl Tryd.underlying79 (by kernel_rfl)) rfl ?_
  exact ⟨rfl, alloc2_below' w _ _⟩
set_option maxHeartbeats 4000000 in
set_option maxRecDepth 100000 in
theorem row_7 (w : World) : Calls Tryd.prog 36 #[.int .i64 7] w (RowPost [.bool true, .bool true, .bool true, .bool false, .bool true, .int .i64 1] true w) := by
  go_enter Tryd.func36, Tryd.ntmps36
  go_wp2
  refine bodyPost_ret (results_row_tmp rfl _ _ w.heap.size _ _ (0, 0) _ _ rfl rfl (heap_alloc2_old w _ _) rfl Tryd.underlying79 (by kernel_rfl)) rfl ?_
  exact ⟨rfl, alloc2_below' w _ _⟩
set_option maxHeartbeats 4000000 in
set_option maxRecDepth 100000 in
theorem row_8 (w : World) : Calls Tryd.prog 36 #[.int .i64 8] w (RowPost [.bool true, .bool true, .bool true, .bool false, .bool true, .int .i64 1] true w) := by
  go_enter Tryd.func36, Tryd.ntmps36
  go_wp2
  refine bodyPost_ret (results_row_tmp rfl _ _ w.heap.size _ _ (0, 0) _ _ rfl rfl (heap_alloc2_old w _ _) rfl Tryd.underlying79 (by kernel_rfl)) rfl ?_
  exact ⟨rfl, alloc2_below' w _ _⟩
set_option maxHeartbeats 4000000 in
set_option maxRecDepth 100000 in
theorem row_9 (w : World) : Calls Tryd.prog 36 #[.int .i64 9] w (RowPost [.bool true, .bool true, .bool true, .bool false, .bool true, .int .i64 1] true w) := by
  go_enter Tryd.func36, Tryd.ntmps36
  go_wp2
  refine bodyPost_ret (results_row_tmp rfl _ _ w.heap.size _ _ (0, 0) _ _ rfl rfl (heap_alloc2_old w _ _) rfl Tryd.underlying79 (by kernel_rfl)) rfl ?_
  exact ⟨rfl, alloc2_below' w _ _⟩
set_option maxHeartbeats 4000000 in
set_option maxRecDepth 100000 in
theorem row_10 (w : World) : Calls Tryd.prog 36 #[.int .i64 10] w (RowPost [.bool true, .bool true, .bool true, .bool false, .bool true, .int .i64 1] true w) := by
  go_enter Tryd.func36, Tryd.ntmps36
  go_wp2
  refine bodyPost_ret (results_row_tmp rfl _ _ w.heap.size _ _ (0, 0) _ _ rfl rfl (heap_alloc2_old w _ _) rfl Tryd.underlying79 (by kernel_rfl)) rfl ?_
  exact ⟨rfl, alloc2_below' w _ _⟩
set_option maxHeartbeats 4000000 in
set_option maxRecDepth 100000 in
theorem row_11 (w : World) : Calls Tryd.prog 36 #[.int .i64 11] w (RowPost [.bool true, .bool true, .bool true, .bool false, .bool true, .int .i64 1] true w) := by
  go_enter Tryd.func36, Tryd.ntmps36
  go_wp2
  refine bodyPost_ret (results_row_tmp rfl _ _ w.heap.size _ _ (0, 0) _ _ rfl rfl (heap_alloc2_old w _ _) rfl Tryd.underlying79 (by kernel_rfl)) rfl ?_
  exact ⟨rfl, alloc2_below' w _ _⟩
set_option maxHeartbeats 4000000 in
set_option maxRecDepth 100000 in
theorem row_12 (w : World) : Calls Tryd.prog 36 #[.int .i64 12] w (RowPost [.bool false, .bool false, .bool false, .bool false, .bool false, .int .i64 3] true w) := by
  go_enter Tryd.func36, Tryd.ntmps36
  go_wp2
  refine bodyPost_ret (results_row_tmp rfl _ _ w.heap.size _ _ (0, 0) _ _ rfl rfl (heap_alloc2_old w _ _) rfl Tryd.underlying79 (by kernel_rfl)) rfl ?_
  exact ⟨rfl, alloc2_below' w _ _⟩
set_option maxHeartbeats 4000000 in
set_option maxRecDepth 100000 in
theorem row_13 (w : World) : Calls Tryd.prog 36 #[.int .i64 13] w (RowPost [.bool true, .bool false, .bool false, .bool false, .bool false, .int .i64 3] true w) := by
  go_enter Tryd.func36, Tryd.ntmps36
  go_wp2
  refine bodyPost_ret (results_row_tmp rfl _ _ w.heap.size _ _ (0, 0) _ _ rfl rfl (heap_alloc2_old w _ _) rfl Tryd.underlying79 (by kernel_rfl)) rfl ?_
  exact ⟨rfl, alloc2_below' w _ _⟩
set_option maxHeartbeats 4000000 in
set_option maxRecDepth 100000 in
theorem row_14 (w : World) : Calls Tryd.prog 36 #[.int .i64 14] w (RowPost [.bool true, .bool false, .bool false, .bool false, .bool false, .int .i64 3] true w) := by
  go_enter Tryd.func36, Tryd.ntmps36
  go_wp2
  refine bodyPost_ret (results_row_tmp rfl _ _ w.heap.size _ _ (0, 0) _ _ rfl rfl (heap_alloc2_old w _ _) rfl Tryd.underlying79 (by kernel_rfl)) rfl ?_
  exact ⟨rfl, alloc2_below' w _ _⟩
set_option maxHeartbeats 4000000 in
set_option maxRecDepth 100000 in
theorem row_15 (w : World) : Calls Tryd.prog 36 #[.int .i64 15] w (RowPost [.bool false, .bool false, .bool false, .bool false, .bool false, .int .i64 3] true w) := by
  go_enter Tryd.func36, Tryd.ntmps36
  go_wp2
  refine bodyPost_ret (results_row_tmp rfl _ _ w.heap.size _ _ (0, 0) _ _ rfl rfl (heap_alloc2_old w _ _) rfl Tryd.underlying79 (by kernel_rfl)) rfl ?_
  exact ⟨rfl, alloc2_below' w _ _⟩
set_option maxHeartbeats 4000000 in
set_option maxRecDepth 100000 in
theorem row_16 (w : World) : Calls Tryd.prog 36 #[.int .i64 16] w (RowPost [.bool false, .bool false, .bool false, .bool false, .bool false, .int .i64 0] true w) := by
  go_enter Tryd.func36, Tryd.ntmps36
  go_wp2
  refine bodyPost_ret (results_row_tmp rfl _ _ w.heap.size _ _ (0, 0) _ _ rfl rfl (heap_alloc2_old w _ _) rfl Tryd.underlying79 (by kernel_rfl)) rfl ?_
  exact ⟨rfl, alloc2_below' w _ _⟩
set_option maxHeartbeats 4000000 in
set_option maxRecDepth 100000 in
theorem row_17 (w : World) : Calls Tryd.prog 36 #[.int .i64 17] w (RowPost [.bool true, .bool true, .bool false, .bool true, .bool false, .int .i64 2] true w) := by
  go_enter Tryd.func36, Tryd.ntmps36
  go_wp2
  refine bodyPost_ret (results_row_tmp rfl _ _ w.heap.size _ _ (0, 0) _ _ rfl rfl (heap_alloc2_old w _ _) rfl Tryd.underlying79 (by kernel_rfl)) rfl ?_
  exact ⟨rfl, alloc2_below' w _ _⟩
set_option maxHeartbeats 4000000 in
set_option maxRecDepth 100000 in
theorem row_18 (w : World) : Calls Tryd.prog 36 #[.int .i64 18] w (RowPost [.bool true, .bool true, .bool false, .bool true, .bool false, .int .i64 2] true w) := by
  go_enter Tryd.func36, Tryd.ntmps36
  go_wp2
  refine bodyPost_ret (results_row_tmp rfl _ _ w.heap.size _ _ (0, 0) _ _ rfl rfl (heap_alloc2_old w _ _) rfl Tryd.underlying79 (by kernel_rfl)) rfl ?_
  exact ⟨rfl, alloc2_below' w _ _⟩
set_option maxHeartbeats 4000000 in
set_option maxRecDepth 100000 in
theorem row_19 (w : World) : Calls Tryd.prog 36 #[.int .i64 19] w (RowPost [.bool true, .bool true, .bool false, .bool true, .bool false, .int .i64 2] true w) := by
  go_enter Tryd.func36, Tryd.ntmps36
  go_wp2
  refine bodyPost_ret (results_row_tmp rfl _ _ w.heap.size _ _ (0, 0) _ _ rfl rfl (heap_alloc2_old w _ _) rfl Tryd.underlying79 (by kernel_rfl)) rfl ?_
  exact ⟨rfl, alloc2_below' w _ _⟩
set_option maxHeartbeats 4000000 in
set_option maxRecDepth 100000 in
theorem row_20 (w : World) : Calls Tryd.prog 36 #[.int .i64 20] w (RowPost [.bool true, .bool true, .bool false, .bool true, .bool false, .int .i64 2] true w) := by
  go_enter Tryd.func36, Tryd.ntmps36
  go_wp2
  refine bodyPost_ret (results_row_tmp rfl _ _ w.heap.size _ _ (0, 0) _ _ rfl rfl (heap_alloc2_old w _ _) rfl Tryd.underlying79 (by kernel_rfl)) rfl ?_
  exact ⟨rfl, alloc2_below' w _ _⟩
end Go.Proofs.YtncgkhgjclodaaaDoor
