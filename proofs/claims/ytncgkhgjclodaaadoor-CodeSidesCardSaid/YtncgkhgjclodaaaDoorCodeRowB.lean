/- The program's row of an operation (layer 4): the contract of rowOf at the operations 21 to 39. -/
import Derived.Test.YtncgkhgjclodaaaDoorCodeRow0
namespace Go.Proofs.YtncgkhgjclodaaaDoor
open Go.RowKit
set_option linter.unusedVariables false

set_option maxHeartbeats 4000000 in
set_option maxRecDepth 100000 in
theorem row_21 (w : World) : Calls Tryd.prog 36 #[.int .i64 21] w (RowPost [.bool true, .bool true, .bool true, .bool true, .bool false, .int .i64 2] true w) := by
  go_enter Tryd.func36, Tryd.ntmps36
  go_wp2
  refine bodyPost_ret (results_row_tmp rfl _ _ w.heap.size _ _ (0, 0) _ _ rfl rfl (heap_alloc2_old w _ _) rfl Tryd.underlying79 (by kernel_rfl)) rfl ?_
  exact ⟨rfl, alloc2_below' w _ _⟩
set_option maxHeartbeats 4000000 in
set_option maxRecDepth 100000 in
theorem row_22 (w : World) : Calls Tryd.prog 36 #[.int .i64 22] w (RowPost [.bool false, .bool false, .bool false, .bool false, .bool false, .int .i64 4] true w) := by
  go_enter Tryd.func36, Tryd.ntmps36
  go_wp2
  refine bodyPost_ret (results_row_tmp rfl _ _ w.heap.size _ _ (0, 0) _ _ rfl rfl (heap_alloc2_old w _ _) rfl Tryd.underlying79 (by kernel_rfl)) rfl ?_
  exact ⟨rfl, alloc2_below' w _ _⟩
set_option maxHeartbeats 4000000 in
set_option maxRecDepth 100000 in
theorem row_23 (w : World) : Calls Tryd.prog 36 #[.int .i64 23] w (RowPost [.bool true, .bool true, .bool false, .bool false, .bool false, .int .i64 0] true w) := by
  go_enter Tryd.func36, Tryd.ntmps36
  go_wp2
  refine bodyPost_ret (results_row_tmp rfl _ _ w.heap.size _ _ (0, 0) _ _ rfl rfl (heap_alloc2_old w _ _) rfl Tryd.underlying79 (by kernel_rfl)) rfl ?_
  exact ⟨rfl, alloc2_below' w _ _⟩
set_option maxHeartbeats 4000000 in
set_option maxRecDepth 100000 in
theorem row_24 (w : World) : Calls Tryd.prog 36 #[.int .i64 24] w (RowPost [.bool true, .bool true, .bool true, .bool false, .bool false, .int .i64 0] true w) := by
  go_enter Tryd.func36, Tryd.ntmps36
  go_wp2
  refine bodyPost_ret (results_row_tmp rfl _ _ w.heap.size _ _ (0, 0) _ _ rfl rfl (heap_alloc2_old w _ _) rfl Tryd.underlying79 (by kernel_rfl)) rfl ?_
  exact ⟨rfl, alloc2_below' w _ _⟩
set_option maxHeartbeats 4000000 in
set_option maxRecDepth 100000 in
theorem row_25 (w : World) : Calls Tryd.prog 36 #[.int .i64 25] w (RowPost [.bool true, .bool true, .bool true, .bool false, .bool false, .int .i64 0] true w) := by
  go_enter Tryd.func36, Tryd.ntmps36
  go_wp2
  refine bodyPost_ret (results_row_tmp rfl _ _ w.heap.size _ _ (0, 0) _ _ rfl rfl (heap_alloc2_old w _ _) rfl Tryd.underlying79 (by kernel_rfl)) rfl ?_
  exact ⟨rfl, alloc2_below' w _ _⟩
set_option maxHeartbeats 4000000 in
set_option maxRecDepth 100000 in
theorem row_26 (w : World) : Calls Tryd.prog 36 #[.int .i64 26] w (RowPost [.bool true, .bool true, .bool true, .bool false, .bool false, .int .i64 0] true w) := by
  go_enter Tryd.func36, Tryd.ntmps36
  go_wp2
  refine bodyPost_ret (results_row_tmp rfl _ _ w.heap.size _ _ (0, 0) _ _ rfl rfl (heap_alloc2_old w _ _) rfl Tryd.underlying79 (by kernel_rfl)) rfl ?_
  exact ⟨rfl, alloc2_below' w _ _⟩
set_option maxHeartbeats 4000000 in
set_option maxRecDepth 100000 in
theorem row_27 (w : World) : Calls Tryd.prog 36 #[.int .i64 27] w (RowPost [.bool true, .bool true, .bool true, .bool false, .bool false, .int .i64 0] true w) := by
  go_enter Tryd.func36, Tryd.ntmps36
  go_wp2
  refine bodyPost_ret (results_row_tmp rfl _ _ w.heap.size _ _ (0, 0) _ _ rfl rfl (heap_alloc2_old w _ _) rfl Tryd.underlying79 (by kernel_rfl)) rfl ?_
  exact ⟨rfl, alloc2_below' w _ _⟩
set_option maxHeartbeats 4000000 in
set_option maxRecDepth 100000 in
theorem row_28 (w : World) : Calls Tryd.prog 36 #[.int .i64 28] w (RowPost [.bool true, .bool false, .bool false, .bool false, .bool false, .int .i64 0] true w) := by
  go_enter Tryd.func36, Tryd.ntmps36
  go_wp2
  refine bodyPost_ret (results_row_tmp rfl _ _ w.heap.size _ _ (0, 0) _ _ rfl rfl (heap_alloc2_old w _ _) rfl Tryd.underlying79 (by kernel_rfl)) rfl ?_
  exact ⟨rfl, alloc2_below' w _ _⟩
set_option maxHeartbeats 4000000 in
set_option maxRecDepth 100000 in
theorem row_29 (w : World) : Calls Tryd.prog 36 #[.int .i64 29] w (RowPost [.bool true, .bool false, .bool false, .bool false, .bool false, .int .i64 0] true w) := by
  go_enter Tryd.func36, Tryd.ntmps36
  go_wp2
  refine bodyPost_ret (results_row_tmp rfl _ _ w.heap.size _ _ (0, 0) _ _ rfl rfl (heap_alloc2_old w _ _) rfl Tryd.underlying79 (by kernel_rfl)) rfl ?_
  exact ⟨rfl, alloc2_below' w _ _⟩
set_option maxHeartbeats 4000000 in
set_option maxRecDepth 100000 in
theorem row_30 (w : World) : Calls Tryd.prog 36 #[.int .i64 30] w (RowPost [.bool true, .bool false, .bool false, .bool false, .bool false, .int .i64 0] true w) := by
  go_enter Tryd.func36, Tryd.ntmps36
  go_wp2
  refine bodyPost_ret (results_row_tmp rfl _ _ w.heap.size _ _ (0, 0) _ _ rfl rfl (heap_alloc2_old w _ _) rfl Tryd.underlying79 (by kernel_rfl)) rfl ?_
  exact ⟨rfl, alloc2_below' w _ _⟩
set_option maxHeartbeats 4000000 in
set_option maxRecDepth 100000 in
theorem row_31 (w : World) : Calls Tryd.prog 36 #[.int .i64 31] w (RowPost [.bool true, .bool true, .bool false, .bool true, .bool false, .int .i64 2] true w) := by
  go_enter Tryd.func36, Tryd.ntmps36
  go_wp2
  refine bodyPost_ret (results_row_tmp rfl _ _ w.heap.size _ _ (0, 0) _ _ rfl rfl (heap_alloc2_old w _ _) rfl Tryd.underlying79 (by kernel_rfl)) rfl ?_
  exact ⟨rfl, alloc2_below' w _ _⟩
set_option maxHeartbeats 4000000 in
set_option maxRecDepth 100000 in
theorem row_32 (w : World) : Calls Tryd.prog 36 #[.int .i64 32] w (RowPost [.bool true, .bool true, .bool true, .bool true, .bool false, .int .i64 2] true w) := by
  go_enter Tryd.func36, Tryd.ntmps36
  go_wp2
  refine bodyPost_ret (results_row_tmp rfl _ _ w.heap.size _ _ (0, 0) _ _ rfl rfl (heap_alloc2_old w _ _) rfl Tryd.underlying79 (by kernel_rfl)) rfl ?_
  exact ⟨rfl, alloc2_below' w _ _⟩
set_option maxHeartbeats 4000000 in
set_option maxRecDepth 100000 in
theorem row_33 (w : World) : Calls Tryd.prog 36 #[.int .i64 33] w (RowPost [.bool false, .bool false, .bool false, .bool false, .bool false, .int .i64 0] true w) := by
  go_enter Tryd.func36, Tryd.ntmps36
  go_wp2
  refine bodyPost_ret (results_row_tmp rfl _ _ w.heap.size _ _ (0, 0) _ _ rfl rfl (heap_alloc2_old w _ _) rfl Tryd.underlying79 (by kernel_rfl)) rfl ?_
  exact ⟨rfl, alloc2_below' w _ _⟩
set_option maxHeartbeats 4000000 in
set_option maxRecDepth 100000 in
theorem row_34 (w : World) : Calls Tryd.prog 36 #[.int .i64 34] w (RowPost [.bool true, .bool false, .bool false, .bool false, .bool false, .int .i64 0] true w) := by
  go_enter Tryd.func36, Tryd.ntmps36
  go_wp2
  refine bodyPost_ret (results_row_tmp rfl _ _ w.heap.size _ _ (0, 0) _ _ rfl rfl (heap_alloc2_old w _ _) rfl Tryd.underlying79 (by kernel_rfl)) rfl ?_
  exact ⟨rfl, alloc2_below' w _ _⟩
set_option maxHeartbeats 4000000 in
set_option maxRecDepth 100000 in
theorem row_35 (w : World) : Calls Tryd.prog 36 #[.int .i64 35] w (RowPost [.bool true, .bool false, .bool false, .bool false, .bool false, .int .i64 0] true w) := by
  go_enter Tryd.func36, Tryd.ntmps36
  go_wp2
  refine bodyPost_ret (results_row_tmp rfl _ _ w.heap.size _ _ (0, 0) _ _ rfl rfl (heap_alloc2_old w _ _) rfl Tryd.underlying79 (by kernel_rfl)) rfl ?_
  exact ⟨rfl, alloc2_below' w _ _⟩
set_option maxHeartbeats 4000000 in
set_option maxRecDepth 100000 in
theorem row_36 (w : World) : Calls Tryd.prog 36 #[.int .i64 36] w (RowPost [.bool true, .bool false, .bool false, .bool false, .bool false, .int .i64 0] true w) := by
  go_enter Tryd.func36, Tryd.ntmps36
  go_wp2
  refine bodyPost_ret (results_row_tmp rfl _ _ w.heap.size _ _ (0, 0) _ _ rfl rfl (heap_alloc2_old w _ _) rfl Tryd.underlying79 (by kernel_rfl)) rfl ?_
  exact ⟨rfl, alloc2_below' w _ _⟩
set_option maxHeartbeats 4000000 in
set_option maxRecDepth 100000 in
theorem row_37 (w : World) : Calls Tryd.prog 36 #[.int .i64 37] w (RowPost [.bool true, .bool false, .bool false, .bool false, .bool false, .int .i64 0] true w) := by
  go_enter Tryd.func36, Tryd.ntmps36
  go_wp2
  refine bodyPost_ret (results_row_tmp rfl _ _ w.heap.size _ _ (0, 0) _ _ rfl rfl (heap_alloc2_old w _ _) rfl Tryd.underlying79 (by kernel_rfl)) rfl ?_
  exact ⟨rfl, alloc2_below' w _ _⟩
set_option maxHeartbeats 4000000 in
set_option maxRecDepth 100000 in
theorem row_38 (w : World) : Calls Tryd.prog 36 #[.int .i64 38] w (RowPost [.bool true, .bool false, .bool false, .bool false, .bool false, .int .i64 0] true w) := by
  go_enter Tryd.func36, Tryd.ntmps36
  go_wp2
  refine bodyPost_ret (results_row_tmp rfl _ _ w.heap.size _ _ (0, 0) _ _ rfl rfl (heap_alloc2_old w _ _) rfl Tryd.underlying79 (by kernel_rfl)) rfl ?_
  exact ⟨rfl, alloc2_below' w _ _⟩
set_option maxHeartbeats 4000000 in
set_option maxRecDepth 100000 in
theorem row_39 (w : World) : Calls Tryd.prog 36 #[.int .i64 39] w (RowPost [.bool true, .bool true, .bool false, .bool false, .bool false, .int .i64 0] true w) := by
  go_enter Tryd.func36, Tryd.ntmps36
  go_wp2
  refine bodyPost_ret (results_row_tmp rfl _ _ w.heap.size _ _ (0, 0) _ _ rfl rfl (heap_alloc2_old w _ _) rfl Tryd.underlying79 (by kernel_rfl)) rfl ?_
  exact ⟨rfl, alloc2_below' w _ _⟩
end Go.Proofs.YtncgkhgjclodaaaDoor
