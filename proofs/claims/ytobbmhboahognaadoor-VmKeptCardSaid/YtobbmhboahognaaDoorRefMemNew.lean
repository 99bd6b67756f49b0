/- The document's memory (layer 2): the contract of New: an error, or a new memory of that many cells, none of which is there. -/
import Derived.Test.YtobbmhboahognaaDoorRefMemMap
import Derived.Deep.OwnRows
namespace Go.Proofs.YtobbmhboahognaaDoor
open Go.RowKit
set_option linter.unusedVariables false

/-- What New leaves. -/
def RefNewPost (c : Nat) (w : World) (e : Ending) (w' : World) : Prop := ∃ b bw bh : Nat, e = .returned (.tuple #[.pointer (some ⟨b, 0, none⟩), .pointer none]) ∧
  RefMem w' b bw bh { ws := List.replicate c 0, hs := List.replicate c 0, n := 0 } ∧ Below w.heap.size w w' ∧ w.heap.size ≤ b ∧ w.heap.size ≤ bw ∧ w.heap.size ≤ bh

theorem repI (c : Nat) : List.replicate c (Value.int .i64 0) = (List.replicate c (0 : Int)).map (Value.int .i64) := by simp
theorem repU (c : Nat) : List.replicate c (Value.int .u64 0) = (List.replicate c (0 : Int)).map (Value.int .u64) := by simp
theorem newA (w : World) (c : Nat) (A1 A2 : List Value) (e1 : A1 = List.replicate c (Value.int .i64 0)) (e2 : A2 = List.replicate c (Value.int .u64 0)) :
    RefNewPost c w (.returned (.tuple #[.pointer (some ⟨w.heap.size + 1 + 1, 0, none⟩), .pointer none]))
      (((w.alloc (.cells A1.toArray 3)).alloc (.cells A2.toArray 47)).alloc (.cells #[.slice (some ⟨w.heap.size, 0, none⟩) c c, .slice (some ⟨w.heap.size + 1, 0, none⟩) c c, .int .i64 0] 114)).drew := by
  subst e1 e2
  have r1 := Row.new w (List.replicate c (Value.int .i64 0)) 3
  have r2 := Row.new (w.alloc (.cells (List.replicate c (Value.int .i64 0)).toArray 3)) (List.replicate c (Value.int .u64 0)) 47
  have r3 := Row.new ((w.alloc (.cells (List.replicate c (Value.int .i64 0)).toArray 3)).alloc (.cells (List.replicate c (Value.int .u64 0)).toArray 47)) [.slice (some ⟨w.heap.size, 0, none⟩) c c, .slice (some ⟨w.heap.size + 1, 0, none⟩) c c, .int .i64 0] 114
  simp only [World.size_alloc] at r2 r3
  refine ⟨w.heap.size + 1 + 1, w.heap.size, w.heap.size + 1, rfl, ⟨?_, ?_, ?_, by simp, by omega, by omega, by omega⟩, ?_, by omega, by omega, by omega⟩
  · simpa using r3.drew
  · have := ((r1.alloc (.cells (List.replicate c (Value.int .u64 0)).toArray 47)).alloc (.cells #[.slice (some ⟨w.heap.size, 0, none⟩) c c, .slice (some ⟨w.heap.size + 1, 0, none⟩) c c, .int .i64 0] 114)).drew
    rw [repI] at this ⊢; exact this
  · have := (r2.alloc (.cells #[.slice (some ⟨w.heap.size, 0, none⟩) c c, .slice (some ⟨w.heap.size + 1, 0, none⟩) c c, .int .i64 0] 114)).drew
    rw [repU] at this ⊢; exact this
  · exact ((((Below.refl _ _).alloc (Nat.le_refl _) _).alloc (by simp) _).alloc (by simp; omega) _).drew
theorem newB (w : World) (c : Nat) (A1 A2 : List Value) (e1 : A1 = List.replicate c (Value.int .i64 0)) (e2 : A2 = List.replicate c (Value.int .u64 0)) :
    RefNewPost c w (.returned (.tuple #[.pointer (some ⟨w.heap.size + 1 + 1, 0, none⟩), .pointer none]))
      (((w.alloc (.cells A2.toArray 47)).alloc (.cells A1.toArray 3)).alloc (.cells #[.slice (some ⟨w.heap.size + 1, 0, none⟩) c c, .slice (some ⟨w.heap.size, 0, none⟩) c c, .int .i64 0] 114)).drew := by
  subst e1 e2
  have r1 := Row.new w (List.replicate c (Value.int .u64 0)) 47
  have r2 := Row.new (w.alloc (.cells (List.replicate c (Value.int .u64 0)).toArray 47)) (List.replicate c (Value.int .i64 0)) 3
  have r3 := Row.new ((w.alloc (.cells (List.replicate c (Value.int .u64 0)).toArray 47)).alloc (.cells (List.replicate c (Value.int .i64 0)).toArray 3)) [.slice (some ⟨w.heap.size + 1, 0, none⟩) c c, .slice (some ⟨w.heap.size, 0, none⟩) c c, .int .i64 0] 114
  simp only [World.size_alloc] at r2 r3
  refine ⟨w.heap.size + 1 + 1, w.heap.size + 1, w.heap.size, rfl, ⟨?_, ?_, ?_, by simp, by omega, by omega, by omega⟩, ?_, by omega, by omega, by omega⟩
  · simpa using r3.drew
  · have := (r2.alloc (.cells #[.slice (some ⟨w.heap.size + 1, 0, none⟩) c c, .slice (some ⟨w.heap.size, 0, none⟩) c c, .int .i64 0] 114)).drew
    rw [repI] at this ⊢; exact this
  · have := ((r1.alloc (.cells (List.replicate c (Value.int .i64 0)).toArray 3)).alloc (.cells #[.slice (some ⟨w.heap.size + 1, 0, none⟩) c c, .slice (some ⟨w.heap.size, 0, none⟩) c c, .int .i64 0] 114)).drew
    rw [repU] at this ⊢; exact this
  · exact ((((Below.refl _ _).alloc (Nat.le_refl _) _).alloc (by simp) _).alloc (by simp; omega) _).drew

set_option maxHeartbeats 1000000 in
set_option maxRecDepth 100000 in
theorem refNew (c : Nat) (h1 : 1 ≤ c) (h2 : c ≤ 65536) (w : World) :
    Calls Tryd.prog 35 #[.int .i64 c] w (RefNewPost c w) := by
  have m1 : ∀ W, (Instr.makeSlice 24 (.int .i64 (c : Int)) (.int .i64 (c : Int))).run Tryd.prog W = .ok (.slice (some ⟨W.heap.size, 0, none⟩) c c) (W.alloc (.cells (madeCells #[.int .i64 0] c) 3)) := fun W =>
    run_make_row' 24 3 (.int .i64 0) 8 Tryd.underlying24 (by kernel_rfl) rfl .i64 .i64 c (by omega) (by omega) W
  have m2 : ∀ W, (Instr.makeSlice 23 (.int .i64 (c : Int)) (.int .i64 (c : Int))).run Tryd.prog W = .ok (.slice (some ⟨W.heap.size, 0, none⟩) c c) (W.alloc (.cells (madeCells #[.int .u64 0] c) 47)) := fun W =>
    run_make_row' 23 47 (.int .u64 0) 8 Tryd.underlying23 (by kernel_rfl) rfl .i64 .i64 c (by omega) (by omega) W
  rw [made_toArray] at m1 m2
  obtain ⟨A1, e1⟩ : ∃ A1, A1 = List.replicate c (Value.int .i64 0) := ⟨_, rfl⟩
  obtain ⟨A2, e2⟩ : ∃ A2, A2 = List.replicate c (Value.int .u64 0) := ⟨_, rfl⟩
  rw [← e1] at m1
  rw [← e2] at m2
  have E1 := Lib.hid e1
  have E2 := Lib.hid e2
  clear e1 e2
  go_enter Tryd.func35, Tryd.ntmps35
  go_wp2
  go_region
  all_goals go_wp2
  all_goals go_ret2
  all_goals first | exact newA w c _ _ E1.out E2.out | exact newB w c _ _ E1.out E2.out

set_option maxHeartbeats 1000000 in
set_option maxRecDepth 100000 in
theorem refNewBad (c : Int) (h : c < 1 ∨ 65536 < c) (w : World) :
    Calls Tryd.prog 35 #[.int .i64 c] w fun e w' => e = .returned (.tuple #[.pointer none, .pointer (some ⟨w.heap.size + 1 + 1, 0, none⟩)]) ∧
      w' = ((w.alloc (.cells #[.string memS] 9)).alloc (.cells #[.int .i64 0] 3)).alloc (.cells #[.slice (some ⟨w.heap.size, 0, none⟩) 1 1, .slice (some ⟨w.heap.size + 1, 0, none⟩) 1 1, .int .i64 1] 107) := by
  have NN := Lib.hid (fun W => no_any memS 0 1 W)
  by_cases h1 : c < 1
  · clear h
    go_enter Tryd.func35, Tryd.ntmps35
    go_wp2_with (first | (go_at_call 18; refine (NN.out _).mono ?_; rintro e w' ⟨rfl, rfl⟩))
    go_ret2
    exact ⟨rfl, rfl⟩
  · have h2 : 65536 < c := by omega
    clear h
    go_enter Tryd.func35, Tryd.ntmps35
    go_wp2_with (first | (go_at_call 18; refine (NN.out _).mono ?_; rintro e w' ⟨rfl, rfl⟩))
    go_ret2
    exact ⟨rfl, rfl⟩
end Go.Proofs.YtobbmhboahognaaDoor
