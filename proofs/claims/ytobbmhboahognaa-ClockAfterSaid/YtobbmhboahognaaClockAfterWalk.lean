/- The walk of ClockAfter: it returns true; of what was there nothing has turned. -/
import Derived.Test.YtobbmhboahognaaClkAwake
import Derived.Test.YtobbmhboahognaaLawClose
namespace Go.Proofs.Ytobbmhboahognaa
open Go.RowKit
set_option linter.unusedVariables false

set_option maxHeartbeats 1000000 in
set_option maxRecDepth 100000 in
theorem after_any (n t : Int) (hn : 0 ≤ n ∧ n ≤ 18446744073709551615) (ht : 0 ≤ t ∧ t ≤ 18446744073709551615) (W : World) : Calls Try.prog 6 #[.int .u64 n, .int .u64 t] W fun e w' => e = .returned (.int .u64 (if n + t ≤ 18446744073709551615 then n + t else 18446744073709551615)) ∧ W = w' := by
  have hw1 : IntKind.u64.wrap (18446744073709551615 - n) = 18446744073709551615 - n := by rw [IntKind.wrap_u64]; omega
  by_cases h : n + t ≤ 18446744073709551615
  · rw [if_pos h]
    have h1 : t ≤ 18446744073709551615 - n := by omega
    have h3 : min t (18446744073709551615 - n) = t := by omega
    have hw2 : IntKind.u64.wrap (n + t) = n + t := by rw [IntKind.wrap_u64]; omega
    go_enter Try.func6, Try.ntmps6
    go_wp2
    go_ret
    exact ⟨rfl, rfl⟩
  · rw [if_neg h]
    have h1 : ¬ t ≤ 18446744073709551615 - n := by omega
    have h3 : min t (18446744073709551615 - n) = 18446744073709551615 - n := by omega
    have h4 : n + (18446744073709551615 - n) = 18446744073709551615 := by omega
    go_enter Try.func6, Try.ntmps6
    go_wp2
    go_ret
    exact ⟨rfl, rfl⟩
set_option maxHeartbeats 1000000 in
set_option maxRecDepth 100000 in
theorem refAfter_any (n t : Int) (hn : 0 ≤ n ∧ n ≤ 18446744073709551615) (ht : 0 ≤ t ∧ t ≤ 18446744073709551615) (W : World) : Calls Try.prog 7 #[.int .u64 n, .int .u64 t] W fun e w' => e = .returned (.int .u64 (if n + t ≤ 18446744073709551615 then n + t else 18446744073709551615)) ∧ W = w' := by
  have hw1 : IntKind.u64.wrap (18446744073709551615 - t) = 18446744073709551615 - t := by rw [IntKind.wrap_u64]; omega
  by_cases h : n + t ≤ 18446744073709551615
  · rw [if_pos h]
    have h1 : ¬ (18446744073709551615 - t < n) := by omega
    have hw2 : IntKind.u64.wrap (n + t) = n + t := by rw [IntKind.wrap_u64]; omega
    go_enter Try.func7, Try.ntmps7
    go_wp2
    go_ret
    exact ⟨rfl, rfl⟩
  · rw [if_neg h]
    have h1 : 18446744073709551615 - t < n := by omega
    go_enter Try.func7, Try.ntmps7
    go_wp2
    go_ret
    exact ⟨rfl, rfl⟩
set_option maxHeartbeats 4000000 in
set_option maxRecDepth 100000 in
theorem clockAfter_walk (n t : Int) (hn : (Lit.int .u64 n).wf = true) (ht : (Lit.int .u64 t).wf = true) (w : World) :
    Calls Try.prog 3 #[.int .u64 n, .int .u64 t] w fun e w' => e = .returned (.bool true) ∧ Below w.heap.size w w' := by
  have n1 : 0 ≤ n ∧ n ≤ 18446744073709551615 := by have := u64_mem (zs := [n]) (by simpa using hn) 0 (by simp); simpa using this
  have t1 : 0 ≤ t ∧ t ≤ 18446744073709551615 := by have := u64_mem (zs := [t]) (by simpa using ht) 0 (by simp); simpa using this
  have A1 := Lib.hid (after_any n t n1 t1)
  have A2 := Lib.hid (after_any t n t1 n1)
  have R1 := Lib.hid (refAfter_any n t n1 t1)
  rw [show t + n = n + t by omega] at A2
  have g1 : n ≤ (if n + t ≤ 18446744073709551615 then n + t else 18446744073709551615) := by split <;> omega
  have g2 : t ≤ (if n + t ≤ 18446744073709551615 then n + t else 18446744073709551615) := by split <;> omega
  generalize (if n + t ≤ 18446744073709551615 then n + t else 18446744073709551615) = q at *
  have AW := Lib.hid (awake_any)
  clear hn ht
  go_enter Try.func3, Try.ntmps3
  go_wp2_with (first
    | (go_at_call 6; (first | (with_reducible refine (A1.out _).mono ?_) | (with_reducible refine (A2.out _).mono ?_)); rintro e w' ⟨rfl, rfl⟩)
    | (go_at_call 7; refine (R1.out _).mono ?_; rintro e w' ⟨rfl, rfl⟩)
    | (go_at_call 8; refine (AW.out _).mono ?_; rintro e w' ⟨rfl, hb⟩))
  go_ret
  exact ⟨rfl, hb⟩
end Go.Proofs.Ytobbmhboahognaa
