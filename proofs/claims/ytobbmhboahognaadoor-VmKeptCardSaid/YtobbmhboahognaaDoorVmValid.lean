/- The program's word on one instruction, whatever its mark (layer 6): the contract of valid. The conditions: the code's length is 1 at least, V is a word. -/
import Derived.Test.YtobbmhboahognaaDoorVmStrike
import Derived.Deep.CutRange
import Derived.Deep.DeepCutAuto
import Derived.Deep.CutBlock
import Derived.Deep.Light
namespace Go.Proofs.YtobbmhboahognaaDoor
open Go.RowKit
set_option linter.unusedVariables false
set_option linter.unusedSimpArgs false

theorem stk_same (n : Int) (h : regB n = false) : stk n = n := by unfold stk; rw [h]; rfl
theorem stk_reg (n : Int) (h : regB n = true) : stk n = 0 := by unfold stk; rw [h]; rfl
theorem strikeA {w W : World} {X : Nat} {op a b c v m wh : Int} (h : IBox w W X op a b c v m wh) :
    Calls Tryd.prog 71 #[.pointer (some ⟨X, 1, none⟩)] W fun e W' => e = .returned (.tuple #[]) ∧ IBox w W' X op (stk a) b c v m wh := by
  refine (strike_raw ⟨X, 1, none⟩ a W (h.r.cell 1 (by simp)) (h.free 1 (by omega))).mono ?_
  rintro e W' ⟨rfl, rfl⟩
  refine ⟨rfl, ?_⟩
  cases hr : regB a with
  | true => rw [stk_reg _ hr]; exact h.setA 0
  | false => rw [stk_same _ hr]; exact h
theorem strikeB {w W : World} {X : Nat} {op a b c v m wh : Int} (h : IBox w W X op a b c v m wh) :
    Calls Tryd.prog 71 #[.pointer (some ⟨X, 2, none⟩)] W fun e W' => e = .returned (.tuple #[]) ∧ IBox w W' X op a (stk b) c v m wh := by
  refine (strike_raw ⟨X, 2, none⟩ b W (h.r.cell 2 (by simp)) (h.free 2 (by omega))).mono ?_
  rintro e W' ⟨rfl, rfl⟩
  refine ⟨rfl, ?_⟩
  cases hr : regB b with
  | true => rw [stk_reg _ hr]; exact h.setB 0
  | false => rw [stk_same _ hr]; exact h
theorem strikeC {w W : World} {X : Nat} {op a b c v m wh : Int} (h : IBox w W X op a b c v m wh) :
    Calls Tryd.prog 71 #[.pointer (some ⟨X, 3, none⟩)] W fun e W' => e = .returned (.tuple #[]) ∧ IBox w W' X op a b (stk c) v m wh := by
  refine (strike_raw ⟨X, 3, none⟩ c W (h.r.cell 3 (by simp)) (h.free 3 (by omega))).mono ?_
  rintro e W' ⟨rfl, rfl⟩
  refine ⟨rfl, ?_⟩
  cases hr : regB c with
  | true => rw [stk_reg _ hr]; exact h.setC 0
  | false => rw [stk_same _ hr]; exact h
/-- What the switch leaves. -/
def VFin (w : World) (X : Nat) (op m wh : Int) (Q : Bool) (W : World) : Prop := ∃ A B C V, IBox w W X op A B C V m wh ∧ Q = ((A == 0) && ((B == 0) && ((C == 0) && (V == 0))))
def ValPost (Q : Bool) (w : World) (e : Ending) (w' : World) : Prop := e = .returned (.bool Q) ∧ Below w.heap.size w w'

theorem ok_g0 (op a b c v m wh n : Int) (h : op = 3 ∨ op = 4 ∨ op = 5 ∨ op = 6 ∨ op = 7 ∨ op = 8 ∨ op = 9 ∨ op = 10 ∨ op = 11) : okB ⟨op, a, b, c, v, m, wh⟩ n = (regB a && (regB b && (((c == -1) || regB c) && ((c == -1) || (v == 0))))) := by
  rw [ok_eq]
  rcases h with rfl | rfl | rfl | rfl | rfl | rfl | rfl | rfl | rfl
  all_goals
    simp only [fieldA, fieldB, fieldC, fieldV, usesV, shapeOf, shpTab]
    rw [Bool.eq_iff_iff]
    simp
    try grind
theorem ok_g1 (op a b c v m wh n : Int) (h : op = 24 ∨ op = 25 ∨ op = 26 ∨ op = 27 ∨ op = 48) : okB ⟨op, a, b, c, v, m, wh⟩ n = (regB a && (regB b && (regB c && (v == 0)))) := by
  rw [ok_eq]
  rcases h with rfl | rfl | rfl | rfl | rfl
  all_goals
    simp only [fieldA, fieldB, fieldC, fieldV, usesV, shapeOf, shpTab]
    rw [Bool.eq_iff_iff]
    simp
    try grind
theorem ok_g2 (op a b c v m wh n : Int) (h : op = 2 ∨ op = 23 ∨ op = 49 ∨ op = 50 ∨ op = 47 ∨ op = 39 ∨ op = 54) : okB ⟨op, a, b, c, v, m, wh⟩ n = (regB a && (regB b && ((c == 0) && (v == 0)))) := by
  rw [ok_eq]
  rcases h with rfl | rfl | rfl | rfl | rfl | rfl | rfl
  all_goals
    simp only [fieldA, fieldB, fieldC, fieldV, usesV, shapeOf, shpTab]
    rw [Bool.eq_iff_iff]
    simp
    try grind
theorem ok_g3 (op a b c v m wh n : Int) (h : op = 28 ∨ op = 29 ∨ op = 30 ∨ op = 34 ∨ op = 35 ∨ op = 36 ∨ op = 37 ∨ op = 38 ∨ op = 40 ∨ op = 41 ∨ op = 42 ∨ op = 44 ∨ op = 46 ∨ op = 51 ∨ op = 52 ∨ op = 53 ∨ op = 57) : okB ⟨op, a, b, c, v, m, wh⟩ n = (regB a && ((b == 0) && ((c == 0) && (v == 0)))) := by
  rw [ok_eq]
  rcases h with rfl | rfl | rfl | rfl | rfl | rfl | rfl | rfl | rfl | rfl | rfl | rfl | rfl | rfl | rfl | rfl | rfl
  all_goals
    simp only [fieldA, fieldB, fieldC, fieldV, usesV, shapeOf, shpTab]
    rw [Bool.eq_iff_iff]
    simp
    try grind
theorem ok_g4 (op a b c v m wh n : Int) (h : op = 16 ∨ op = 33 ∨ op = 55 ∨ op = 56 ∨ op = 58) : okB ⟨op, a, b, c, v, m, wh⟩ n = ((a == 0) && ((b == 0) && ((c == 0) && (v == 0)))) := by
  rw [ok_eq]
  rcases h with rfl | rfl | rfl | rfl | rfl
  all_goals
    simp only [fieldA, fieldB, fieldC, fieldV, usesV, shapeOf, shpTab]
    rw [Bool.eq_iff_iff]
    simp
    try grind
theorem ok_g5 (op a b c v m wh n : Int) (h : op = 21 ∨ op = 32) : okB ⟨op, a, b, c, v, m, wh⟩ n = (regB a && (((b == -1) || regB b) && (regB c && true))) := by
  rw [ok_eq]
  rcases h with rfl | rfl
  all_goals
    simp only [fieldA, fieldB, fieldC, fieldV, usesV, shapeOf, shpTab]
    rw [Bool.eq_iff_iff]
    simp
    try grind
theorem ok_g6 (op a b c v m wh n : Int) (h : op = 17 ∨ op = 18 ∨ op = 19 ∨ op = 20 ∨ op = 31) : okB ⟨op, a, b, c, v, m, wh⟩ n = (regB a && (((b == -1) || regB b) && ((c == 0) && true))) := by
  rw [ok_eq]
  rcases h with rfl | rfl | rfl | rfl | rfl
  all_goals
    simp only [fieldA, fieldB, fieldC, fieldV, usesV, shapeOf, shpTab]
    rw [Bool.eq_iff_iff]
    simp
    try grind
theorem ok_g7 (op a b c v m wh n : Int) (h : op = 45) : okB ⟨op, a, b, c, v, m, wh⟩ n = (regB a && (regB b && ((c == 0) && true))) := by
  rw [ok_eq]
  subst h
  all_goals
    simp only [fieldA, fieldB, fieldC, fieldV, usesV, shapeOf, shpTab]
    rw [Bool.eq_iff_iff]
    simp
    try grind
theorem ok_g8 (op a b c v m wh n : Int) (h : op = 1) : okB ⟨op, a, b, c, v, m, wh⟩ n = (regB a && ((b == 0) && ((c == 0) && true))) := by
  rw [ok_eq]
  subst h
  all_goals
    simp only [fieldA, fieldB, fieldC, fieldV, usesV, shapeOf, shpTab]
    rw [Bool.eq_iff_iff]
    simp
    try grind
theorem ok_g9 (op a b c v m wh n : Int) (h : op = 43) : okB ⟨op, a, b, c, v, m, wh⟩ n = (regB a && (((b == -1) || regB b) && ((c == 0) && ((b == -1) || (v == 0))))) := by
  rw [ok_eq]
  subst h
  all_goals
    simp only [fieldA, fieldB, fieldC, fieldV, usesV, shapeOf, shpTab]
    rw [Bool.eq_iff_iff]
    simp
    try grind
theorem ok_g10 (op a b c v m wh n : Int) (h : op = 13 ∨ op = 14) : okB ⟨op, a, b, c, v, m, wh⟩ n = (regB a && ((b == 0) && ((c == 0) && decide (v < n)))) := by
  rw [ok_eq]
  rcases h with rfl | rfl
  all_goals
    simp only [fieldA, fieldB, fieldC, fieldV, usesV, shapeOf, shpTab]
    rw [Bool.eq_iff_iff]
    simp
    try grind
theorem ok_g11 (op a b c v m wh n : Int) (h : op = 12 ∨ op = 15) : okB ⟨op, a, b, c, v, m, wh⟩ n = ((a == 0) && ((b == 0) && ((c == 0) && decide (v < n)))) := by
  rw [ok_eq]
  rcases h with rfl | rfl
  all_goals
    simp only [fieldA, fieldB, fieldC, fieldV, usesV, shapeOf, shpTab]
    rw [Bool.eq_iff_iff]
    simp
    try grind
theorem ok_g12 (op a b c v m wh n : Int) (h : op = 22) : okB ⟨op, a, b, c, v, m, wh⟩ n = ((a == 0) && ((b == 0) && ((c == 0) && decide (v ≤ 999)))) := by
  rw [ok_eq]
  subst h
  all_goals
    simp only [fieldA, fieldB, fieldC, fieldV, usesV, shapeOf, shpTab]
    rw [Bool.eq_iff_iff]
    simp
    try grind
theorem is_not (op : Int) (h : (shapeOf op).Is = false) : ∀ k : Nat, 1 ≤ k → k ≤ 58 → ((op == (k : Int)) = false) := by
  have tab : ∀ k : Fin 59, 1 ≤ k.1 → (shapeOf (k.1 : Int)).Is = true := by decide
  intro k h1 h2
  rw [beq_eq_false_iff_ne]
  rintro rfl
  have := tab ⟨k, by omega⟩ h1
  rw [this] at h; cases h
theorem is_some (op : Int) (h : (shapeOf op).Is = true) : 1 ≤ op ∧ op ≤ 58 := by
  unfold shapeOf at h
  split at h
  · assumption
  · cases h

set_option maxHeartbeats 4000000 in
set_option maxRecDepth 100000 in
theorem valid_none (op a b c v m wh n : Int) (h : (shapeOf op).Is = false) (w : World) :
    Calls Tryd.prog 41 #[.agg #[.int .i64 op, .int .i64 a, .int .i64 b, .int .i64 c, .int .u64 v, .int .i64 m, .int .i64 wh], .int .i64 n] w (ValPost false w) := by
  have n1 : (op == 1) = false := is_not op h 1 (by omega) (by omega)
  have n2 : (op == 2) = false := is_not op h 2 (by omega) (by omega)
  have n3 : (op == 3) = false := is_not op h 3 (by omega) (by omega)
  have n4 : (op == 4) = false := is_not op h 4 (by omega) (by omega)
  have n5 : (op == 5) = false := is_not op h 5 (by omega) (by omega)
  have n6 : (op == 6) = false := is_not op h 6 (by omega) (by omega)
  have n7 : (op == 7) = false := is_not op h 7 (by omega) (by omega)
  have n8 : (op == 8) = false := is_not op h 8 (by omega) (by omega)
  have n9 : (op == 9) = false := is_not op h 9 (by omega) (by omega)
  have n10 : (op == 10) = false := is_not op h 10 (by omega) (by omega)
  have n11 : (op == 11) = false := is_not op h 11 (by omega) (by omega)
  have n12 : (op == 12) = false := is_not op h 12 (by omega) (by omega)
  have n13 : (op == 13) = false := is_not op h 13 (by omega) (by omega)
  have n14 : (op == 14) = false := is_not op h 14 (by omega) (by omega)
  have n15 : (op == 15) = false := is_not op h 15 (by omega) (by omega)
  have n16 : (op == 16) = false := is_not op h 16 (by omega) (by omega)
  have n17 : (op == 17) = false := is_not op h 17 (by omega) (by omega)
  have n18 : (op == 18) = false := is_not op h 18 (by omega) (by omega)
  have n19 : (op == 19) = false := is_not op h 19 (by omega) (by omega)
  have n20 : (op == 20) = false := is_not op h 20 (by omega) (by omega)
  have n21 : (op == 21) = false := is_not op h 21 (by omega) (by omega)
  have n22 : (op == 22) = false := is_not op h 22 (by omega) (by omega)
  have n23 : (op == 23) = false := is_not op h 23 (by omega) (by omega)
  have n24 : (op == 24) = false := is_not op h 24 (by omega) (by omega)
  have n25 : (op == 25) = false := is_not op h 25 (by omega) (by omega)
  have n26 : (op == 26) = false := is_not op h 26 (by omega) (by omega)
  have n27 : (op == 27) = false := is_not op h 27 (by omega) (by omega)
  have n28 : (op == 28) = false := is_not op h 28 (by omega) (by omega)
  have n29 : (op == 29) = false := is_not op h 29 (by omega) (by omega)
  have n30 : (op == 30) = false := is_not op h 30 (by omega) (by omega)
  have n31 : (op == 31) = false := is_not op h 31 (by omega) (by omega)
  have n32 : (op == 32) = false := is_not op h 32 (by omega) (by omega)
  have n33 : (op == 33) = false := is_not op h 33 (by omega) (by omega)
  have n34 : (op == 34) = false := is_not op h 34 (by omega) (by omega)
  have n35 : (op == 35) = false := is_not op h 35 (by omega) (by omega)
  have n36 : (op == 36) = false := is_not op h 36 (by omega) (by omega)
  have n37 : (op == 37) = false := is_not op h 37 (by omega) (by omega)
  have n38 : (op == 38) = false := is_not op h 38 (by omega) (by omega)
  have n39 : (op == 39) = false := is_not op h 39 (by omega) (by omega)
  have n40 : (op == 40) = false := is_not op h 40 (by omega) (by omega)
  have n41 : (op == 41) = false := is_not op h 41 (by omega) (by omega)
  have n42 : (op == 42) = false := is_not op h 42 (by omega) (by omega)
  have n43 : (op == 43) = false := is_not op h 43 (by omega) (by omega)
  have n44 : (op == 44) = false := is_not op h 44 (by omega) (by omega)
  have n45 : (op == 45) = false := is_not op h 45 (by omega) (by omega)
  have n46 : (op == 46) = false := is_not op h 46 (by omega) (by omega)
  have n47 : (op == 47) = false := is_not op h 47 (by omega) (by omega)
  have n48 : (op == 48) = false := is_not op h 48 (by omega) (by omega)
  have n49 : (op == 49) = false := is_not op h 49 (by omega) (by omega)
  have n50 : (op == 50) = false := is_not op h 50 (by omega) (by omega)
  have n51 : (op == 51) = false := is_not op h 51 (by omega) (by omega)
  have n52 : (op == 52) = false := is_not op h 52 (by omega) (by omega)
  have n53 : (op == 53) = false := is_not op h 53 (by omega) (by omega)
  have n54 : (op == 54) = false := is_not op h 54 (by omega) (by omega)
  have n55 : (op == 55) = false := is_not op h 55 (by omega) (by omega)
  have n56 : (op == 56) = false := is_not op h 56 (by omega) (by omega)
  have n57 : (op == 57) = false := is_not op h 57 (by omega) (by omega)
  have n58 : (op == 58) = false := is_not op h 58 (by omega) (by omega)
  clear h
  go_enter Tryd.func41, Tryd.ntmps41
  go_wp2_with fail
  go_ret
  exact ⟨rfl, (Below.refl _ _).alloc (Nat.le_refl _) _⟩

set_option maxHeartbeats 40000000 in
set_option maxRecDepth 100000 in
theorem valid_some (op a b c v m wh n : Int) (hn : 1 ≤ n) (hn1 : n ≤ 9223372036854775807) (hv0 : 0 ≤ v) (hv1 : v ≤ 18446744073709551615) (h : (shapeOf op).Is = true) (w : World) :
    Calls Tryd.prog 41 #[.agg #[.int .i64 op, .int .i64 a, .int .i64 b, .int .i64 c, .int .u64 v, .int .i64 m, .int .i64 wh], .int .i64 n] w (ValPost (okB ⟨op, a, b, c, v, m, wh⟩ n) w) := by
  obtain ⟨Q, hQ⟩ : ∃ Q, Q = okB ⟨op, a, b, c, v, m, wh⟩ n := ⟨_, rfl⟩
  rw [← hQ]
  have HQ := Lib.hid hQ
  have hop := Lib.hid (is_some op h)
  have wn : IntKind.u64.wrap n = n := by rw [IntKind.wrap_u64]; omega
  have HN := Lib.hid hn
  have IB := Lib.hid (IBox.new w op a b c v m wh)
  clear hQ h hn hn1 hv1
  obtain ⟨W, hW⟩ : ∃ W, W = w.alloc (.cells #[.int .i64 op, .int .i64 a, .int .i64 b, .int .i64 c, .int .u64 v, .int .i64 m, .int .i64 wh] 52) := ⟨_, rfl⟩
  obtain ⟨X, hX⟩ : ∃ X, X = w.heap.size := ⟨_, rfl⟩
  rw [← hW, ← hX] at IB
  have HW := Lib.hid hW
  have HX := Lib.hid hX
  clear hW hX
  obtain ⟨q0, hq0⟩ : ∃ q, q = ((op == 3) || (op == 4) || (op == 5) || (op == 6) || (op == 7) || (op == 8) || (op == 9) || (op == 10) || (op == 11)) := ⟨_, rfl⟩
  have HQ0 := Lib.hid hq0
  clear hq0
  obtain ⟨q1, hq1⟩ : ∃ q, q = ((op == 24) || (op == 25) || (op == 26) || (op == 27) || (op == 48)) := ⟨_, rfl⟩
  have HQ1 := Lib.hid hq1
  clear hq1
  obtain ⟨q2, hq2⟩ : ∃ q, q = ((op == 2) || (op == 23) || (op == 49) || (op == 50) || (op == 47) || (op == 39) || (op == 54)) := ⟨_, rfl⟩
  have HQ2 := Lib.hid hq2
  clear hq2
  obtain ⟨q3, hq3⟩ : ∃ q, q = ((op == 28) || (op == 29) || (op == 30) || (op == 34) || (op == 35) || (op == 36) || (op == 37) || (op == 38) || (op == 40) || (op == 41) || (op == 42) || (op == 44) || (op == 46) || (op == 51) || (op == 52) || (op == 53) || (op == 57)) := ⟨_, rfl⟩
  have HQ3 := Lib.hid hq3
  clear hq3
  obtain ⟨q4, hq4⟩ : ∃ q, q = ((op == 16) || (op == 33) || (op == 55) || (op == 56) || (op == 58)) := ⟨_, rfl⟩
  have HQ4 := Lib.hid hq4
  clear hq4
  obtain ⟨q5, hq5⟩ : ∃ q, q = ((op == 21) || (op == 32)) := ⟨_, rfl⟩
  have HQ5 := Lib.hid hq5
  clear hq5
  obtain ⟨q6, hq6⟩ : ∃ q, q = ((op == 17) || (op == 18) || (op == 19) || (op == 20) || (op == 31)) := ⟨_, rfl⟩
  have HQ6 := Lib.hid hq6
  clear hq6
  obtain ⟨q7, hq7⟩ : ∃ q, q = ((op == 45)) := ⟨_, rfl⟩
  have HQ7 := Lib.hid hq7
  clear hq7
  obtain ⟨q8, hq8⟩ : ∃ q, q = ((op == 1)) := ⟨_, rfl⟩
  have HQ8 := Lib.hid hq8
  clear hq8
  obtain ⟨q9, hq9⟩ : ∃ q, q = ((op == 43)) := ⟨_, rfl⟩
  have HQ9 := Lib.hid hq9
  clear hq9
  obtain ⟨q10, hq10⟩ : ∃ q, q = ((op == 13) || (op == 14)) := ⟨_, rfl⟩
  have HQ10 := Lib.hid hq10
  clear hq10
  obtain ⟨q11, hq11⟩ : ∃ q, q = ((op == 12) || (op == 15)) := ⟨_, rfl⟩
  have HQ11 := Lib.hid hq11
  clear hq11
  obtain ⟨q12, hq12⟩ : ∃ q, q = ((op == 22)) := ⟨_, rfl⟩
  have HQ12 := Lib.hid hq12
  clear hq12
  go_enter Tryd.func41, Tryd.ntmps41
  go_upto_block 0 with fail
  rw [← HW.out, ← HX.out]
  go_cut [2] from 7 to 120 (fun s2 w' => s2 = .pointer (some ⟨X, 0, none⟩) ∧ VFin w X op m wh Q w')
  case first =>
   as_aux_lemma =>
    go_upto_if 7 with fail
    go_cut [7] from 7 to 120 (fun st w' => st = .bool q0 ∧ W = w')
    case first =>
     as_aux_lemma =>
      cases q0 with
      | true =>
        have hm : (op = 3 ∨ op = 4 ∨ op = 5 ∨ op = 6 ∨ op = 7 ∨ op = 8 ∨ op = 9 ∨ op = 10 ∨ op = 11) := by have h := HQ0.out.symm; simp at h; omega
        clear HQ HN hop IB HW HX HQ0 HQ1 HQ2 HQ3 HQ4 HQ5 HQ6 HQ7 HQ8 HQ9 HQ10 HQ11 HQ12
        rcases hm with rfl | rfl | rfl | rfl | rfl | rfl | rfl | rfl | rfl
        all_goals
          go_wp2_with fail
          go_meet
          exact ⟨rfl, rfl⟩
      | false =>
        have hm : (op == 3) = false ∧ (op == 4) = false ∧ (op == 5) = false ∧ (op == 6) = false ∧ (op == 7) = false ∧ (op == 8) = false ∧ (op == 9) = false ∧ (op == 10) = false ∧ (op == 11) = false := by have h := HQ0.out.symm; simpa [and_assoc] using h
        clear HQ HN hop IB HW HX HQ0 HQ1 HQ2 HQ3 HQ4 HQ5 HQ6 HQ7 HQ8 HQ9 HQ10 HQ11 HQ12
        obtain ⟨n3, n4, n5, n6, n7, n8, n9, n10, n11⟩ := hm
        go_wp2_with fail
        go_meet
        exact ⟨by simp [*], rfl⟩
    case rest =>
    obtain ⟨rfl, rfl⟩ := hcut
    cases q0 with
    | true =>
     as_aux_lemma =>
      have HG := Lib.hid (show Q = (regB a && (regB b && (((c == -1) || regB c) && ((c == -1) || (v == 0))))) by rw [HQ.out]; exact ok_g0 op a b c v m wh n (by have h := HQ0.out.symm; simp at h; omega))
      by_cases hc : c = -1
      · subst hc
        obtain ⟨d0, d1, d2, d3, d4, d5, d6⟩ := IB.out.cells
        have g1 := IB.out.free 1 (by omega)
        have g2 := IB.out.free 2 (by omega)
        have g3 := IB.out.free 3 (by omega)
        have g4 := IB.out.free 4 (by omega)
        go_upto_region 62 with fail
        clear d0 d1 d2 d3 d4 d5 d6 g1 g2 g3 g4
        have IBs := Lib.hid ((IB.out.setC 0).setV 0)
        go_wp2_with fail
        go_at_call 71
        refine (strikeC IBs.out).mono ?_
        rintro e W1 ⟨rfl, ib1⟩
        have IB1 := Lib.hid ib1
        clear ib1
        go_wp2_with fail
        go_at_call 71
        refine (strikeB IB1.out).mono ?_
        rintro e W2 ⟨rfl, ib2⟩
        have IB2 := Lib.hid ib2
        clear ib2
        go_wp2_with fail
        go_at_call 71
        refine (strikeA IB2.out).mono ?_
        rintro e W3 ⟨rfl, ib3⟩
        have IB3 := Lib.hid ib3
        clear ib3
        go_wp2_with fail
        go_meet
        exact ⟨rfl, _, _, _, _, IB3.out, by rw [HG.out]; simp [stk_zero, show (stk 0 == 0) = true from rfl]⟩
      · have hc' : (c == -1) = false := by simp [hc]
        obtain ⟨d0, d1, d2, d3, d4, d5, d6⟩ := IB.out.cells
        have g1 := IB.out.free 1 (by omega)
        have g2 := IB.out.free 2 (by omega)
        have g3 := IB.out.free 3 (by omega)
        have g4 := IB.out.free 4 (by omega)
        go_upto_region 62 with fail
        clear d0 d1 d2 d3 d4 d5 d6 g1 g2 g3 g4
        go_wp2_with fail
        go_at_call 71
        refine (strikeC IB.out).mono ?_
        rintro e W1 ⟨rfl, ib1⟩
        have IB1 := Lib.hid ib1
        clear ib1
        go_wp2_with fail
        go_at_call 71
        refine (strikeB IB1.out).mono ?_
        rintro e W2 ⟨rfl, ib2⟩
        have IB2 := Lib.hid ib2
        clear ib2
        go_wp2_with fail
        go_at_call 71
        refine (strikeA IB2.out).mono ?_
        rintro e W3 ⟨rfl, ib3⟩
        have IB3 := Lib.hid ib3
        clear ib3
        go_wp2_with fail
        go_meet
        exact ⟨rfl, _, _, _, _, IB3.out, by rw [HG.out]; simp [stk_zero, hc']⟩
    | false =>
    go_upto_if 17 with fail
    go_cut [17] from 7 to 120 (fun st w' => st = .bool q1 ∧ W = w')
    case first =>
     as_aux_lemma =>
      cases q1 with
      | true =>
        have hm : (op = 24 ∨ op = 25 ∨ op = 26 ∨ op = 27 ∨ op = 48) := by have h := HQ1.out.symm; simp at h; omega
        clear HQ HN hop IB HW HX HQ0 HQ1 HQ2 HQ3 HQ4 HQ5 HQ6 HQ7 HQ8 HQ9 HQ10 HQ11 HQ12
        rcases hm with rfl | rfl | rfl | rfl | rfl
        all_goals
          go_wp2_with fail
          go_meet
          exact ⟨rfl, rfl⟩
      | false =>
        have hm : (op == 24) = false ∧ (op == 25) = false ∧ (op == 26) = false ∧ (op == 27) = false ∧ (op == 48) = false := by have h := HQ1.out.symm; simpa [and_assoc] using h
        clear HQ HN hop IB HW HX HQ0 HQ1 HQ2 HQ3 HQ4 HQ5 HQ6 HQ7 HQ8 HQ9 HQ10 HQ11 HQ12
        obtain ⟨n24, n25, n26, n27, n48⟩ := hm
        go_wp2_with fail
        go_meet
        exact ⟨by simp [*], rfl⟩
    case rest =>
    obtain ⟨rfl, rfl⟩ := hcut
    cases q1 with
    | true =>
     as_aux_lemma =>
      have HG := Lib.hid (show Q = (regB a && (regB b && (regB c && (v == 0)))) by rw [HQ.out]; exact ok_g1 op a b c v m wh n (by have h := HQ1.out.symm; simp at h; omega))
      go_wp2_with fail
      go_at_call 71
      refine (strikeC IB.out).mono ?_
      rintro e W1 ⟨rfl, ib1⟩
      have IB1 := Lib.hid ib1
      clear ib1
      go_wp2_with fail
      go_at_call 71
      refine (strikeB IB1.out).mono ?_
      rintro e W2 ⟨rfl, ib2⟩
      have IB2 := Lib.hid ib2
      clear ib2
      go_wp2_with fail
      go_at_call 71
      refine (strikeA IB2.out).mono ?_
      rintro e W3 ⟨rfl, ib3⟩
      have IB3 := Lib.hid ib3
      clear ib3
      go_wp2_with fail
      go_meet
      exact ⟨rfl, _, _, _, _, IB3.out, by rw [HG.out]; simp [stk_zero]⟩
    | false =>
    go_upto_if 23 with fail
    go_cut [23] from 7 to 120 (fun st w' => st = .bool q2 ∧ W = w')
    case first =>
     as_aux_lemma =>
      cases q2 with
      | true =>
        have hm : (op = 2 ∨ op = 23 ∨ op = 49 ∨ op = 50 ∨ op = 47 ∨ op = 39 ∨ op = 54) := by have h := HQ2.out.symm; simp at h; omega
        clear HQ HN hop IB HW HX HQ0 HQ1 HQ2 HQ3 HQ4 HQ5 HQ6 HQ7 HQ8 HQ9 HQ10 HQ11 HQ12
        rcases hm with rfl | rfl | rfl | rfl | rfl | rfl | rfl
        all_goals
          go_wp2_with fail
          go_meet
          exact ⟨rfl, rfl⟩
      | false =>
        have hm : (op == 2) = false ∧ (op == 23) = false ∧ (op == 49) = false ∧ (op == 50) = false ∧ (op == 47) = false ∧ (op == 39) = false ∧ (op == 54) = false := by have h := HQ2.out.symm; simpa [and_assoc] using h
        clear HQ HN hop IB HW HX HQ0 HQ1 HQ2 HQ3 HQ4 HQ5 HQ6 HQ7 HQ8 HQ9 HQ10 HQ11 HQ12
        obtain ⟨n2, n23, n49, n50, n47, n39, n54⟩ := hm
        go_wp2_with fail
        go_meet
        exact ⟨by simp [*], rfl⟩
    case rest =>
    obtain ⟨rfl, rfl⟩ := hcut
    cases q2 with
    | true =>
     as_aux_lemma =>
      have HG := Lib.hid (show Q = (regB a && (regB b && ((c == 0) && (v == 0)))) by rw [HQ.out]; exact ok_g2 op a b c v m wh n (by have h := HQ2.out.symm; simp at h; omega))
      go_wp2_with fail
      go_at_call 71
      refine (strikeB IB.out).mono ?_
      rintro e W1 ⟨rfl, ib1⟩
      have IB1 := Lib.hid ib1
      clear ib1
      go_wp2_with fail
      go_at_call 71
      refine (strikeA IB1.out).mono ?_
      rintro e W2 ⟨rfl, ib2⟩
      have IB2 := Lib.hid ib2
      clear ib2
      go_wp2_with fail
      go_meet
      exact ⟨rfl, _, _, _, _, IB2.out, by rw [HG.out]; simp [stk_zero]⟩
    | false =>
    go_upto_if 31 with fail
    go_cut [31] from 7 to 120 (fun st w' => st = .bool q3 ∧ W = w')
    case first =>
     as_aux_lemma =>
      cases q3 with
      | true =>
        have hm : (op = 28 ∨ op = 29 ∨ op = 30 ∨ op = 34 ∨ op = 35 ∨ op = 36 ∨ op = 37 ∨ op = 38 ∨ op = 40 ∨ op = 41 ∨ op = 42 ∨ op = 44 ∨ op = 46 ∨ op = 51 ∨ op = 52 ∨ op = 53 ∨ op = 57) := by have h := HQ3.out.symm; simp at h; omega
        clear HQ HN hop IB HW HX HQ0 HQ1 HQ2 HQ3 HQ4 HQ5 HQ6 HQ7 HQ8 HQ9 HQ10 HQ11 HQ12
        rcases hm with rfl | rfl | rfl | rfl | rfl | rfl | rfl | rfl | rfl | rfl | rfl | rfl | rfl | rfl | rfl | rfl | rfl
        all_goals
          go_wp2_with fail
          go_meet
          exact ⟨rfl, rfl⟩
      | false =>
        have hm : (op == 28) = false ∧ (op == 29) = false ∧ (op == 30) = false ∧ (op == 34) = false ∧ (op == 35) = false ∧ (op == 36) = false ∧ (op == 37) = false ∧ (op == 38) = false ∧ (op == 40) = false ∧ (op == 41) = false ∧ (op == 42) = false ∧ (op == 44) = false ∧ (op == 46) = false ∧ (op == 51) = false ∧ (op == 52) = false ∧ (op == 53) = false ∧ (op == 57) = false := by have h := HQ3.out.symm; simpa [and_assoc] using h
        clear HQ HN hop IB HW HX HQ0 HQ1 HQ2 HQ3 HQ4 HQ5 HQ6 HQ7 HQ8 HQ9 HQ10 HQ11 HQ12
        obtain ⟨n28, n29, n30, n34, n35, n36, n37, n38, n40, n41, n42, n44, n46, n51, n52, n53, n57⟩ := hm
        go_wp2_with fail
        go_meet
        exact ⟨by simp [*], rfl⟩
    case rest =>
    obtain ⟨rfl, rfl⟩ := hcut
    cases q3 with
    | true =>
     as_aux_lemma =>
      have HG := Lib.hid (show Q = (regB a && ((b == 0) && ((c == 0) && (v == 0)))) by rw [HQ.out]; exact ok_g3 op a b c v m wh n (by have h := HQ3.out.symm; simp at h; omega))
      go_wp2_with fail
      go_at_call 71
      refine (strikeA IB.out).mono ?_
      rintro e W1 ⟨rfl, ib1⟩
      have IB1 := Lib.hid ib1
      clear ib1
      go_wp2_with fail
      go_meet
      exact ⟨rfl, _, _, _, _, IB1.out, by rw [HG.out]; simp [stk_zero]⟩
    | false =>
    go_upto_if 49 with fail
    go_cut [49] from 7 to 120 (fun st w' => st = .bool q4 ∧ W = w')
    case first =>
     as_aux_lemma =>
      cases q4 with
      | true =>
        have hm : (op = 16 ∨ op = 33 ∨ op = 55 ∨ op = 56 ∨ op = 58) := by have h := HQ4.out.symm; simp at h; omega
        clear HQ HN hop IB HW HX HQ0 HQ1 HQ2 HQ3 HQ4 HQ5 HQ6 HQ7 HQ8 HQ9 HQ10 HQ11 HQ12
        rcases hm with rfl | rfl | rfl | rfl | rfl
        all_goals
          go_wp2_with fail
          go_meet
          exact ⟨rfl, rfl⟩
      | false =>
        have hm : (op == 16) = false ∧ (op == 33) = false ∧ (op == 55) = false ∧ (op == 56) = false ∧ (op == 58) = false := by have h := HQ4.out.symm; simpa [and_assoc] using h
        clear HQ HN hop IB HW HX HQ0 HQ1 HQ2 HQ3 HQ4 HQ5 HQ6 HQ7 HQ8 HQ9 HQ10 HQ11 HQ12
        obtain ⟨n16, n33, n55, n56, n58⟩ := hm
        go_wp2_with fail
        go_meet
        exact ⟨by simp [*], rfl⟩
    case rest =>
    obtain ⟨rfl, rfl⟩ := hcut
    cases q4 with
    | true =>
     as_aux_lemma =>
      have HG := Lib.hid (show Q = ((a == 0) && ((b == 0) && ((c == 0) && (v == 0)))) by rw [HQ.out]; exact ok_g4 op a b c v m wh n (by have h := HQ4.out.symm; simp at h; omega))
      go_wp2_with fail
      go_meet
      exact ⟨rfl, _, _, _, _, IB.out, by rw [HG.out]⟩
    | false =>
    go_upto_if 55 with fail
    go_cut [55] from 7 to 120 (fun st w' => st = .bool q5 ∧ W = w')
    case first =>
     as_aux_lemma =>
      cases q5 with
      | true =>
        have hm : (op = 21 ∨ op = 32) := by have h := HQ5.out.symm; simp at h; omega
        clear HQ HN hop IB HW HX HQ0 HQ1 HQ2 HQ3 HQ4 HQ5 HQ6 HQ7 HQ8 HQ9 HQ10 HQ11 HQ12
        rcases hm with rfl | rfl
        all_goals
          go_wp2_with fail
          go_meet
          exact ⟨rfl, rfl⟩
      | false =>
        have hm : (op == 21) = false ∧ (op == 32) = false := by have h := HQ5.out.symm; simpa [and_assoc] using h
        clear HQ HN hop IB HW HX HQ0 HQ1 HQ2 HQ3 HQ4 HQ5 HQ6 HQ7 HQ8 HQ9 HQ10 HQ11 HQ12
        obtain ⟨n21, n32⟩ := hm
        go_wp2_with fail
        go_meet
        exact ⟨by simp [*], rfl⟩
    case rest =>
    obtain ⟨rfl, rfl⟩ := hcut
    cases q5 with
    | true =>
     as_aux_lemma =>
      have HG := Lib.hid (show Q = (regB a && (((b == -1) || regB b) && (regB c && true))) by rw [HQ.out]; exact ok_g5 op a b c v m wh n (by have h := HQ5.out.symm; simp at h; omega))
      go_wp2_with fail
      go_at_call 71
      refine (strikeC IB.out).mono ?_
      rintro e W1 ⟨rfl, ib1⟩
      have IB1 := Lib.hid ib1
      clear ib1
      by_cases hb : b = -1
      · subst hb
        obtain ⟨d0, d1, d2, d3, d4, d5, d6⟩ := IB1.out.cells
        have g1 := IB1.out.free 1 (by omega)
        have g2 := IB1.out.free 2 (by omega)
        have g3 := IB1.out.free 3 (by omega)
        have g4 := IB1.out.free 4 (by omega)
        go_upto_region 68 with fail
        clear d0 d1 d2 d3 d4 d5 d6 g1 g2 g3 g4
        have IBs := Lib.hid (IB1.out.setB 0)
        go_wp2_with fail
        go_at_call 71
        refine (strikeB IBs.out).mono ?_
        rintro e W2 ⟨rfl, ib2⟩
        have IB2 := Lib.hid ib2
        clear ib2
        go_wp2_with fail
        go_at_call 71
        refine (strikeA IB2.out).mono ?_
        rintro e W3 ⟨rfl, ib3⟩
        have IB3 := Lib.hid ib3
        clear ib3
        obtain ⟨d0, d1, d2, d3, d4, d5, d6⟩ := IB3.out.cells
        have g1 := IB3.out.free 1 (by omega)
        have g2 := IB3.out.free 2 (by omega)
        have g3 := IB3.out.free 3 (by omega)
        have g4 := IB3.out.free 4 (by omega)
        go_wp2_with fail
        clear d0 d1 d2 d3 d4 d5 d6 g1 g2 g3 g4
        go_meet
        exact ⟨rfl, _, _, _, _, IB3.out.setV 0, by rw [HG.out]; simp [stk_zero, show (stk 0 == 0) = true from rfl]⟩
      · have hb' : (b == -1) = false := by simp [hb]
        obtain ⟨d0, d1, d2, d3, d4, d5, d6⟩ := IB1.out.cells
        have g1 := IB1.out.free 1 (by omega)
        have g2 := IB1.out.free 2 (by omega)
        have g3 := IB1.out.free 3 (by omega)
        have g4 := IB1.out.free 4 (by omega)
        go_upto_region 68 with fail
        clear d0 d1 d2 d3 d4 d5 d6 g1 g2 g3 g4
        go_wp2_with fail
        go_at_call 71
        refine (strikeB IB1.out).mono ?_
        rintro e W2 ⟨rfl, ib2⟩
        have IB2 := Lib.hid ib2
        clear ib2
        go_wp2_with fail
        go_at_call 71
        refine (strikeA IB2.out).mono ?_
        rintro e W3 ⟨rfl, ib3⟩
        have IB3 := Lib.hid ib3
        clear ib3
        obtain ⟨d0, d1, d2, d3, d4, d5, d6⟩ := IB3.out.cells
        have g1 := IB3.out.free 1 (by omega)
        have g2 := IB3.out.free 2 (by omega)
        have g3 := IB3.out.free 3 (by omega)
        have g4 := IB3.out.free 4 (by omega)
        go_wp2_with fail
        clear d0 d1 d2 d3 d4 d5 d6 g1 g2 g3 g4
        go_meet
        exact ⟨rfl, _, _, _, _, IB3.out.setV 0, by rw [HG.out]; simp [stk_zero, hb']⟩
    | false =>
    go_upto_if 58 with fail
    go_cut [58] from 7 to 120 (fun st w' => st = .bool q6 ∧ W = w')
    case first =>
     as_aux_lemma =>
      cases q6 with
      | true =>
        have hm : (op = 17 ∨ op = 18 ∨ op = 19 ∨ op = 20 ∨ op = 31) := by have h := HQ6.out.symm; simp at h; omega
        clear HQ HN hop IB HW HX HQ0 HQ1 HQ2 HQ3 HQ4 HQ5 HQ6 HQ7 HQ8 HQ9 HQ10 HQ11 HQ12
        rcases hm with rfl | rfl | rfl | rfl | rfl
        all_goals
          go_wp2_with fail
          go_meet
          exact ⟨rfl, rfl⟩
      | false =>
        have hm : (op == 17) = false ∧ (op == 18) = false ∧ (op == 19) = false ∧ (op == 20) = false ∧ (op == 31) = false := by have h := HQ6.out.symm; simpa [and_assoc] using h
        clear HQ HN hop IB HW HX HQ0 HQ1 HQ2 HQ3 HQ4 HQ5 HQ6 HQ7 HQ8 HQ9 HQ10 HQ11 HQ12
        obtain ⟨n17, n18, n19, n20, n31⟩ := hm
        go_wp2_with fail
        go_meet
        exact ⟨by simp [*], rfl⟩
    case rest =>
    obtain ⟨rfl, rfl⟩ := hcut
    cases q6 with
    | true =>
     as_aux_lemma =>
      have HG := Lib.hid (show Q = (regB a && (((b == -1) || regB b) && ((c == 0) && true))) by rw [HQ.out]; exact ok_g6 op a b c v m wh n (by have h := HQ6.out.symm; simp at h; omega))
      by_cases hb : b = -1
      · subst hb
        obtain ⟨d0, d1, d2, d3, d4, d5, d6⟩ := IB.out.cells
        have g1 := IB.out.free 1 (by omega)
        have g2 := IB.out.free 2 (by omega)
        have g3 := IB.out.free 3 (by omega)
        have g4 := IB.out.free 4 (by omega)
        go_upto_region 68 with fail
        clear d0 d1 d2 d3 d4 d5 d6 g1 g2 g3 g4
        have IBs := Lib.hid (IB.out.setB 0)
        go_wp2_with fail
        go_at_call 71
        refine (strikeB IBs.out).mono ?_
        rintro e W1 ⟨rfl, ib1⟩
        have IB1 := Lib.hid ib1
        clear ib1
        go_wp2_with fail
        go_at_call 71
        refine (strikeA IB1.out).mono ?_
        rintro e W2 ⟨rfl, ib2⟩
        have IB2 := Lib.hid ib2
        clear ib2
        obtain ⟨d0, d1, d2, d3, d4, d5, d6⟩ := IB2.out.cells
        have g1 := IB2.out.free 1 (by omega)
        have g2 := IB2.out.free 2 (by omega)
        have g3 := IB2.out.free 3 (by omega)
        have g4 := IB2.out.free 4 (by omega)
        go_wp2_with fail
        clear d0 d1 d2 d3 d4 d5 d6 g1 g2 g3 g4
        go_meet
        exact ⟨rfl, _, _, _, _, IB2.out.setV 0, by rw [HG.out]; simp [stk_zero, show (stk 0 == 0) = true from rfl]⟩
      · have hb' : (b == -1) = false := by simp [hb]
        obtain ⟨d0, d1, d2, d3, d4, d5, d6⟩ := IB.out.cells
        have g1 := IB.out.free 1 (by omega)
        have g2 := IB.out.free 2 (by omega)
        have g3 := IB.out.free 3 (by omega)
        have g4 := IB.out.free 4 (by omega)
        go_upto_region 68 with fail
        clear d0 d1 d2 d3 d4 d5 d6 g1 g2 g3 g4
        go_wp2_with fail
        go_at_call 71
        refine (strikeB IB.out).mono ?_
        rintro e W1 ⟨rfl, ib1⟩
        have IB1 := Lib.hid ib1
        clear ib1
        go_wp2_with fail
        go_at_call 71
        refine (strikeA IB1.out).mono ?_
        rintro e W2 ⟨rfl, ib2⟩
        have IB2 := Lib.hid ib2
        clear ib2
        obtain ⟨d0, d1, d2, d3, d4, d5, d6⟩ := IB2.out.cells
        have g1 := IB2.out.free 1 (by omega)
        have g2 := IB2.out.free 2 (by omega)
        have g3 := IB2.out.free 3 (by omega)
        have g4 := IB2.out.free 4 (by omega)
        go_wp2_with fail
        clear d0 d1 d2 d3 d4 d5 d6 g1 g2 g3 g4
        go_meet
        exact ⟨rfl, _, _, _, _, IB2.out.setV 0, by rw [HG.out]; simp [stk_zero, hb']⟩
    | false =>
    have HE7 := Lib.hid (show q7 = (op == 45) from HQ7.out)
    cases q7 with
    | true =>
     as_aux_lemma =>
      have HG := Lib.hid (show Q = (regB a && (regB b && ((c == 0) && true))) by rw [HQ.out]; exact ok_g7 op a b c v m wh n (by have h := HQ7.out.symm; simp at h; omega))
      have he : (op == 45) = true := HE7.out.symm
      go_wp2_with fail
      go_at_call 71
      refine (strikeB IB.out).mono ?_
      rintro e W1 ⟨rfl, ib1⟩
      have IB1 := Lib.hid ib1
      clear ib1
      go_wp2_with fail
      go_at_call 71
      refine (strikeA IB1.out).mono ?_
      rintro e W2 ⟨rfl, ib2⟩
      have IB2 := Lib.hid ib2
      clear ib2
      obtain ⟨d0, d1, d2, d3, d4, d5, d6⟩ := IB2.out.cells
      have g1 := IB2.out.free 1 (by omega)
      have g2 := IB2.out.free 2 (by omega)
      have g3 := IB2.out.free 3 (by omega)
      have g4 := IB2.out.free 4 (by omega)
      go_wp2_with fail
      clear d0 d1 d2 d3 d4 d5 d6 g1 g2 g3 g4
      go_meet
      exact ⟨rfl, _, _, _, _, IB2.out.setV 0, by rw [HG.out]; simp [stk_zero]⟩
    | false =>
    have he7 : (op == 45) = false := HE7.out.symm
    have HE8 := Lib.hid (show q8 = (op == 1) from HQ8.out)
    cases q8 with
    | true =>
     as_aux_lemma =>
      have HG := Lib.hid (show Q = (regB a && ((b == 0) && ((c == 0) && true))) by rw [HQ.out]; exact ok_g8 op a b c v m wh n (by have h := HQ8.out.symm; simp at h; omega))
      have he : (op == 1) = true := HE8.out.symm
      go_wp2_with fail
      go_at_call 71
      refine (strikeA IB.out).mono ?_
      rintro e W1 ⟨rfl, ib1⟩
      have IB1 := Lib.hid ib1
      clear ib1
      obtain ⟨d0, d1, d2, d3, d4, d5, d6⟩ := IB1.out.cells
      have g1 := IB1.out.free 1 (by omega)
      have g2 := IB1.out.free 2 (by omega)
      have g3 := IB1.out.free 3 (by omega)
      have g4 := IB1.out.free 4 (by omega)
      go_wp2_with fail
      clear d0 d1 d2 d3 d4 d5 d6 g1 g2 g3 g4
      go_meet
      exact ⟨rfl, _, _, _, _, IB1.out.setV 0, by rw [HG.out]; simp [stk_zero]⟩
    | false =>
    have he8 : (op == 1) = false := HE8.out.symm
    have HE9 := Lib.hid (show q9 = (op == 43) from HQ9.out)
    cases q9 with
    | true =>
     as_aux_lemma =>
      have HG := Lib.hid (show Q = (regB a && (((b == -1) || regB b) && ((c == 0) && ((b == -1) || (v == 0))))) by rw [HQ.out]; exact ok_g9 op a b c v m wh n (by have h := HQ9.out.symm; simp at h; omega))
      have he : (op == 43) = true := HE9.out.symm
      by_cases hb : b = -1
      · subst hb
        obtain ⟨d0, d1, d2, d3, d4, d5, d6⟩ := IB.out.cells
        have g1 := IB.out.free 1 (by omega)
        have g2 := IB.out.free 2 (by omega)
        have g3 := IB.out.free 3 (by omega)
        have g4 := IB.out.free 4 (by omega)
        go_upto_region 73 with fail
        clear d0 d1 d2 d3 d4 d5 d6 g1 g2 g3 g4
        have IBs := Lib.hid ((IB.out.setB 0).setV 0)
        go_wp2_with fail
        go_at_call 71
        refine (strikeA IBs.out).mono ?_
        rintro e W1 ⟨rfl, ib1⟩
        have IB1 := Lib.hid ib1
        clear ib1
        go_wp2_with fail
        go_at_call 71
        refine (strikeB IB1.out).mono ?_
        rintro e W2 ⟨rfl, ib2⟩
        have IB2 := Lib.hid ib2
        clear ib2
        go_wp2_with fail
        go_meet
        exact ⟨rfl, _, _, _, _, IB2.out, by rw [HG.out]; simp [stk_zero, show (stk 0 == 0) = true from rfl]⟩
      · have hb' : (b == -1) = false := by simp [hb]
        obtain ⟨d0, d1, d2, d3, d4, d5, d6⟩ := IB.out.cells
        have g1 := IB.out.free 1 (by omega)
        have g2 := IB.out.free 2 (by omega)
        have g3 := IB.out.free 3 (by omega)
        have g4 := IB.out.free 4 (by omega)
        go_upto_region 73 with fail
        clear d0 d1 d2 d3 d4 d5 d6 g1 g2 g3 g4
        go_wp2_with fail
        go_at_call 71
        refine (strikeA IB.out).mono ?_
        rintro e W1 ⟨rfl, ib1⟩
        have IB1 := Lib.hid ib1
        clear ib1
        go_wp2_with fail
        go_at_call 71
        refine (strikeB IB1.out).mono ?_
        rintro e W2 ⟨rfl, ib2⟩
        have IB2 := Lib.hid ib2
        clear ib2
        go_wp2_with fail
        go_meet
        exact ⟨rfl, _, _, _, _, IB2.out, by rw [HG.out]; simp [stk_zero, hb']⟩
    | false =>
    have he9 : (op == 43) = false := HE9.out.symm
    go_upto_if 70 with fail
    go_cut [70] from 7 to 120 (fun st w' => st = .bool q10 ∧ W = w')
    case first =>
     as_aux_lemma =>
      cases q10 with
      | true =>
        have hm : (op = 13 ∨ op = 14) := by have h := HQ10.out.symm; simp at h; omega
        clear HQ HN hop IB HW HX HQ0 HQ1 HQ2 HQ3 HQ4 HQ5 HQ6 HQ7 HQ8 HQ9 HQ10 HQ11 HQ12
        rcases hm with rfl | rfl
        all_goals
          go_wp2_with fail
          go_meet
          exact ⟨rfl, rfl⟩
      | false =>
        have hm : (op == 13) = false ∧ (op == 14) = false := by have h := HQ10.out.symm; simpa [and_assoc] using h
        clear HQ HN hop IB HW HX HQ0 HQ1 HQ2 HQ3 HQ4 HQ5 HQ6 HQ7 HQ8 HQ9 HQ10 HQ11 HQ12
        obtain ⟨n13, n14⟩ := hm
        go_wp2_with fail
        go_meet
        exact ⟨by simp [*], rfl⟩
    case rest =>
    obtain ⟨rfl, rfl⟩ := hcut
    cases q10 with
    | true =>
     as_aux_lemma =>
      have HG := Lib.hid (show Q = (regB a && ((b == 0) && ((c == 0) && decide (v < n)))) by rw [HQ.out]; exact ok_g10 op a b c v m wh n (by have h := HQ10.out.symm; simp at h; omega))
      go_wp2_with fail
      go_at_call 71
      refine (strikeA IB.out).mono ?_
      rintro e W1 ⟨rfl, ib1⟩
      have IB1 := Lib.hid ib1
      clear ib1
      by_cases hlt : v < n
      · obtain ⟨d0, d1, d2, d3, d4, d5, d6⟩ := IB1.out.cells
        have g1 := IB1.out.free 1 (by omega)
        have g2 := IB1.out.free 2 (by omega)
        have g3 := IB1.out.free 3 (by omega)
        have g4 := IB1.out.free 4 (by omega)
        go_wp2_with fail
        clear d0 d1 d2 d3 d4 d5 d6 g1 g2 g3 g4
        go_meet
        exact ⟨rfl, _, _, _, _, IB1.out.setV 0, by rw [HG.out]; simp [stk_zero, hlt]⟩
      · have hz : (v == 0) = false := by have := HN.out; simp; omega
        obtain ⟨d0, d1, d2, d3, d4, d5, d6⟩ := IB1.out.cells
        have g1 := IB1.out.free 1 (by omega)
        have g2 := IB1.out.free 2 (by omega)
        have g3 := IB1.out.free 3 (by omega)
        have g4 := IB1.out.free 4 (by omega)
        go_wp2_with fail
        clear d0 d1 d2 d3 d4 d5 d6 g1 g2 g3 g4
        go_meet
        exact ⟨rfl, _, _, _, _, IB1.out, by rw [HG.out]; simp [stk_zero, hlt, hz]⟩
    | false =>
    go_upto_if 73 with fail
    go_cut [73] from 7 to 120 (fun st w' => st = .bool q11 ∧ W = w')
    case first =>
     as_aux_lemma =>
      cases q11 with
      | true =>
        have hm : (op = 12 ∨ op = 15) := by have h := HQ11.out.symm; simp at h; omega
        clear HQ HN hop IB HW HX HQ0 HQ1 HQ2 HQ3 HQ4 HQ5 HQ6 HQ7 HQ8 HQ9 HQ10 HQ11 HQ12
        rcases hm with rfl | rfl
        all_goals
          go_wp2_with fail
          go_meet
          exact ⟨rfl, rfl⟩
      | false =>
        have hm : (op == 12) = false ∧ (op == 15) = false := by have h := HQ11.out.symm; simpa [and_assoc] using h
        clear HQ HN hop IB HW HX HQ0 HQ1 HQ2 HQ3 HQ4 HQ5 HQ6 HQ7 HQ8 HQ9 HQ10 HQ11 HQ12
        obtain ⟨n12, n15⟩ := hm
        go_wp2_with fail
        go_meet
        exact ⟨by simp [*], rfl⟩
    case rest =>
    obtain ⟨rfl, rfl⟩ := hcut
    cases q11 with
    | true =>
     as_aux_lemma =>
      have HG := Lib.hid (show Q = ((a == 0) && ((b == 0) && ((c == 0) && decide (v < n)))) by rw [HQ.out]; exact ok_g11 op a b c v m wh n (by have h := HQ11.out.symm; simp at h; omega))
      by_cases hlt : v < n
      · obtain ⟨d0, d1, d2, d3, d4, d5, d6⟩ := IB.out.cells
        have g1 := IB.out.free 1 (by omega)
        have g2 := IB.out.free 2 (by omega)
        have g3 := IB.out.free 3 (by omega)
        have g4 := IB.out.free 4 (by omega)
        go_wp2_with fail
        clear d0 d1 d2 d3 d4 d5 d6 g1 g2 g3 g4
        go_meet
        exact ⟨rfl, _, _, _, _, IB.out.setV 0, by rw [HG.out]; simp [stk_zero, hlt]⟩
      · have hz : (v == 0) = false := by have := HN.out; simp; omega
        obtain ⟨d0, d1, d2, d3, d4, d5, d6⟩ := IB.out.cells
        have g1 := IB.out.free 1 (by omega)
        have g2 := IB.out.free 2 (by omega)
        have g3 := IB.out.free 3 (by omega)
        have g4 := IB.out.free 4 (by omega)
        go_wp2_with fail
        clear d0 d1 d2 d3 d4 d5 d6 g1 g2 g3 g4
        go_meet
        exact ⟨rfl, _, _, _, _, IB.out, by rw [HG.out]; simp [stk_zero, hlt, hz]⟩
    | false =>
    have HE12 := Lib.hid (show q12 = (op == 22) from HQ12.out)
    cases q12 with
    | true =>
     as_aux_lemma =>
      have HG := Lib.hid (show Q = ((a == 0) && ((b == 0) && ((c == 0) && decide (v ≤ 999)))) by rw [HQ.out]; exact ok_g12 op a b c v m wh n (by have h := HQ12.out.symm; simp at h; omega))
      have he : (op == 22) = true := HE12.out.symm
      by_cases hlt : v ≤ 999
      · obtain ⟨d0, d1, d2, d3, d4, d5, d6⟩ := IB.out.cells
        have g1 := IB.out.free 1 (by omega)
        have g2 := IB.out.free 2 (by omega)
        have g3 := IB.out.free 3 (by omega)
        have g4 := IB.out.free 4 (by omega)
        go_wp2_with fail
        clear d0 d1 d2 d3 d4 d5 d6 g1 g2 g3 g4
        go_meet
        exact ⟨rfl, _, _, _, _, IB.out.setV 0, by rw [HG.out]; simp [stk_zero, hlt]⟩
      · have hz : (v == 0) = false := by simp; omega
        obtain ⟨d0, d1, d2, d3, d4, d5, d6⟩ := IB.out.cells
        have g1 := IB.out.free 1 (by omega)
        have g2 := IB.out.free 2 (by omega)
        have g3 := IB.out.free 3 (by omega)
        have g4 := IB.out.free 4 (by omega)
        go_wp2_with fail
        clear d0 d1 d2 d3 d4 d5 d6 g1 g2 g3 g4
        go_meet
        exact ⟨rfl, _, _, _, _, IB.out, by rw [HG.out]; simp [stk_zero, hlt, hz]⟩
    | false =>
    have he12 : (op == 22) = false := HE12.out.symm
    exfalso
    have h1 := hop.out
    have h0 := HQ0.out.symm; have h1 := HQ1.out.symm; have h2 := HQ2.out.symm; have h3 := HQ3.out.symm; have h4 := HQ4.out.symm; have h5 := HQ5.out.symm; have h6 := HQ6.out.symm; have h7 := HQ7.out.symm; have h8 := HQ8.out.symm; have h9 := HQ9.out.symm; have h10 := HQ10.out.symm; have h11 := HQ11.out.symm; have h12 := HQ12.out.symm
    simp at h0 h1 h2 h3 h4 h5 h6 h7 h8 h9 h10 h11 h12
    omega
  case rest =>
  as_aux_lemma =>
  obtain ⟨rfl, A, B, C, V, ib, hQ⟩ := hcut
  have FIN := Lib.hid ib.b
  obtain ⟨d0, d1, d2, d3, d4, d5, d6⟩ := ib.cells
  clear ib HQ hop HN IB HW HX HQ0 HQ1 HQ2 HQ3 HQ4 HQ5 HQ6 HQ7 HQ8 HQ9 HQ10 HQ11 HQ12
  cases t1 : (A == 0) with
  | false =>
    obtain rfl : Q = false := by rw [hQ, t1]; rfl
    clear hQ
    go_wp2_with fail
    go_ret
    exact ⟨rfl, FIN.out⟩
  | true =>
  cases t2 : (B == 0) with
  | false =>
    obtain rfl : Q = false := by rw [hQ, t1, t2]; rfl
    clear hQ
    go_wp2_with fail
    go_ret
    exact ⟨rfl, FIN.out⟩
  | true =>
  cases t3 : (C == 0) with
  | false =>
    obtain rfl : Q = false := by rw [hQ, t1, t2, t3]; rfl
    clear hQ
    go_wp2_with fail
    go_ret
    exact ⟨rfl, FIN.out⟩
  | true =>
  cases t4 : (V == 0) with
  | false =>
    obtain rfl : Q = false := by rw [hQ, t1, t2, t3, t4]; rfl
    clear hQ
    go_wp2_with fail
    go_ret
    exact ⟨rfl, FIN.out⟩
  | true =>
    obtain rfl : Q = true := by rw [hQ, t1, t2, t3, t4]; rfl
    clear hQ
    go_wp2_with fail
    go_ret
    exact ⟨rfl, FIN.out⟩

/-- May an instruction be, whatever its mark, in a code of n? -/
theorem vvalid_any (op a b c v m wh n : Int) (hn : 1 ≤ n) (hn1 : n ≤ 9223372036854775807) (hv0 : 0 ≤ v) (hv1 : v ≤ 18446744073709551615) (w : World) :
    Calls Tryd.prog 41 #[.agg #[.int .i64 op, .int .i64 a, .int .i64 b, .int .i64 c, .int .u64 v, .int .i64 m, .int .i64 wh], .int .i64 n] w (ValPost (okB ⟨op, a, b, c, v, m, wh⟩ n) w) := by
  cases h : (shapeOf op).Is with
  | true => exact valid_some op a b c v m wh n hn hn1 hv0 hv1 h w
  | false =>
    rw [show okB ⟨op, a, b, c, v, m, wh⟩ n = false by rw [ok_eq]; show ((shapeOf op).Is && _) = false; rw [h]; rfl]
    exact valid_none op a b c v m wh n h w
end Go.Proofs.YtobbmhboahognaaDoor
