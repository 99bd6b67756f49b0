/- The program's row of an operation (layer 4): the contract of rowOf, at every number. -/
import Derived.Test.YtneajiglkiffjaaGreatDoorCodePlain
import Derived.Test.YtneajiglkiffjaaGreatDoorProg
import Derived.WalkKit
import Derived.WalkSpells
import Derived.WalkLawsBesides
import Derived.Lib.Hide
import Derived.Laws.Rows
import Derived.Laws.ResultCell
import Derived.Deep.CutRange
import Derived.Deep.DeepCutAuto
import Derived.Deep.CutBlock
import Derived.Deep.Light
namespace Go.Proofs.YtneajiglkiffjaaGreatDoor
open Go.RowKit
set_option linter.unusedVariables false

/-- What a row says of V: 0 it is 0, 1 any where B or C is none, 2 any, 3 an instruction's index, 4 a call's number. -/
def vOf (op : Int) : Int := if (shapeOf op).Is = false then 0 else if (shapeOf op).NoC = true ∨ op = 43 then 1 else if (shapeOf op).Place = true then 3 else if op = 22 then 4 else if (shapeOf op).V = true then 2 else 0
/-- The cells of the program's row. -/
def rowCs (op : Int) : List Value := [.bool (shapeOf op).A, .bool (shapeOf op).B, .bool (shapeOf op).C, .bool (shapeOf op).NoB, .bool (shapeOf op).NoC, .int .i64 (vOf op)]
theorem alloc2_below' (w : World) (a b : Obj) : Below w.heap.size w ((w.alloc a).alloc b) := ((Below.refl _ _).alloc (Nat.le_refl _) _).alloc (by simp) _
/-- Two results, the first a struct out of a cell. -/
theorem results_row_tmp {fn : Func} {p u : Tmp} {ty : TypeId} {P : Program} (h : fn.results = #[.cell p ty, .tmp u]) (tmps : Array Value) (w : World) (g : Nat) (t : TypeId) (cs : Array Value) (fr : Nat × Nat) (d : TypeDesc) (v : Value)
    (hp : tmps.getD p undef = .pointer (some ⟨g, 0, none⟩)) (hq : tmps.getD u undef = v) (hg : w.heap[g]? = some (.cells cs t fr))
    (hd : (match d with | .struct _ | .array _ _ => true | _ => false) = true) (hu : P.underlying ty = some d) (hi : (P.info? ty).map (·.size) = some cs.size) :
    (results fn tmps).run P w = .ok (.tuple #[.agg cs, v]) w := by
  rw [results_cell_tmp h, hp, hq]
  simp [asAddr, Result.andThen, run_loadVar_row w g t ty cs fr d hg hu (by cases d <;> first | rfl | exact hd) hi]
/-- What rowOf leaves. -/
def RowPost (cs : List Value) (is : Bool) (w : World) (e : Ending) (w' : World) : Prop := e = .returned (.tuple #[.agg cs.toArray, .bool is]) ∧ Below w.heap.size w w'

theorem info_prow : (Tryz.prog.info? 152).map (·.size) = some 6 := by kernel_rfl
theorem row_g0 (op : Int) (h : op = 3 ∨ op = 4 ∨ op = 5 ∨ op = 6 ∨ op = 7 ∨ op = 8 ∨ op = 9 ∨ op = 10 ∨ op = 11) : rowCs op = [.bool true, .bool true, .bool true, .bool false, .bool true, .int .i64 1] ∧ (shapeOf op).Is = true := by
  rcases h with rfl | rfl | rfl | rfl | rfl | rfl | rfl | rfl | rfl <;> exact ⟨rfl, rfl⟩
theorem row_g1 (op : Int) (h : op = 24 ∨ op = 25 ∨ op = 26 ∨ op = 27 ∨ op = 48) : rowCs op = [.bool true, .bool true, .bool true, .bool false, .bool false, .int .i64 0] ∧ (shapeOf op).Is = true := by
  rcases h with rfl | rfl | rfl | rfl | rfl <;> exact ⟨rfl, rfl⟩
theorem row_g2 (op : Int) (h : op = 2 ∨ op = 23 ∨ op = 49 ∨ op = 50 ∨ op = 47 ∨ op = 39 ∨ op = 54) : rowCs op = [.bool true, .bool true, .bool false, .bool false, .bool false, .int .i64 0] ∧ (shapeOf op).Is = true := by
  rcases h with rfl | rfl | rfl | rfl | rfl | rfl | rfl <;> exact ⟨rfl, rfl⟩
theorem row_g3 (op : Int) (h : op = 28 ∨ op = 29 ∨ op = 30 ∨ op = 34 ∨ op = 35 ∨ op = 36 ∨ op = 37 ∨ op = 38 ∨ op = 40 ∨ op = 41 ∨ op = 42 ∨ op = 44 ∨ op = 46 ∨ op = 51 ∨ op = 52 ∨ op = 53 ∨ op = 57) : rowCs op = [.bool true, .bool false, .bool false, .bool false, .bool false, .int .i64 0] ∧ (shapeOf op).Is = true := by
  rcases h with rfl | rfl | rfl | rfl | rfl | rfl | rfl | rfl | rfl | rfl | rfl | rfl | rfl | rfl | rfl | rfl | rfl <;> exact ⟨rfl, rfl⟩
theorem row_g4 (op : Int) (h : op = 16 ∨ op = 33 ∨ op = 55 ∨ op = 56 ∨ op = 58) : rowCs op = [.bool false, .bool false, .bool false, .bool false, .bool false, .int .i64 0] ∧ (shapeOf op).Is = true := by
  rcases h with rfl | rfl | rfl | rfl | rfl <;> exact ⟨rfl, rfl⟩
theorem row_g5 (op : Int) (h : op = 21 ∨ op = 32) : rowCs op = [.bool true, .bool true, .bool true, .bool true, .bool false, .int .i64 2] ∧ (shapeOf op).Is = true := by
  rcases h with rfl | rfl <;> exact ⟨rfl, rfl⟩
theorem row_g6 (op : Int) (h : op = 17 ∨ op = 18 ∨ op = 19 ∨ op = 20 ∨ op = 31) : rowCs op = [.bool true, .bool true, .bool false, .bool true, .bool false, .int .i64 2] ∧ (shapeOf op).Is = true := by
  rcases h with rfl | rfl | rfl | rfl | rfl <;> exact ⟨rfl, rfl⟩
theorem row_g7 (op : Int) (h : op = 45) : rowCs op = [.bool true, .bool true, .bool false, .bool false, .bool false, .int .i64 2] ∧ (shapeOf op).Is = true := by
  subst h; exact ⟨rfl, rfl⟩
theorem row_g8 (op : Int) (h : op = 1) : rowCs op = [.bool true, .bool false, .bool false, .bool false, .bool false, .int .i64 2] ∧ (shapeOf op).Is = true := by
  subst h; exact ⟨rfl, rfl⟩
theorem row_g9 (op : Int) (h : op = 43) : rowCs op = [.bool true, .bool true, .bool false, .bool true, .bool false, .int .i64 1] ∧ (shapeOf op).Is = true := by
  subst h; exact ⟨rfl, rfl⟩
theorem row_g10 (op : Int) (h : op = 13 ∨ op = 14) : rowCs op = [.bool true, .bool false, .bool false, .bool false, .bool false, .int .i64 3] ∧ (shapeOf op).Is = true := by
  rcases h with rfl | rfl <;> exact ⟨rfl, rfl⟩
theorem row_g11 (op : Int) (h : op = 12 ∨ op = 15) : rowCs op = [.bool false, .bool false, .bool false, .bool false, .bool false, .int .i64 3] ∧ (shapeOf op).Is = true := by
  rcases h with rfl | rfl <;> exact ⟨rfl, rfl⟩
theorem row_g12 (op : Int) (h : op = 22) : rowCs op = [.bool false, .bool false, .bool false, .bool false, .bool false, .int .i64 4] ∧ (shapeOf op).Is = true := by
  subst h; exact ⟨rfl, rfl⟩
theorem row_gn (op : Int) (n1 : ¬ op = 1) (n2 : ¬ op = 2) (n3 : ¬ op = 3) (n4 : ¬ op = 4) (n5 : ¬ op = 5) (n6 : ¬ op = 6) (n7 : ¬ op = 7) (n8 : ¬ op = 8) (n9 : ¬ op = 9) (n10 : ¬ op = 10) (n11 : ¬ op = 11) (n12 : ¬ op = 12) (n13 : ¬ op = 13) (n14 : ¬ op = 14) (n15 : ¬ op = 15) (n16 : ¬ op = 16) (n17 : ¬ op = 17) (n18 : ¬ op = 18) (n19 : ¬ op = 19) (n20 : ¬ op = 20) (n21 : ¬ op = 21) (n22 : ¬ op = 22) (n23 : ¬ op = 23) (n24 : ¬ op = 24) (n25 : ¬ op = 25) (n26 : ¬ op = 26) (n27 : ¬ op = 27) (n28 : ¬ op = 28) (n29 : ¬ op = 29) (n30 : ¬ op = 30) (n31 : ¬ op = 31) (n32 : ¬ op = 32) (n33 : ¬ op = 33) (n34 : ¬ op = 34) (n35 : ¬ op = 35) (n36 : ¬ op = 36) (n37 : ¬ op = 37) (n38 : ¬ op = 38) (n39 : ¬ op = 39) (n40 : ¬ op = 40) (n41 : ¬ op = 41) (n42 : ¬ op = 42) (n43 : ¬ op = 43) (n44 : ¬ op = 44) (n45 : ¬ op = 45) (n46 : ¬ op = 46) (n47 : ¬ op = 47) (n48 : ¬ op = 48) (n49 : ¬ op = 49) (n50 : ¬ op = 50) (n51 : ¬ op = 51) (n52 : ¬ op = 52) (n53 : ¬ op = 53) (n54 : ¬ op = 54) (n55 : ¬ op = 55) (n56 : ¬ op = 56) (n57 : ¬ op = 57) (n58 : ¬ op = 58) : rowCs op = [.bool false, .bool false, .bool false, .bool false, .bool false, .int .i64 0] ∧ (shapeOf op).Is = false := by
  have hs : shapeOf op = shp0 := by unfold shapeOf; rw [if_neg (by omega)]
  have hv : rowCs op = [.bool false, .bool false, .bool false, .bool false, .bool false, .int .i64 0] := by unfold rowCs vOf; rw [hs]; rfl
  rw [hv, hs]; exact ⟨rfl, rfl⟩

set_option maxHeartbeats 40000000 in
set_option maxRecDepth 100000 in
theorem row_any (op : Int) (w : World) : Calls Tryz.prog 79 #[.int .i64 op] w (RowPost (rowCs op) (shapeOf op).Is w) := by
  obtain ⟨P, hP⟩ : ∃ P, P = RowPost (rowCs op) (shapeOf op).Is w := ⟨_, rfl⟩
  rw [← hP]
  have HP0 := Lib.hid hP
  clear hP
  obtain ⟨W, hW⟩ : ∃ W, W = (w.alloc (.cells #[.bool false, .bool false, .bool false, .bool false, .bool false, .int .i64 0] 152)).alloc (.cells #[.bool false, .bool false, .bool false, .bool false, .bool false, .int .i64 0] 152) := ⟨_, rfl⟩
  have HW := Lib.hid hW
  clear hW
  obtain ⟨q0, hq0⟩ : ∃ q, q = ((op == 3) || (op == 4) || (op == 5) || (op == 6) || (op == 7) || (op == 8) || (op == 9) || (op == 10) || (op == 11)) := ⟨_, rfl⟩
  have HQ0 := Lib.hid hq0
  clear hq0
  obtain ⟨q1, hq1⟩ : ∃ q, q = ((op == 24) || (op == 25) || (op == 26) || (op == 27) || (op == 48)) := ⟨_, rfl⟩
  have HQ1 := Lib.hid hq1
  clear hq1
  obtain ⟨q2, hq2⟩ : ∃ q, q = ((op == 2) || (op == 23) || (op == 49) || (op == 50) || (op == 47) || (op == 39) || (op == 54)) := ⟨_, rfl⟩
  have HQ2 := Lib.hid hq2
  clear hq2
  obtain ⟨q3, hq3⟩ : ∃ q, q = ((op == 28) || (op == 29) || (op == 30) || (op == 34) || (op == 35) || (op == 36) || (op == 37) || (op == 38) || (op == 40) || (op == 41) || (op == 42) || (op == 44) || (op == 46) || (op == 51) || (op == 52) || (op == 53) || (op == 57)) := ⟨_, rfl⟩
  have HQ3 := Lib.hid hq3
  clear hq3
  obtain ⟨q4, hq4⟩ : ∃ q, q = ((op == 16) || (op == 33) || (op == 55) || (op == 56) || (op == 58)) := ⟨_, rfl⟩
  have HQ4 := Lib.hid hq4
  clear hq4
  obtain ⟨q5, hq5⟩ : ∃ q, q = ((op == 21) || (op == 32)) := ⟨_, rfl⟩
  have HQ5 := Lib.hid hq5
  clear hq5
  obtain ⟨q6, hq6⟩ : ∃ q, q = ((op == 17) || (op == 18) || (op == 19) || (op == 20) || (op == 31)) := ⟨_, rfl⟩
  have HQ6 := Lib.hid hq6
  clear hq6
  obtain ⟨q7, hq7⟩ : ∃ q, q = ((op == 45)) := ⟨_, rfl⟩
  have HQ7 := Lib.hid hq7
  clear hq7
  obtain ⟨q8, hq8⟩ : ∃ q, q = ((op == 1)) := ⟨_, rfl⟩
  have HQ8 := Lib.hid hq8
  clear hq8
  obtain ⟨q9, hq9⟩ : ∃ q, q = ((op == 43)) := ⟨_, rfl⟩
  have HQ9 := Lib.hid hq9
  clear hq9
  obtain ⟨q10, hq10⟩ : ∃ q, q = ((op == 13) || (op == 14)) := ⟨_, rfl⟩
  have HQ10 := Lib.hid hq10
  clear hq10
  obtain ⟨q11, hq11⟩ : ∃ q, q = ((op == 12) || (op == 15)) := ⟨_, rfl⟩
  have HQ11 := Lib.hid hq11
  clear hq11
  obtain ⟨q12, hq12⟩ : ∃ q, q = ((op == 22)) := ⟨_, rfl⟩
  have HQ12 := Lib.hid hq12
  clear hq12
  go_enter Tryz.func79, Tryz.ntmps79
  go_upto_if 7 with fail
  rw [← HW.out]
  go_cut [7] from 7 to 95 (fun st w' => st = .bool q0 ∧ W = w')
  case first =>
   as_aux_lemma =>
    cases q0 with
    | true =>
      have hm : op = 3 ∨ op = 4 ∨ op = 5 ∨ op = 6 ∨ op = 7 ∨ op = 8 ∨ op = 9 ∨ op = 10 ∨ op = 11 := by have h := HQ0.out.symm; simp at h; omega
      clear HP0 HW HQ0 HQ1 HQ2 HQ3 HQ4 HQ5 HQ6 HQ7 HQ8 HQ9 HQ10 HQ11 HQ12
      rcases hm with rfl | rfl | rfl | rfl | rfl | rfl | rfl | rfl | rfl
      all_goals
        go_wp2_with fail
        go_meet
        exact ⟨rfl, rfl⟩
    | false =>
      have hm : (op == 3) = false ∧ (op == 4) = false ∧ (op == 5) = false ∧ (op == 6) = false ∧ (op == 7) = false ∧ (op == 8) = false ∧ (op == 9) = false ∧ (op == 10) = false ∧ (op == 11) = false := by have h := HQ0.out.symm; simpa [and_assoc] using h
      clear HP0 HW HQ0 HQ1 HQ2 HQ3 HQ4 HQ5 HQ6 HQ7 HQ8 HQ9 HQ10 HQ11 HQ12
      obtain ⟨n3, n4, n5, n6, n7, n8, n9, n10, n11⟩ := hm
      go_wp2_with fail
      go_meet
      exact ⟨by simp [*], rfl⟩
  case rest =>
  obtain ⟨rfl, rfl⟩ := hcut
  cases q0 with
  | true =>
   as_aux_lemma =>
    obtain ⟨e1, e2⟩ := (row_g0 op (by have h := HQ0.out.symm; simp at h; omega))
    have HP := Lib.hid (show P = RowPost [.bool true, .bool true, .bool true, .bool false, .bool true, .int .i64 1] true w by rw [HP0.out, e1, e2])
    have hW := HW.out
    clear HP0 e1 e2
    subst hW
    go_upto_region 65 with fail
    as_aux_lemma =>
    go_wp2_with fail
    as_aux_lemma =>
    refine bodyPost_ret (results_row_tmp rfl _ _ w.heap.size _ _ (0, 0) _ _ rfl rfl (heap_alloc2_old w _ _) rfl Tryz.underlying152 info_prow) rfl ?_
    rw [HP.out]
    exact ⟨rfl, alloc2_below' w _ _⟩
  | false =>
  go_upto_if 17 with fail
  go_cut [17] from 7 to 95 (fun st w' => st = .bool q1 ∧ W = w')
  case first =>
   as_aux_lemma =>
    cases q1 with
    | true =>
      have hm : op = 24 ∨ op = 25 ∨ op = 26 ∨ op = 27 ∨ op = 48 := by have h := HQ1.out.symm; simp at h; omega
      clear HP0 HW HQ0 HQ1 HQ2 HQ3 HQ4 HQ5 HQ6 HQ7 HQ8 HQ9 HQ10 HQ11 HQ12
      rcases hm with rfl | rfl | rfl | rfl | rfl
      all_goals
        go_wp2_with fail
        go_meet
        exact ⟨rfl, rfl⟩
    | false =>
      have hm : (op == 24) = false ∧ (op == 25) = false ∧ (op == 26) = false ∧ (op == 27) = false ∧ (op == 48) = false := by have h := HQ1.out.symm; simpa [and_assoc] using h
      clear HP0 HW HQ0 HQ1 HQ2 HQ3 HQ4 HQ5 HQ6 HQ7 HQ8 HQ9 HQ10 HQ11 HQ12
      obtain ⟨n24, n25, n26, n27, n48⟩ := hm
      go_wp2_with fail
      go_meet
      exact ⟨by simp [*], rfl⟩
  case rest =>
  obtain ⟨rfl, rfl⟩ := hcut
  cases q1 with
  | true =>
   as_aux_lemma =>
    obtain ⟨e1, e2⟩ := (row_g1 op (by have h := HQ1.out.symm; simp at h; omega))
    have HP := Lib.hid (show P = RowPost [.bool true, .bool true, .bool true, .bool false, .bool false, .int .i64 0] true w by rw [HP0.out, e1, e2])
    have hW := HW.out
    clear HP0 e1 e2
    subst hW
    go_upto_region 65 with fail
    as_aux_lemma =>
    go_wp2_with fail
    as_aux_lemma =>
    refine bodyPost_ret (results_row_tmp rfl _ _ w.heap.size _ _ (0, 0) _ _ rfl rfl (heap_alloc2_old w _ _) rfl Tryz.underlying152 info_prow) rfl ?_
    rw [HP.out]
    exact ⟨rfl, alloc2_below' w _ _⟩
  | false =>
  go_upto_if 23 with fail
  go_cut [23] from 7 to 95 (fun st w' => st = .bool q2 ∧ W = w')
  case first =>
   as_aux_lemma =>
    cases q2 with
    | true =>
      have hm : op = 2 ∨ op = 23 ∨ op = 49 ∨ op = 50 ∨ op = 47 ∨ op = 39 ∨ op = 54 := by have h := HQ2.out.symm; simp at h; omega
      clear HP0 HW HQ0 HQ1 HQ2 HQ3 HQ4 HQ5 HQ6 HQ7 HQ8 HQ9 HQ10 HQ11 HQ12
      rcases hm with rfl | rfl | rfl | rfl | rfl | rfl | rfl
      all_goals
        go_wp2_with fail
        go_meet
        exact ⟨rfl, rfl⟩
    | false =>
      have hm : (op == 2) = false ∧ (op == 23) = false ∧ (op == 49) = false ∧ (op == 50) = false ∧ (op == 47) = false ∧ (op == 39) = false ∧ (op == 54) = false := by have h := HQ2.out.symm; simpa [and_assoc] using h
      clear HP0 HW HQ0 HQ1 HQ2 HQ3 HQ4 HQ5 HQ6 HQ7 HQ8 HQ9 HQ10 HQ11 HQ12
      obtain ⟨n2, n23, n49, n50, n47, n39, n54⟩ := hm
      go_wp2_with fail
      go_meet
      exact ⟨by simp [*], rfl⟩
  case rest =>
  obtain ⟨rfl, rfl⟩ := hcut
  cases q2 with
  | true =>
   as_aux_lemma =>
    obtain ⟨e1, e2⟩ := (row_g2 op (by have h := HQ2.out.symm; simp at h; omega))
    have HP := Lib.hid (show P = RowPost [.bool true, .bool true, .bool false, .bool false, .bool false, .int .i64 0] true w by rw [HP0.out, e1, e2])
    have hW := HW.out
    clear HP0 e1 e2
    subst hW
    go_upto_region 65 with fail
    as_aux_lemma =>
    go_wp2_with fail
    as_aux_lemma =>
    refine bodyPost_ret (results_row_tmp rfl _ _ w.heap.size _ _ (0, 0) _ _ rfl rfl (heap_alloc2_old w _ _) rfl Tryz.underlying152 info_prow) rfl ?_
    rw [HP.out]
    exact ⟨rfl, alloc2_below' w _ _⟩
  | false =>
  go_upto_if 31 with fail
  go_cut [31] from 7 to 95 (fun st w' => st = .bool q3 ∧ W = w')
  case first =>
   as_aux_lemma =>
    cases q3 with
    | true =>
      have hm : op = 28 ∨ op = 29 ∨ op = 30 ∨ op = 34 ∨ op = 35 ∨ op = 36 ∨ op = 37 ∨ op = 38 ∨ op = 40 ∨ op = 41 ∨ op = 42 ∨ op = 44 ∨ op = 46 ∨ op = 51 ∨ op = 52 ∨ op = 53 ∨ op = 57 := by have h := HQ3.out.symm; simp at h; omega
      clear HP0 HW HQ0 HQ1 HQ2 HQ3 HQ4 HQ5 HQ6 HQ7 HQ8 HQ9 HQ10 HQ11 HQ12
      rcases hm with rfl | rfl | rfl | rfl | rfl | rfl | rfl | rfl | rfl | rfl | rfl | rfl | rfl | rfl | rfl | rfl | rfl
      all_goals
        go_wp2_with fail
        go_meet
        exact ⟨rfl, rfl⟩
    | false =>
      have hm : (op == 28) = false ∧ (op == 29) = false ∧ (op == 30) = false ∧ (op == 34) = false ∧ (op == 35) = false ∧ (op == 36) = false ∧ (op == 37) = false ∧ (op == 38) = false ∧ (op == 40) = false ∧ (op == 41) = false ∧ (op == 42) = false ∧ (op == 44) = false ∧ (op == 46) = false ∧ (op == 51) = false ∧ (op == 52) = false ∧ (op == 53) = false ∧ (op == 57) = false := by have h := HQ3.out.symm; simpa [and_assoc] using h
      clear HP0 HW HQ0 HQ1 HQ2 HQ3 HQ4 HQ5 HQ6 HQ7 HQ8 HQ9 HQ10 HQ11 HQ12
      obtain ⟨n28, n29, n30, n34, n35, n36, n37, n38, n40, n41, n42, n44, n46, n51, n52, n53, n57⟩ := hm
      go_wp2_with fail
      go_meet
      exact ⟨by simp [*], rfl⟩
  case rest =>
  obtain ⟨rfl, rfl⟩ := hcut
  cases q3 with
  | true =>
   as_aux_lemma =>
    obtain ⟨e1, e2⟩ := (row_g3 op (by have h := HQ3.out.symm; simp at h; omega))
    have HP := Lib.hid (show P = RowPost [.bool true, .bool false, .bool false, .bool false, .bool false, .int .i64 0] true w by rw [HP0.out, e1, e2])
    have hW := HW.out
    clear HP0 e1 e2
    subst hW
    go_upto_region 65 with fail
    as_aux_lemma =>
    go_wp2_with fail
    as_aux_lemma =>
    refine bodyPost_ret (results_row_tmp rfl _ _ w.heap.size _ _ (0, 0) _ _ rfl rfl (heap_alloc2_old w _ _) rfl Tryz.underlying152 info_prow) rfl ?_
    rw [HP.out]
    exact ⟨rfl, alloc2_below' w _ _⟩
  | false =>
  go_upto_if 49 with fail
  go_cut [49] from 7 to 95 (fun st w' => st = .bool q4 ∧ W = w')
  case first =>
   as_aux_lemma =>
    cases q4 with
    | true =>
      have hm : op = 16 ∨ op = 33 ∨ op = 55 ∨ op = 56 ∨ op = 58 := by have h := HQ4.out.symm; simp at h; omega
      clear HP0 HW HQ0 HQ1 HQ2 HQ3 HQ4 HQ5 HQ6 HQ7 HQ8 HQ9 HQ10 HQ11 HQ12
      rcases hm with rfl | rfl | rfl | rfl | rfl
      all_goals
        go_wp2_with fail
        go_meet
        exact ⟨rfl, rfl⟩
    | false =>
      have hm : (op == 16) = false ∧ (op == 33) = false ∧ (op == 55) = false ∧ (op == 56) = false ∧ (op == 58) = false := by have h := HQ4.out.symm; simpa [and_assoc] using h
      clear HP0 HW HQ0 HQ1 HQ2 HQ3 HQ4 HQ5 HQ6 HQ7 HQ8 HQ9 HQ10 HQ11 HQ12
      obtain ⟨n16, n33, n55, n56, n58⟩ := hm
      go_wp2_with fail
      go_meet
      exact ⟨by simp [*], rfl⟩
  case rest =>
  obtain ⟨rfl, rfl⟩ := hcut
  cases q4 with
  | true =>
   as_aux_lemma =>
    obtain ⟨e1, e2⟩ := (row_g4 op (by have h := HQ4.out.symm; simp at h; omega))
    have HP := Lib.hid (show P = RowPost [.bool false, .bool false, .bool false, .bool false, .bool false, .int .i64 0] true w by rw [HP0.out, e1, e2])
    have hW := HW.out
    clear HP0 e1 e2
    subst hW
    go_upto_region 65 with fail
    as_aux_lemma =>
    go_wp2_with fail
    as_aux_lemma =>
    refine bodyPost_ret (results_row_tmp rfl _ _ w.heap.size _ _ (0, 0) _ _ rfl rfl (heap_alloc2_old w _ _) rfl Tryz.underlying152 info_prow) rfl ?_
    rw [HP.out]
    exact ⟨rfl, alloc2_below' w _ _⟩
  | false =>
  go_upto_if 55 with fail
  go_cut [55] from 7 to 95 (fun st w' => st = .bool q5 ∧ W = w')
  case first =>
   as_aux_lemma =>
    cases q5 with
    | true =>
      have hm : op = 21 ∨ op = 32 := by have h := HQ5.out.symm; simp at h; omega
      clear HP0 HW HQ0 HQ1 HQ2 HQ3 HQ4 HQ5 HQ6 HQ7 HQ8 HQ9 HQ10 HQ11 HQ12
      rcases hm with rfl | rfl
      all_goals
        go_wp2_with fail
        go_meet
        exact ⟨rfl, rfl⟩
    | false =>
      have hm : (op == 21) = false ∧ (op == 32) = false := by have h := HQ5.out.symm; simpa [and_assoc] using h
      clear HP0 HW HQ0 HQ1 HQ2 HQ3 HQ4 HQ5 HQ6 HQ7 HQ8 HQ9 HQ10 HQ11 HQ12
      obtain ⟨n21, n32⟩ := hm
      go_wp2_with fail
      go_meet
      exact ⟨by simp [*], rfl⟩
  case rest =>
  obtain ⟨rfl, rfl⟩ := hcut
  cases q5 with
  | true =>
   as_aux_lemma =>
    obtain ⟨e1, e2⟩ := (row_g5 op (by have h := HQ5.out.symm; simp at h; omega))
    have HP := Lib.hid (show P = RowPost [.bool true, .bool true, .bool true, .bool true, .bool false, .int .i64 2] true w by rw [HP0.out, e1, e2])
    have hW := HW.out
    clear HP0 e1 e2
    subst hW
    go_upto_region 70 with fail
    as_aux_lemma =>
    go_wp2_with fail
    as_aux_lemma =>
    refine bodyPost_ret (results_row_tmp rfl _ _ w.heap.size _ _ (0, 0) _ _ rfl rfl (heap_alloc2_old w _ _) rfl Tryz.underlying152 info_prow) rfl ?_
    rw [HP.out]
    exact ⟨rfl, alloc2_below' w _ _⟩
  | false =>
  go_upto_if 58 with fail
  go_cut [58] from 7 to 95 (fun st w' => st = .bool q6 ∧ W = w')
  case first =>
   as_aux_lemma =>
    cases q6 with
    | true =>
      have hm : op = 17 ∨ op = 18 ∨ op = 19 ∨ op = 20 ∨ op = 31 := by have h := HQ6.out.symm; simp at h; omega
      clear HP0 HW HQ0 HQ1 HQ2 HQ3 HQ4 HQ5 HQ6 HQ7 HQ8 HQ9 HQ10 HQ11 HQ12
      rcases hm with rfl | rfl | rfl | rfl | rfl
      all_goals
        go_wp2_with fail
        go_meet
        exact ⟨rfl, rfl⟩
    | false =>
      have hm : (op == 17) = false ∧ (op == 18) = false ∧ (op == 19) = false ∧ (op == 20) = false ∧ (op == 31) = false := by have h := HQ6.out.symm; simpa [and_assoc] using h
      clear HP0 HW HQ0 HQ1 HQ2 HQ3 HQ4 HQ5 HQ6 HQ7 HQ8 HQ9 HQ10 HQ11 HQ12
      obtain ⟨n17, n18, n19, n20, n31⟩ := hm
      go_wp2_with fail
      go_meet
      exact ⟨by simp [*], rfl⟩
  case rest =>
  obtain ⟨rfl, rfl⟩ := hcut
  cases q6 with
  | true =>
   as_aux_lemma =>
    obtain ⟨e1, e2⟩ := (row_g6 op (by have h := HQ6.out.symm; simp at h; omega))
    have HP := Lib.hid (show P = RowPost [.bool true, .bool true, .bool false, .bool true, .bool false, .int .i64 2] true w by rw [HP0.out, e1, e2])
    have hW := HW.out
    clear HP0 e1 e2
    subst hW
    go_upto_region 70 with fail
    as_aux_lemma =>
    go_wp2_with fail
    as_aux_lemma =>
    refine bodyPost_ret (results_row_tmp rfl _ _ w.heap.size _ _ (0, 0) _ _ rfl rfl (heap_alloc2_old w _ _) rfl Tryz.underlying152 info_prow) rfl ?_
    rw [HP.out]
    exact ⟨rfl, alloc2_below' w _ _⟩
  | false =>
  have HE7 := Lib.hid (show q7 = (op == 45) from HQ7.out)
  cases q7 with
  | true =>
   as_aux_lemma =>
    obtain ⟨e1, e2⟩ := (row_g7 op (by have h := HQ7.out.symm; simp at h; omega))
    have HP := Lib.hid (show P = RowPost [.bool true, .bool true, .bool false, .bool false, .bool false, .int .i64 2] true w by rw [HP0.out, e1, e2])
    have hW := HW.out
    have he : (op == 45) = true := HE7.out.symm
    clear HP0 e1 e2
    subst hW
    go_upto_region 70 with fail
    as_aux_lemma =>
    go_wp2_with fail
    as_aux_lemma =>
    refine bodyPost_ret (results_row_tmp rfl _ _ w.heap.size _ _ (0, 0) _ _ rfl rfl (heap_alloc2_old w _ _) rfl Tryz.underlying152 info_prow) rfl ?_
    rw [HP.out]
    exact ⟨rfl, alloc2_below' w _ _⟩
  | false =>
  have he7 : (op == 45) = false := HE7.out.symm
  have HE8 := Lib.hid (show q8 = (op == 1) from HQ8.out)
  cases q8 with
  | true =>
   as_aux_lemma =>
    obtain ⟨e1, e2⟩ := (row_g8 op (by have h := HQ8.out.symm; simp at h; omega))
    have HP := Lib.hid (show P = RowPost [.bool true, .bool false, .bool false, .bool false, .bool false, .int .i64 2] true w by rw [HP0.out, e1, e2])
    have hW := HW.out
    have he : (op == 1) = true := HE8.out.symm
    clear HP0 e1 e2
    subst hW
    go_upto_region 70 with fail
    as_aux_lemma =>
    go_wp2_with fail
    as_aux_lemma =>
    refine bodyPost_ret (results_row_tmp rfl _ _ w.heap.size _ _ (0, 0) _ _ rfl rfl (heap_alloc2_old w _ _) rfl Tryz.underlying152 info_prow) rfl ?_
    rw [HP.out]
    exact ⟨rfl, alloc2_below' w _ _⟩
  | false =>
  have he8 : (op == 1) = false := HE8.out.symm
  have HE9 := Lib.hid (show q9 = (op == 43) from HQ9.out)
  cases q9 with
  | true =>
   as_aux_lemma =>
    obtain ⟨e1, e2⟩ := (row_g9 op (by have h := HQ9.out.symm; simp at h; omega))
    have HP := Lib.hid (show P = RowPost [.bool true, .bool true, .bool false, .bool true, .bool false, .int .i64 1] true w by rw [HP0.out, e1, e2])
    have hW := HW.out
    have he : (op == 43) = true := HE9.out.symm
    clear HP0 e1 e2
    subst hW
    go_upto_region 71 with fail
    as_aux_lemma =>
    go_wp2_with fail
    as_aux_lemma =>
    refine bodyPost_ret (results_row_tmp rfl _ _ w.heap.size _ _ (0, 0) _ _ rfl rfl (heap_alloc2_old w _ _) rfl Tryz.underlying152 info_prow) rfl ?_
    rw [HP.out]
    exact ⟨rfl, alloc2_below' w _ _⟩
  | false =>
  have he9 : (op == 43) = false := HE9.out.symm
  go_upto_if 70 with fail
  go_cut [70] from 7 to 95 (fun st w' => st = .bool q10 ∧ W = w')
  case first =>
   as_aux_lemma =>
    cases q10 with
    | true =>
      have hm : op = 13 ∨ op = 14 := by have h := HQ10.out.symm; simp at h; omega
      clear HP0 HW HQ0 HQ1 HQ2 HQ3 HQ4 HQ5 HQ6 HQ7 HQ8 HQ9 HQ10 HQ11 HQ12
      rcases hm with rfl | rfl
      all_goals
        go_wp2_with fail
        go_meet
        exact ⟨rfl, rfl⟩
    | false =>
      have hm : (op == 13) = false ∧ (op == 14) = false := by have h := HQ10.out.symm; simpa [and_assoc] using h
      clear HP0 HW HQ0 HQ1 HQ2 HQ3 HQ4 HQ5 HQ6 HQ7 HQ8 HQ9 HQ10 HQ11 HQ12
      obtain ⟨n13, n14⟩ := hm
      go_wp2_with fail
      go_meet
      exact ⟨by simp [*], rfl⟩
  case rest =>
  obtain ⟨rfl, rfl⟩ := hcut
  cases q10 with
  | true =>
   as_aux_lemma =>
    obtain ⟨e1, e2⟩ := (row_g10 op (by have h := HQ10.out.symm; simp at h; omega))
    have HP := Lib.hid (show P = RowPost [.bool true, .bool false, .bool false, .bool false, .bool false, .int .i64 3] true w by rw [HP0.out, e1, e2])
    have hW := HW.out
    clear HP0 e1 e2
    subst hW
    go_upto_region 74 with fail
    as_aux_lemma =>
    go_wp2_with fail
    as_aux_lemma =>
    refine bodyPost_ret (results_row_tmp rfl _ _ w.heap.size _ _ (0, 0) _ _ rfl rfl (heap_alloc2_old w _ _) rfl Tryz.underlying152 info_prow) rfl ?_
    rw [HP.out]
    exact ⟨rfl, alloc2_below' w _ _⟩
  | false =>
  go_upto_if 73 with fail
  go_cut [73] from 7 to 95 (fun st w' => st = .bool q11 ∧ W = w')
  case first =>
   as_aux_lemma =>
    cases q11 with
    | true =>
      have hm : op = 12 ∨ op = 15 := by have h := HQ11.out.symm; simp at h; omega
      clear HP0 HW HQ0 HQ1 HQ2 HQ3 HQ4 HQ5 HQ6 HQ7 HQ8 HQ9 HQ10 HQ11 HQ12
      rcases hm with rfl | rfl
      all_goals
        go_wp2_with fail
        go_meet
        exact ⟨rfl, rfl⟩
    | false =>
      have hm : (op == 12) = false ∧ (op == 15) = false := by have h := HQ11.out.symm; simpa [and_assoc] using h
      clear HP0 HW HQ0 HQ1 HQ2 HQ3 HQ4 HQ5 HQ6 HQ7 HQ8 HQ9 HQ10 HQ11 HQ12
      obtain ⟨n12, n15⟩ := hm
      go_wp2_with fail
      go_meet
      exact ⟨by simp [*], rfl⟩
  case rest =>
  obtain ⟨rfl, rfl⟩ := hcut
  cases q11 with
  | true =>
   as_aux_lemma =>
    obtain ⟨e1, e2⟩ := (row_g11 op (by have h := HQ11.out.symm; simp at h; omega))
    have HP := Lib.hid (show P = RowPost [.bool false, .bool false, .bool false, .bool false, .bool false, .int .i64 3] true w by rw [HP0.out, e1, e2])
    have hW := HW.out
    clear HP0 e1 e2
    subst hW
    go_upto_region 74 with fail
    as_aux_lemma =>
    go_wp2_with fail
    as_aux_lemma =>
    refine bodyPost_ret (results_row_tmp rfl _ _ w.heap.size _ _ (0, 0) _ _ rfl rfl (heap_alloc2_old w _ _) rfl Tryz.underlying152 info_prow) rfl ?_
    rw [HP.out]
    exact ⟨rfl, alloc2_below' w _ _⟩
  | false =>
  have HE12 := Lib.hid (show q12 = (op == 22) from HQ12.out)
  cases q12 with
  | true =>
   as_aux_lemma =>
    obtain ⟨e1, e2⟩ := (row_g12 op (by have h := HQ12.out.symm; simp at h; omega))
    have HP := Lib.hid (show P = RowPost [.bool false, .bool false, .bool false, .bool false, .bool false, .int .i64 4] true w by rw [HP0.out, e1, e2])
    have hW := HW.out
    have he : (op == 22) = true := HE12.out.symm
    clear HP0 e1 e2
    subst hW
    go_upto_region 75 with fail
    as_aux_lemma =>
    go_wp2_with fail
    as_aux_lemma =>
    refine bodyPost_ret (results_row_tmp rfl _ _ w.heap.size _ _ (0, 0) _ _ rfl rfl (heap_alloc2_old w _ _) rfl Tryz.underlying152 info_prow) rfl ?_
    rw [HP.out]
    exact ⟨rfl, alloc2_below' w _ _⟩
  | false =>
  have he12 : (op == 22) = false := HE12.out.symm
  obtain ⟨e1, e2⟩ := row_gn op (by have h := HQ8.out.symm; simp at h; omega) (by have h := HQ2.out.symm; simp at h; omega) (by have h := HQ0.out.symm; simp at h; omega) (by have h := HQ0.out.symm; simp at h; omega) (by have h := HQ0.out.symm; simp at h; omega) (by have h := HQ0.out.symm; simp at h; omega) (by have h := HQ0.out.symm; simp at h; omega) (by have h := HQ0.out.symm; simp at h; omega) (by have h := HQ0.out.symm; simp at h; omega) (by have h := HQ0.out.symm; simp at h; omega) (by have h := HQ0.out.symm; simp at h; omega) (by have h := HQ11.out.symm; simp at h; omega) (by have h := HQ10.out.symm; simp at h; omega) (by have h := HQ10.out.symm; simp at h; omega) (by have h := HQ11.out.symm; simp at h; omega) (by have h := HQ4.out.symm; simp at h; omega) (by have h := HQ6.out.symm; simp at h; omega) (by have h := HQ6.out.symm; simp at h; omega) (by have h := HQ6.out.symm; simp at h; omega) (by have h := HQ6.out.symm; simp at h; omega) (by have h := HQ5.out.symm; simp at h; omega) (by have h := HQ12.out.symm; simp at h; omega) (by have h := HQ2.out.symm; simp at h; omega) (by have h := HQ1.out.symm; simp at h; omega) (by have h := HQ1.out.symm; simp at h; omega) (by have h := HQ1.out.symm; simp at h; omega) (by have h := HQ1.out.symm; simp at h; omega) (by have h := HQ3.out.symm; simp at h; omega) (by have h := HQ3.out.symm; simp at h; omega) (by have h := HQ3.out.symm; simp at h; omega) (by have h := HQ6.out.symm; simp at h; omega) (by have h := HQ5.out.symm; simp at h; omega) (by have h := HQ4.out.symm; simp at h; omega) (by have h := HQ3.out.symm; simp at h; omega) (by have h := HQ3.out.symm; simp at h; omega) (by have h := HQ3.out.symm; simp at h; omega) (by have h := HQ3.out.symm; simp at h; omega) (by have h := HQ3.out.symm; simp at h; omega) (by have h := HQ2.out.symm; simp at h; omega) (by have h := HQ3.out.symm; simp at h; omega) (by have h := HQ3.out.symm; simp at h; omega) (by have h := HQ3.out.symm; simp at h; omega) (by have h := HQ9.out.symm; simp at h; omega) (by have h := HQ3.out.symm; simp at h; omega) (by have h := HQ7.out.symm; simp at h; omega) (by have h := HQ3.out.symm; simp at h; omega) (by have h := HQ2.out.symm; simp at h; omega) (by have h := HQ1.out.symm; simp at h; omega) (by have h := HQ2.out.symm; simp at h; omega) (by have h := HQ2.out.symm; simp at h; omega) (by have h := HQ3.out.symm; simp at h; omega) (by have h := HQ3.out.symm; simp at h; omega) (by have h := HQ3.out.symm; simp at h; omega) (by have h := HQ2.out.symm; simp at h; omega) (by have h := HQ4.out.symm; simp at h; omega) (by have h := HQ4.out.symm; simp at h; omega) (by have h := HQ3.out.symm; simp at h; omega) (by have h := HQ4.out.symm; simp at h; omega)
  have HP := Lib.hid (show P = RowPost [.bool false, .bool false, .bool false, .bool false, .bool false, .int .i64 0] false w by rw [HP0.out, e1, e2])
  have hW := HW.out
  clear HP0 e1 e2
  subst hW
  go_upto_region 76 with fail
  as_aux_lemma =>
  go_wp2_with fail
  as_aux_lemma =>
  refine bodyPost_ret (results_row_tmp rfl _ _ w.heap.size _ _ (0, 0) _ _ rfl rfl (heap_alloc2_old w _ _) rfl Tryz.underlying152 info_prow) rfl ?_
  rw [HP.out]
  exact ⟨rfl, alloc2_below' w _ _⟩
end Go.Proofs.YtneajiglkiffjaaGreatDoor
