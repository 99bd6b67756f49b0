/- The program's row of an operation (layer 4): the contract of rowOf at no operation. -/
import Derived.Test.YtncgkhgjclodaaaDoorCodePlain
import Derived.Test.YtncgkhgjclodaaaDoorProg
import Derived.WalkKit
import Derived.WalkSpells
import Derived.WalkLawsBesides
import Derived.Lib.Hide
import Derived.Laws.Rows
import Derived.Laws.ResultCell
namespace Go.Proofs.YtncgkhgjclodaaaDoor
open Go.RowKit
set_option linter.unusedVariables false

/-- What a row says of V: 0 it is 0, 1 any where B or C is none, 2 any, 3 an instruction's index, 4 a call's number. -/
def vOf (op : Int) : Int := if (shapeOf op).Is = false then 0 else if (shapeOf op).NoC = true ∨ op = 43 then 1 else if (shapeOf op).Place = true then 3 else if op = 22 then 4 else if (shapeOf op).V = true then 2 else 0
/-- The cells of the program's row. -/
def rowCs (op : Int) : List Value := [.bool (shapeOf op).A, .bool (shapeOf op).B, .bool (shapeOf op).C, .bool (shapeOf op).NoB, .bool (shapeOf op).NoC, .int .i64 (vOf op)]
theorem alloc2_below' (w : World) (a b : Obj) : Below w.heap.size w ((w.alloc a).alloc b) := ((Below.refl _ _).alloc (Nat.le_refl _) _).alloc (by simp) _
/-- Two results, the first a struct out of a cell. -/
theorem results_row_tmp {fn : Func} {p u : Tmp} {ty : TypeId} {P : Program} (h : fn.results = #[.cell p ty, .tmp u]) (tmps : Array Value) (w : World) (g : Nat) (t : TypeId) (cs : Array Value) (fr : Nat × Nat) (d : TypeDesc) (v : Value)
    (hp : tmps.getD p undef = .pointer (some ⟨g, 0, none⟩)) (hq : tmps.getD u undef = v) (hg : w.heap[g]? = some (.cells cs t fr))
    (hd : (match d with | .struct _ | .array _ _ => true | _ => false) = true) (hu : P.underlying ty = some d) (hi : (P.info? ty).map (·.size) = some cs.size) :
    (results fn tmps).run P w = .ok (.tuple #[.agg cs, v]) w := by
  rw [results_cell_tmp h, hp, hq]
  simp [asAddr, Result.andThen, run_loadVar_row w g t ty cs fr d hg hu (by cases d <;> first | rfl | exact hd) hi]
/-- What rowOf leaves. -/
def RowPost (cs : List Value) (is : Bool) (w : World) (e : Ending) (w' : World) : Prop := e = .returned (.tuple #[.agg cs.toArray, .bool is]) ∧ Below w.heap.size w w'

set_option maxHeartbeats 4000000 in
set_option maxRecDepth 100000 in
/-- No operation. -/
theorem row_none (op : Int) (h : op < 1 ∨ 58 < op) (w : World) : Calls Tryd.prog 36 #[.int .i64 op] w (RowPost [.bool false, .bool false, .bool false, .bool false, .bool false, .int .i64 0] false w) := by
  have n1 : (op == 1) = false := by simp; omega
  have n2 : (op == 2) = false := by simp; omega
  have n3 : (op == 3) = false := by simp; omega
  have n4 : (op == 4) = false := by simp; omega
  have n5 : (op == 5) = false := by simp; omega
  have n6 : (op == 6) = false := by simp; omega
  have n7 : (op == 7) = false := by simp; omega
  have n8 : (op == 8) = false := by simp; omega
  have n9 : (op == 9) = false := by simp; omega
  have n10 : (op == 10) = false := by simp; omega
  have n11 : (op == 11) = false := by simp; omega
  have n12 : (op == 12) = false := by simp; omega
  have n13 : (op == 13) = false := by simp; omega
  have n14 : (op == 14) = false := by simp; omega
  have n15 : (op == 15) = false := by simp; omega
  have n16 : (op == 16) = false := by simp; omega
  have n17 : (op == 17) = false := by simp; omega
  have n18 : (op == 18) = false := by simp; omega
  have n19 : (op == 19) = false := by simp; omega
  have n20 : (op == 20) = false := by simp; omega
  have n21 : (op == 21) = false := by simp; omega
  have n22 : (op == 22) = false := by simp; omega
  have n23 : (op == 23) = false := by simp; omega
  have n24 : (op == 24) = false := by simp; omega
  have n25 : (op == 25) = false := by simp; omega
  have n26 : (op == 26) = false := by simp; omega
  have n27 : (op == 27) = false := by simp; omega
  have n28 : (op == 28) = false := by simp; omega
  have n29 : (op == 29) = false := by simp; omega
  have n30 : (op == 30) = false := by simp; omega
  have n31 : (op == 31) = false := by simp; omega
  have n32 : (op == 32) = false := by simp; omega
  have n33 : (op == 33) = false := by simp; omega
  have n34 : (op == 34) = false := by simp; omega
  have n35 : (op == 35) = false := by simp; omega
  have n36 : (op == 36) = false := by simp; omega
  have n37 : (op == 37) = false := by simp; omega
  have n38 : (op == 38) = false := by simp; omega
  have n39 : (op == 39) = false := by simp; omega
  have n40 : (op == 40) = false := by simp; omega
  have n41 : (op == 41) = false := by simp; omega
  have n42 : (op == 42) = false := by simp; omega
  have n43 : (op == 43) = false := by simp; omega
  have n44 : (op == 44) = false := by simp; omega
  have n45 : (op == 45) = false := by simp; omega
  have n46 : (op == 46) = false := by simp; omega
  have n47 : (op == 47) = false := by simp; omega
  have n48 : (op == 48) = false := by simp; omega
  have n49 : (op == 49) = false := by simp; omega
  have n50 : (op == 50) = false := by simp; omega
  have n51 : (op == 51) = false := by simp; omega
  have n52 : (op == 52) = false := by simp; omega
  have n53 : (op == 53) = false := by simp; omega
  have n54 : (op == 54) = false := by simp; omega
  have n55 : (op == 55) = false := by simp; omega
  have n56 : (op == 56) = false := by simp; omega
  have n57 : (op == 57) = false := by simp; omega
  have n58 : (op == 58) = false := by simp; omega
  clear h
  go_enter Tryd.func36, Tryd.ntmps36
  go_wp2
  refine bodyPost_ret (results_row_tmp rfl _ _ w.heap.size _ _ (0, 0) _ _ rfl rfl (heap_alloc2_old w _ _) rfl Tryd.underlying79 (by kernel_rfl)) rfl ?_
  exact ⟨rfl, alloc2_below' w _ _⟩
end Go.Proofs.YtncgkhgjclodaaaDoor
