/- Plain words on instructions (layer 4), nothing of the program: the row of an operation; whether an instruction may be in a code of so many; the first one that may not. -/
import Derived.Test.YtobbmhboahognaaDoorFrame
namespace Go.Proofs.YtobbmhboahognaaDoor
open Go.RowKit
set_option linter.unusedVariables false

/-- An instruction. -/
structure Inst where
  op : Int
  a : Int
  b : Int
  c : Int
  v : Int
  m : Int
  wh : Int
def inst0 : Inst := ⟨0, 0, 0, 0, 0, 0, 0⟩
/-- Its cells. -/
def Inst.cs (x : Inst) : List Value := [.int .i64 x.op, .int .i64 x.a, .int .i64 x.b, .int .i64 x.c, .int .u64 x.v, .int .i64 x.m, .int .i64 x.wh]
/-- The row of an operation: which fields it has, whether B, C may be none, whether V is a place, whether there is such an operation. -/
structure Shp where
  A : Bool
  B : Bool
  C : Bool
  V : Bool
  NoB : Bool
  NoC : Bool
  Place : Bool
  Is : Bool
def shp0 : Shp := ⟨false, false, false, false, false, false, false, false⟩
def Shp.cs (s : Shp) : List Value := [.bool s.A, .bool s.B, .bool s.C, .bool s.V, .bool s.NoB, .bool s.NoC, .bool s.Place, .bool s.Is]
def shpTab : List Shp := [shp0, ⟨true, false, false, true, false, false, false, true⟩, ⟨true, true, false, false, false, false, false, true⟩, ⟨true, true, true, true, false, true, false, true⟩, ⟨true, true, true, true, false, true, false, true⟩, ⟨true, true, true, true, false, true, false, true⟩, ⟨true, true, true, true, false, true, false, true⟩, ⟨true, true, true, true, false, true, false, true⟩, ⟨true, true, true, true, false, true, false, true⟩, ⟨true, true, true, true, false, true, false, true⟩, ⟨true, true, true, true, false, true, false, true⟩, ⟨true, true, true, true, false, true, false, true⟩, ⟨false, false, false, true, false, false, true, true⟩, ⟨true, false, false, true, false, false, true, true⟩, ⟨true, false, false, true, false, false, true, true⟩, ⟨false, false, false, true, false, false, true, true⟩, ⟨false, false, false, false, false, false, false, true⟩, ⟨true, true, false, true, true, false, false, true⟩, ⟨true, true, false, true, true, false, false, true⟩, ⟨true, true, false, true, true, false, false, true⟩, ⟨true, true, false, true, true, false, false, true⟩, ⟨true, true, true, true, true, false, false, true⟩, ⟨false, false, false, true, false, false, false, true⟩, ⟨true, true, false, false, false, false, false, true⟩, ⟨true, true, true, false, false, false, false, true⟩, ⟨true, true, true, false, false, false, false, true⟩, ⟨true, true, true, false, false, false, false, true⟩, ⟨true, true, true, false, false, false, false, true⟩, ⟨true, false, false, false, false, false, false, true⟩, ⟨true, false, false, false, false, false, false, true⟩, ⟨true, false, false, false, false, false, false, true⟩, ⟨true, true, false, true, true, false, false, true⟩, ⟨true, true, true, true, true, false, false, true⟩, ⟨false, false, false, false, false, false, false, true⟩, ⟨true, false, false, false, false, false, false, true⟩, ⟨true, false, false, false, false, false, false, true⟩, ⟨true, false, false, false, false, false, false, true⟩, ⟨true, false, false, false, false, false, false, true⟩, ⟨true, false, false, false, false, false, false, true⟩, ⟨true, true, false, false, false, false, false, true⟩, ⟨true, false, false, false, false, false, false, true⟩, ⟨true, false, false, false, false, false, false, true⟩, ⟨true, false, false, false, false, false, false, true⟩, ⟨true, true, false, true, true, false, false, true⟩, ⟨true, false, false, false, false, false, false, true⟩, ⟨true, true, false, true, false, false, false, true⟩, ⟨true, false, false, false, false, false, false, true⟩, ⟨true, true, false, false, false, false, false, true⟩, ⟨true, true, true, false, false, false, false, true⟩, ⟨true, true, false, false, false, false, false, true⟩, ⟨true, true, false, false, false, false, false, true⟩, ⟨true, false, false, false, false, false, false, true⟩, ⟨true, false, false, false, false, false, false, true⟩, ⟨true, false, false, false, false, false, false, true⟩, ⟨true, true, false, false, false, false, false, true⟩, ⟨false, false, false, false, false, false, false, true⟩, ⟨false, false, false, false, false, false, false, true⟩, ⟨true, false, false, false, false, false, false, true⟩, ⟨false, false, false, false, false, false, false, true⟩]
def shapeOf (op : Int) : Shp := if 1 ≤ op ∧ op ≤ 58 then shpTab.getD op.toNat shp0 else shp0
def regB (r : Int) : Bool := decide (0 ≤ r) && decide (r < 32)
/-- Are the operation and the mark of this side? -/
def sideB (x : Inst) (lib : Bool) : Bool := (shapeOf x.op).Is && (lib || (decide (x.op ≤ 22) && decide (x.m = 0))) && !(lib && decide (x.op = 22))
def markB (x : Inst) : Bool := decide (0 ≤ x.m) && decide (x.m ≤ 99) && decide (0 ≤ x.wh) && decide (x.wh ≤ 2) && (!decide (x.m = 0) || decide (x.wh = 0)) && (decide (x.wh = 0) || (shapeOf x.op).A)
def fieldA (x : Inst) : Bool := if (shapeOf x.op).A then regB x.a else decide (x.a = 0)
def fieldB (x : Inst) : Bool := if (shapeOf x.op).B then regB x.b || ((shapeOf x.op).NoB && decide (x.b = -1)) else decide (x.b = 0)
def fieldC (x : Inst) : Bool := if (shapeOf x.op).C then regB x.c || ((shapeOf x.op).NoC && decide (x.c = -1)) else decide (x.c = 0)
/-- Is V used? -/
def usesV (x : Inst) : Bool := (shapeOf x.op).V && !(decide (x.op = 43) && !decide (x.b = -1)) && !((shapeOf x.op).NoC && !decide (x.c = -1))
def fieldV (x : Inst) (n : Int) : Bool := (usesV x || decide (x.v = 0)) && (!(shapeOf x.op).Place || decide (x.v < n)) && (!decide (x.op = 22) || decide (x.v < 1000))
/-- May it be, in a code of n? -/
def rightB (x : Inst) (n : Int) (lib : Bool) : Bool := sideB x lib && markB x && fieldA x && fieldB x && fieldC x && fieldV x n
/-- The first one that may not be, from the i-th on. -/
def firstBad (n : Int) (lib : Bool) : List Inst → Nat → Option Nat
  | [], _ => none
  | x :: l, i => if rightB x n lib then firstBad n lib l (i + 1) else some i
end Go.Proofs.YtobbmhboahognaaDoor
