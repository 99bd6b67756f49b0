/- Plain words on frames and steps (layer 6), nothing of the program: whether an instruction may be, whatever its mark; what it makes of a frame. -/
import Derived.Test.YtobbmhboahognaaDoorCodePlain
import Derived.Laws.BitsAllLaws
import Derived.Laws.Bits64
namespace Go.Proofs.YtobbmhboahognaaDoor
open Go.RowKit
set_option linter.unusedVariables false

/-- May it be, in a code of n, whatever its mark? -/
def okB (x : Inst) (n : Int) : Bool := rightB ⟨x.op, x.a, x.b, x.c, x.v, 0, 0⟩ n (!decide (x.op = 22))
/-- A register's number struck out. -/
def stk (n : Int) : Int := if regB n then 0 else n
theorem stk_zero (n : Int) : (stk n == 0) = regB n := by
  unfold stk
  cases h : regB n with
  | true => simp
  | false =>
    simp only [Bool.false_eq_true, if_false, beq_eq_false_iff_ne]
    rintro rfl
    simp [regB] at h
theorem ok_eq (x : Inst) (n : Int) : okB x n = ((shapeOf x.op).Is && (fieldA x && fieldB x && fieldC x && fieldV x n)) := by
  unfold okB rightB sideB markB
  have hA : fieldA ⟨x.op, x.a, x.b, x.c, x.v, 0, 0⟩ = fieldA x := rfl
  have hB : fieldB ⟨x.op, x.a, x.b, x.c, x.v, 0, 0⟩ = fieldB x := rfl
  have hC : fieldC ⟨x.op, x.a, x.b, x.c, x.v, 0, 0⟩ = fieldC x := rfl
  have hV : fieldV ⟨x.op, x.a, x.b, x.c, x.v, 0, 0⟩ n = fieldV x n := rfl
  rw [hA, hB, hC, hV]
  by_cases h : x.op = 22
  · simp [h, Bool.and_assoc]
  · simp [h, Bool.and_assoc]

/-- A frame. -/
structure Frm where
  pc : Int
  r : List Int
  back : List Int
def regV (f : Frm) (i : Int) : Int := if regB i then f.r.getD i.toNat 0 else 0
def valP (f : Frm) (x : Inst) : Int := if x.c = -1 then x.v else regV f x.c
def addrP (f : Frm) (x : Inst) : Int := (regV f x.b + x.v) % 18446744073709551616
def truthP (b : Bool) : Int := if b then 1 else 0
/-- A shift's digits. -/
def six (c : Int) : Int := bits .and .u64 c 63
/-- What A becomes. -/
def resP (op v b c : Int) : Int :=
  if op = 1 then v else if op = 2 then b else if op = 3 then (b + c) % 18446744073709551616 else if op = 4 then (b - c) % 18446744073709551616 else
  if op = 5 then bits .and .u64 b c else if op = 6 then bits .or .u64 b c else if op = 7 then bits .xor .u64 b c else
  if op = 8 then IntKind.u64.wrap (b * 2 ^ min (six c).toNat 64) else if op = 9 then b / 2 ^ min (six c).toNat 64 else
  if op = 10 then truthP (b == c) else truthP (decide (b < c))
theorem six_range (c : Int) (h0 : 0 ≤ c) (h1 : c ≤ 18446744073709551615) : 0 ≤ six c ∧ six c < 64 := by
  unfold six
  rw [u64_and c 63 h0 (by omega) (by omega) (by omega)]
  have : c.toNat &&& (63 : Int).toNat ≤ 63 := Nat.and_le_right
  omega
end Go.Proofs.YtobbmhboahognaaDoor
