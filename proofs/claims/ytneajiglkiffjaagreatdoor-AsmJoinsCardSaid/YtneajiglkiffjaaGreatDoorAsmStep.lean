/- A law for the walk: an append whose run is known, as one step of a region that draws (layer 5); isName at a text's bytes. -/
import Derived.Test.YtneajiglkiffjaaGreatDoorAsmRd
import Derived.Test.YtneajiglkiffjaaGreatDoorAsmName
namespace Go.Proofs.YtneajiglkiffjaaGreatDoor
open Go.RowKit
set_option linter.unusedVariables false

theorem step_call {ops : Array Oper} {o : Oper} {a : Act} {K : Act → World → Prop} {Q : Exit → Act → World → Prop} {E : Prop} (hg : o.guard = none) (d x : Operand) (dT sT : TypeId) (hop : o.op = Op.call { callee := Callee.builtin Builtin.append, args := #[d, x], argTypes := #[dT, sT] })
    (v u : Value) (hd : a.eval d = v) (hx : a.eval x = u) {v' : Value} {w w' : World} (hr : (Builtin.append_ #[dT, sT] o.type #[v, u]).run Tryz.prog w = .ok v' w') (hK : K (a.put o.dst v') w') :
    if Region.wanted o (yielded ops a.tmps) = true then Oper.wp Tryz.prog o a w K Q else E := by
  have hw : Region.wanted o (yielded ops a.tmps) = true := by simp [Region.wanted, hg]
  rw [if_pos hw]
  unfold Oper.wp
  simp [execOp, hop, resolve, invoke, builtin, hd, hx, hr, Result.andThen]
  exact hK
theorem isName_l (l : List UInt8) (hl : l.length ≤ 65536) (w : World) : Calls Tryz.prog 74 #[.string (bytesA l)] w fun e w' => e = .returned (.bool (nameB l)) ∧ Below w.heap.size w w' := by
  have := isName_any (bytesA l) (by rw [bytesA_size]; omega) w
  simpa using this
end Go.Proofs.YtneajiglkiffjaaGreatDoor
