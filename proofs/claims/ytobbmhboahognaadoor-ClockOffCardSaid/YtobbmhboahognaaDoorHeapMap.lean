/- The map from handles to places (layer 7): what it says of each handle; looked up, written, struck. The conditions: handles and places are the machine's numbers, and the map has room. -/
import Derived.Test.YtobbmhboahognaaDoorHeapPlain
import Derived.Test.YtobbmhboahognaaDoorProg
import Derived.Maps.OwnSet
import Derived.Maps.OwnOps
import Derived.KernelRfl
namespace Go.Proofs.YtobbmhboahognaaDoor
open Go.RowKit Go.Maps
set_option linter.unusedVariables false

/-- What the map says of a handle. -/
def Says (D : DataW Unit) (f : Int → Option Nat) : Prop := ∀ k : Int, has D (.int .i64 k) = (f k).isSome ∧ D.atKey (.int .i64 k) (.lit (.int .i64 0)) = .lit (.int .i64 (((f k).getD 0 : Nat) : Int))
/-- Block mb is a map of at most c entries that says f. -/
def PosIs (W : World) (mb c : Nat) (f : Int → Option Nat) : Prop := ∃ D : DataW Unit, W.ownsMap Tryd.prog 3 (plainElem Tryd.prog 3) mb c D ∧ Says D f
theorem PosIs.lt {W : World} {mb c : Nat} {f : Int → Option Nat} (h : PosIs W mb c f) : mb < W.heap.size := by obtain ⟨D, h, _⟩ := h; exact World.ownsMap.lt h
theorem PosIs.mono {W : World} {mb c d : Nat} {f : Int → Option Nat} (h : PosIs W mb c f) (hc : c ≤ d) : PosIs W mb d f := by obtain ⟨D, h, k⟩ := h; exact ⟨D, World.ownsMap.mono h hc, k⟩
theorem PosIs.isMap {W : World} {mb c : Nat} {f : Int → Option Nat} (h : PosIs W mb c f) : ∃ es clock, W.heap[mb]? = some (.map es clock) := by
  obtain ⟨D, ⟨es, clock, h1, h2⟩, _⟩ := h
  exact ⟨es, clock, h1⟩
theorem PosIs.block {W W' : World} {mb c : Nat} {f : Int → Option Nat} (h : PosIs W mb c f) (hb : W'.heap[mb]? = W.heap[mb]?) : PosIs W' mb c f := by
  obtain ⟨D, ⟨es, clock, h1, h2⟩, k⟩ := h
  exact ⟨D, ⟨es, clock, hb.trans h1, h2⟩, k⟩
theorem PosIs.made (W : World) : PosIs (W.alloc (.map #[] 0)) W.heap.size 0 (fun _ => none) := ⟨.map [], World.ownsMap_made W Tryd.prog 3 _, fun k => ⟨rfl, rfl⟩⟩
theorem zero_int (W : World) : (zeroValue 3).run Tryd.prog W = .ok (.int .i64 0) W := by kernel_rfl
theorem PosIs.look {W : World} {mb c : Nat} {f : Int → Option Nat} (h : PosIs W mb c f) (k : Int) (hk : (Lit.int .i64 k).wf = true) :
    (Instr.lookup 165 (.map (some mb)) (.int .i64 k) true).run Tryd.prog W = .ok (.tuple #[.int .i64 (((f k).getD 0 : Nat) : Int), .bool (f k).isSome]) W := by
  obtain ⟨D, h, hs⟩ := h
  obtain ⟨v, ps, hr, hv⟩ := World.ownsMap.look_ok h (Maps.int_keyed Tryd.underlying3) Tryd.underlying165 (zero_int W) (plainElem_int Tryd.underlying3 rfl) (Maps.keyOf_int_mk Tryd.underlying3 hk)
  rw [(hs k).2] at hv
  obtain ⟨a, rfl, e, _⟩ := plainElem_int_inv Tryd.underlying3 hv
  simp only [Prod.mk.injEq, DataW.lit.injEq, Lit.int.injEq, true_and] at e
  rw [hr, (hs k).1, e.1]
theorem PosIs.put {W : World} {mb c : Nat} {f : Int → Option Nat} (h : PosIs W mb c f) (k : Int) (hk : (Lit.int .i64 k).wf = true) (i : Nat) (hi : (Lit.int .i64 (i : Int)).wf = true) (hc : c < maxLen) :
    ∃ W', (Instr.mapUpdate 165 (.map (some mb)) (.int .i64 k) (.int .i64 (i : Int))).run Tryd.prog W = .ok () W' ∧ PosIs W' mb (c + 1) (fput f k i) ∧ W.grownBy W' (some mb) ∧ W'.heap.size = W.heap.size := by
  obtain ⟨D, h, hs⟩ := h
  obtain ⟨W', hr, ho, hg⟩ := World.ownsMap.store h (Maps.int_keyed Tryd.underlying3) Tryd.underlying165 hc (Maps.keyOf_int_mk Tryd.underlying3 hk) (plainElem_int Tryd.underlying3 hi)
  refine ⟨W', hr, ⟨_, ho, fun j => ?_⟩, hg.grown, ?_⟩
  · unfold fput
    by_cases e : j = k
    · subst e
      rw [has_put_same (World.ownsMap.isMap h) (by simp [WideAt.IsKeyLit]), atKey_put_same (World.ownsMap.isMap h) (by simp [WideAt.IsKeyLit]), if_pos rfl]
      exact ⟨rfl, rfl⟩
    · rw [has_put_other (fun h' => e (by cases h'; rfl)), atKey_put_other (fun h' => e (by cases h'; rfl)), if_neg e]
      exact hs j
  · obtain ⟨es, clock, es', clock', hb, rfl⟩ := hg
    simp [Go.ChangeMaps.setBlock]
theorem PosIs.del {W : World} {mb c : Nat} {f : Int → Option Nat} (h : PosIs W mb c f) (k : Int) (hk : (Lit.int .i64 k).wf = true) (ty : TypeId) :
    ∃ W', (Builtin.delete_ #[165, 3] ty #[.map (some mb), .int .i64 k]).run Tryd.prog W = .ok (.tuple #[]) W' ∧ PosIs W' mb c (fdel f k) ∧ W.grownBy W' (some mb) ∧ W'.heap.size = W.heap.size := by
  obtain ⟨D, h, hs⟩ := h
  obtain ⟨W', hr, ho, hg⟩ := World.ownsMap.drop h (Maps.int_keyed Tryd.underlying3) Tryd.underlying165 (Maps.keyOf_int_mk Tryd.underlying3 hk) ty
  refine ⟨W', hr, ⟨_, ho, fun j => ?_⟩, hg.grown, ?_⟩
  · unfold fdel
    by_cases e : j = k
    · subst e
      rw [has_del_same, atKey_del_same, if_pos rfl]
      exact ⟨rfl, rfl⟩
    · rw [has_del_other (fun h' => e (by cases h'; rfl)), atKey_del_other (fun h' => e (by cases h'; rfl)), if_neg e]
      exact hs j
  · obtain ⟨es, clock, es', clock', hb, rfl⟩ := hg
    simp [Go.ChangeMaps.setBlock]

/-- delete at the operation, for the walk. -/
theorem wpList_delete_pos {w : World} {mb c : Nat} {f : Int → Option Nat} {ops : Array Oper} {rest : List Oper} {o : Oper} {a : Act} {Q : Exit → Act → World → Prop} (hg : o.guard = none) (m x : Operand)
    (hop : o.op = Op.call { callee := Callee.builtin Builtin.delete, args := #[m, x], argTypes := #[165, 3] }) (hm : a.eval m = .map (some mb)) (h : PosIs w mb c f) (k : Int) (hk : (Lit.int .i64 k).wf = true) (hx : a.eval x = .int .i64 k)
    (hK : ∀ w', PosIs w' mb c (fdel f k) → w.grownBy w' (some mb) → w'.heap.size = w.heap.size → wpList Tryd.prog ops Q rest (a.put o.dst (.tuple #[])) w') : wpList Tryd.prog ops Q (o :: rest) a w := by
  refine wpList_plain hg fun K' hK' => ?_
  obtain ⟨w', hrun, h1, h2, h3⟩ := h.del k hk o.type
  unfold Oper.wp
  simp [execOp, hop, resolve, invoke, builtin, hm, hx, hrun, Result.andThen]
  exact hK' _ _ (hK w' h1 h2 h3)
end Go.Proofs.YtobbmhboahognaaDoor
