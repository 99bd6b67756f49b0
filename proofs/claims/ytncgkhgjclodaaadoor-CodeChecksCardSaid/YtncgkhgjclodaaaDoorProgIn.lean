/- A client's program (layer 4), opened: its code's instructions, its three numbers. -/
import Derived.Test.YtncgkhgjclodaaaDoorInsIn
namespace Go.Proofs.YtncgkhgjclodaaaDoor
open Go.RowKit Go.ChangeShapes Go.WideShapes
set_option linter.unusedVariables false

/-- A slice's one cell, opened. -/
theorem slice_cell {H : Type} {enc : TypeId × Value → H} {P : Program} {W : World} {t e : TypeId} {fuel : Nat} {c : Value} {x : DataW H × List MemPlace} (ht : P.underlying t = some (.slice e))
    (h : DataW.trod enc P W 0 (fun _ => true) true fuel t [c] = some x) : ∃ A len cap, c = .slice A len cap ∧ DataW.Trod enc P W 0 (fun _ => true) true t (.slice A len cap) x.1 x.2 := by
  rcases Go.Deep.open_slice ht h with ⟨hcs, _⟩ | ⟨a, len, cap, _, _, _, _, hcs, _⟩
  · obtain rfl : c = .slice none 0 0 := List.head_eq_of_cons_eq hcs
    exact ⟨none, 0, 0, rfl, fuel, h⟩
  · obtain rfl : c = .slice (some a) len cap := List.head_eq_of_cons_eq hcs
    exact ⟨some a, len, cap, rfl, fuel, h⟩
/-- A number's one cell, opened. -/
theorem int_cell {H : Type} {enc : TypeId × Value → H} {P : Program} {W : World} {t : TypeId} {k : IntKind} {fuel : Nat} {c : Value} {x : DataW H × List MemPlace} (ht : P.underlying t = some (.int k))
    (h : DataW.trod enc P W 0 (fun _ => true) true fuel t [c] = some x) : ∃ n : Int, c = .int k n ∧ (Lit.int k n).wf = true := by
  obtain ⟨m, e, _, hw⟩ := DataW.trod_int ht h
  exact ⟨m, List.head_eq_of_cons_eq e, hw⟩
/-- The cells of one field of a struct. -/
theorem field_trod {H : Type} {enc : TypeId × Value → H} {P : Program} {W : World} {t : TypeId} {fs : Array Field} {fuel : Nat} {cs : List Value} {x : DataW H × List MemPlace} (hs : P.underlying t = some (.struct fs))
    (h : DataW.trod enc P W 0 (fun _ => true) true fuel t cs = some x) (j : Nat) (f : Field) (hj : fs[j]? = some f) (o : Nat) (ho : f.offset = o) (tt : TypeId) (ht : f.type = tt) (c : Nat) (hc : P.cellsOf tt = c) :
    ∃ n y, DataW.trod enc P W 0 (fun _ => true) true n tt ((cs.drop o).take c) = some y := by
  obtain ⟨xs, n, _, _, _, hl, hx⟩ := DataW.trod_struct hs h
  have hjl : j < xs.length := by rw [hl]; exact (Array.getElem?_eq_some_iff.1 hj).1
  have k := hx j f hj
  rw [ht, ho, hc, List.getElem?_eq_getElem hjl] at k
  exact ⟨n, _, k⟩
theorem cells4 {cs : Array Value} (h : cs.size = 4) : ∃ c0 c1 c2 c3, cs = #[c0, c1, c2, c3] := by
  obtain ⟨l⟩ := cs
  match l, h with
  | [c0, c1, c2, c3], _ => exact ⟨c0, c1, c2, c3, rfl⟩

set_option maxRecDepth 100000 in
/-- An api.Prog as an argument. -/
theorem prog_of_trod {H : Type} {enc : TypeId × Value → H} {W : World} {r : Reach} {b0 : Nat} {v : Value} {d : DataW H} {p : List MemPlace} (hv : Value.okWide Tryd.prog W r b0 34 v)
    (h : DataW.Trod enc Tryd.prog W 0 (fun _ => true) true 34 v d p) :
    ∃ (A : Option Addr) (cap : Nat) (l : List Inst) (en wi na : Int), v = .agg #[.slice A l.length cap, .int .i64 en, .int .i64 wi, .int .i64 na] ∧ l.length ≤ maxLen ∧ InsIn W A l ∧ (∀ i, i < l.length → InsOk (l.getD i inst0)) ∧
      (Lit.int .i64 en).wf = true ∧ (Lit.int .i64 wi).wf = true ∧ (Lit.int .i64 na).wf = true := by
  obtain ⟨cs, rfl, hsz⟩ := okWide_struct Tryd.underlying34 hv
  obtain ⟨fuel, hf⟩ := h
  obtain ⟨c0, c1, c2, c3, rfl⟩ := cells4 (hsz.trans (by kernel_rfl))
  obtain ⟨n0, y0, k0⟩ := field_trod Tryd.underlying34 hf 0 _ rfl 0 rfl 22 rfl 1 (by kernel_rfl)
  obtain ⟨n1, y1, k1⟩ := field_trod Tryd.underlying34 hf 1 _ rfl 1 rfl 3 rfl 1 (by kernel_rfl)
  obtain ⟨n2, y2, k2⟩ := field_trod Tryd.underlying34 hf 2 _ rfl 2 rfl 3 rfl 1 (by kernel_rfl)
  obtain ⟨n3, y3, k3⟩ := field_trod Tryd.underlying34 hf 3 _ rfl 3 rfl 3 rfl 1 (by kernel_rfl)
  obtain ⟨A, len, cap, rfl, hA⟩ := slice_cell Tryd.underlying22 k0
  obtain ⟨en, rfl, we⟩ := int_cell Tryd.underlying3 k1
  obtain ⟨wi, rfl, ww⟩ := int_cell Tryd.underlying3 k2
  obtain ⟨na, rfl, wn⟩ := int_cell Tryd.underlying3 k3
  obtain ⟨l, rfl, hm, hI, hO⟩ := ins_of_trod hA
  exact ⟨A, cap, l, en, wi, na, rfl, hm, hI, hO, we, ww, wn⟩
end Go.Proofs.YtncgkhgjclodaaaDoor
