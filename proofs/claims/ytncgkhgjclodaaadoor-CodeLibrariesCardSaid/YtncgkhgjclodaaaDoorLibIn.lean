/- A library (layer 4), opened: its code's instructions, its loop's place, its calls' rows. -/
import Derived.Test.YtncgkhgjclodaaaDoorProgIn
namespace Go.Proofs.YtncgkhgjclodaaaDoor
open Go.RowKit Go.ChangeShapes Go.WideShapes
set_option linter.unusedVariables false

/-- A call's row. -/
structure CallRow where
  num : Int
  pl : Int
  k0 : Int
  k1 : Int
  k2 : Int
  k3 : Int
def callRow0 : CallRow := ⟨0, 0, 0, 0, 0, 0⟩
/-- The cells of a row, as a load of it asks for them. -/
def CallAt (W : World) (q : Addr) (x : CallRow) : Prop :=
  W.cell? q = some (.int .i64 x.num) ∧ W.cell? ⟨q.block, q.off + 1, none⟩ = some (.int .i64 x.pl) ∧ W.cell? ⟨q.block, q.off + 2, none⟩ = some (.int .i64 x.k0) ∧ W.cell? ⟨q.block, q.off + 3, none⟩ = some (.int .i64 x.k1) ∧
  W.cell? ⟨q.block, q.off + 4, none⟩ = some (.int .i64 x.k2) ∧ W.cell? ⟨q.block, q.off + 5, none⟩ = some (.int .i64 x.k3)
/-- A slice of rows: at each place its six numbers. -/
def CallsIn (W : World) (A : Option Addr) (l : List CallRow) : Prop := ∀ i, i < l.length → ∃ p, A = some p ∧ p.block < W.heap.size ∧ CallAt W (p.add (i * 6)) (l.getD i callRow0)
theorem CallsIn.below {W W' : World} {A : Option Addr} {l : List CallRow} (h : CallsIn W A l) (hb : Below W.heap.size W W') : CallsIn W' A l := fun i hi => by
  obtain ⟨p, e, hp, c0, c1, c2, c3, c4, c5⟩ := h i hi
  have pb : (p.add (i * 6)).block < W.heap.size := by rw [ChangeShapes.block_add]; exact hp
  have k : ∀ {o : Nat} {u : Value}, W.cell? ⟨(p.add (i * 6)).block, o, none⟩ = some u → W'.cell? ⟨(p.add (i * 6)).block, o, none⟩ = some u := fun {o u} hc => by rw [hb.cell (p := ⟨_, o, none⟩) pb]; exact hc
  exact ⟨p, e, Nat.lt_of_lt_of_le hp hb.size, by rw [hb.cell pb]; exact c0, k c1, k c2, k c3, k c4, k c5⟩
theorem calls_of_all {P : Nat → CallRow → Prop} : ∀ n : Nat, (∀ i, i < n → ∃ x, P i x) → ∃ l : List CallRow, l.length = n ∧ ∀ i, i < n → P i (l.getD i callRow0)
  | 0, _ => ⟨[], rfl, fun i hi => by omega⟩
  | n + 1, h => by
    obtain ⟨l, hl, hP⟩ := calls_of_all n (fun i hi => h i (by omega))
    obtain ⟨x, hx⟩ := h n (by omega)
    refine ⟨l ++ [x], by simp [hl], fun i hi => ?_⟩
    by_cases hin : i < n
    · have := hP i hin
      simpa [List.getD, List.getElem?_append_left (show i < l.length by omega)] using this
    · obtain rfl : i = n := by omega
      rw [List.getD, List.getElem?_append_right (by omega), hl]; simpa using hx
theorem cells6 {l : List Value} (h : l.length = 6) : ∃ c0 c1 c2 c3 c4 c5, l = [c0, c1, c2, c3, c4, c5] := by
  match l, h with
  | [c0, c1, c2, c3, c4, c5], _ => exact ⟨c0, c1, c2, c3, c4, c5, rfl⟩
theorem cells3 {cs : Array Value} (h : cs.size = 3) : ∃ c0 c1 c2, cs = #[c0, c1, c2] := by
  obtain ⟨l⟩ := cs
  match l, h with
  | [c0, c1, c2], _ => exact ⟨c0, c1, c2, rfl⟩
/-- Four numbers' cells, opened. -/
theorem four_ints {H : Type} {enc : TypeId × Value → H} {P : Program} {W : World} {t e : TypeId} {fuel : Nat} {c0 c1 c2 c3 : Value} {x : DataW H × List MemPlace} (ht : P.underlying t = some (.array 4 e)) (he : P.underlying e = some (.int .i64)) (hc : P.cellsOf e = 1)
    (h : DataW.trod enc P W 0 (fun _ => true) true fuel t [c0, c1, c2, c3] = some x) : ∃ n0 n1 n2 n3 : Int, c0 = .int .i64 n0 ∧ c1 = .int .i64 n1 ∧ c2 = .int .i64 n2 ∧ c3 = .int .i64 n3 := by
  obtain ⟨xs, m, _, _, _, hl, hx⟩ := DataW.trod_array ht h
  have each : ∀ i, i < 4 → ∃ y, DataW.trod enc P W 0 (fun _ => true) true m e (([c0, c1, c2, c3].drop i).take 1) = some y := fun i hi => by
    have k := hx i hi
    rw [hc, Nat.mul_one, List.getElem?_eq_getElem (by omega)] at k
    exact ⟨_, k⟩
  obtain ⟨y0, k0⟩ := each 0 (by omega)
  obtain ⟨y1, k1⟩ := each 1 (by omega)
  obtain ⟨y2, k2⟩ := each 2 (by omega)
  obtain ⟨y3, k3⟩ := each 3 (by omega)
  obtain ⟨n0, e0, _⟩ := int_cell he (c := c0) k0
  obtain ⟨n1, e1, _⟩ := int_cell he (c := c1) k1
  obtain ⟨n2, e2, _⟩ := int_cell he (c := c2) k2
  obtain ⟨n3, e3, _⟩ := int_cell he (c := c3) k3
  exact ⟨n0, n1, n2, n3, e0, e1, e2, e3⟩

set_option maxRecDepth 100000 in
theorem calls_of_trod {H : Type} {enc : TypeId × Value → H} {W : World} {A : Option Addr} {len cap : Nat} {d : DataW H} {p : List MemPlace} (h : DataW.Trod enc Tryd.prog W 0 (fun _ => true) true 39 (.slice A len cap) d p) :
    ∃ l : List CallRow, l.length = len ∧ len ≤ maxLen ∧ CallsIn W A l := by
  obtain ⟨fuel, hf⟩ := h
  rcases Go.Deep.open_slice Tryd.underlying39 hf with ⟨hcs, _⟩ | ⟨a, len', cap', m, n, D, Pl, hcs, _, hl, hm, hmm, _, hx⟩
  · simp [Value.cells] at hcs
    obtain ⟨rfl, rfl, rfl⟩ := hcs
    exact ⟨[], rfl, by simp, fun i hi => by simp at hi⟩
  · simp [Value.cells] at hcs
    obtain ⟨rfl, rfl, rfl⟩ := hcs
    simp only [if_true] at hmm
    have h6 : Tryd.prog.cellsOf 76 = 6 := by kernel_rfl
    have at_ : ∀ (p : Addr) (j : Nat) (x : Option Value), 0 < j → W.cell? (p.add j) = x → W.cell? ⟨p.block, p.off + j, none⟩ = x := fun p j x hj h => by
      rw [add_pos _ _ hj] at h; exact h
    obtain ⟨l, h1, h2⟩ := calls_of_all (P := fun i x => a.block < W.heap.size ∧ CallAt W (a.add (i * 6)) x) len (fun i hi => by
      obtain ⟨cs', g1, g2⟩ := hx i (by omega)
      rw [h6] at g1
      obtain ⟨_, hcl, hat⟩ := World.cells?_some g1
      obtain ⟨c0, c1, c2, c3, c4, c5, rfl⟩ := cells6 hcl
      obtain ⟨n0, y0, k0⟩ := field_trod Tryd.underlying76 g2 0 _ rfl 0 rfl 3 rfl 1 (by kernel_rfl)
      obtain ⟨n1, y1, k1⟩ := field_trod Tryd.underlying76 g2 1 _ rfl 1 rfl 3 rfl 1 (by kernel_rfl)
      obtain ⟨n2, y2, k2⟩ := field_trod Tryd.underlying76 g2 2 _ rfl 2 rfl 74 rfl 4 (by kernel_rfl)
      obtain ⟨num, rfl, _⟩ := int_cell Tryd.underlying3 k0
      obtain ⟨pl, rfl, _⟩ := int_cell Tryd.underlying3 k1
      obtain ⟨x0, x1, x2, x3, rfl, rfl, rfl, rfl⟩ := four_ints Tryd.underlying74 Tryd.underlying3 (by kernel_rfl) k2
      refine ⟨⟨num, pl, x0, x1, x2, x3⟩, ?_, ?_, ?_, ?_, ?_, ?_, ?_⟩
      · have := World.block_lt_of_cell? _ _ (hat 1 (by omega))
        rw [← ChangeShapes.block_add a (i * 6), ← ChangeShapes.block_add _ 1]; exact this
      · have := hat 0 (by omega)
        rwa [Go.Deep.add_add] at this
      · exact at_ _ 1 _ (by omega) (hat 1 (by omega))
      · exact at_ _ 2 _ (by omega) (hat 2 (by omega))
      · exact at_ _ 3 _ (by omega) (hat 3 (by omega))
      · exact at_ _ 4 _ (by omega) (hat 4 (by omega))
      · exact at_ _ 5 _ (by omega) (hat 5 (by omega)))
    exact ⟨l, h1, by omega, fun i hi => ⟨a, rfl, (h2 i (by omega)).1, (h2 i (by omega)).2⟩⟩

set_option maxRecDepth 100000 in
/-- An api.Lib as an argument. -/
theorem lib_of_trod {H : Type} {enc : TypeId × Value → H} {W : World} {r : Reach} {b0 : Nat} {v : Value} {d : DataW H} {p : List MemPlace} (hv : Value.okWide Tryd.prog W r b0 41 v)
    (h : DataW.Trod enc Tryd.prog W 0 (fun _ => true) true 41 v d p) :
    ∃ (A : Option Addr) (cap : Nat) (l : List Inst) (lo : Int) (B : Option Addr) (capB : Nat) (c : List CallRow), v = .agg #[.slice A l.length cap, .int .i64 lo, .slice B c.length capB] ∧ l.length ≤ maxLen ∧ InsIn W A l ∧ (∀ i, i < l.length → InsOk (l.getD i inst0)) ∧
      (Lit.int .i64 lo).wf = true ∧ c.length ≤ maxLen ∧ CallsIn W B c := by
  obtain ⟨cs, rfl, hsz⟩ := okWide_struct Tryd.underlying41 hv
  obtain ⟨fuel, hf⟩ := h
  obtain ⟨c0, c1, c2, rfl⟩ := cells3 (hsz.trans (by kernel_rfl))
  obtain ⟨n0, y0, k0⟩ := field_trod Tryd.underlying41 hf 0 _ rfl 0 rfl 22 rfl 1 (by kernel_rfl)
  obtain ⟨n1, y1, k1⟩ := field_trod Tryd.underlying41 hf 1 _ rfl 1 rfl 3 rfl 1 (by kernel_rfl)
  obtain ⟨n2, y2, k2⟩ := field_trod Tryd.underlying41 hf 2 _ rfl 2 rfl 39 rfl 1 (by kernel_rfl)
  obtain ⟨A, len, cap, rfl, hA⟩ := slice_cell Tryd.underlying22 k0
  obtain ⟨lo, rfl, wl⟩ := int_cell Tryd.underlying3 k1
  obtain ⟨B, lenB, capB, rfl, hB⟩ := slice_cell Tryd.underlying39 k2
  obtain ⟨l, rfl, hm, hI, hO⟩ := ins_of_trod hA
  obtain ⟨c, rfl, hmB, hC⟩ := calls_of_trod hB
  exact ⟨A, cap, l, lo, B, capB, c, rfl, hm, hI, hO, wl, hmB, hC⟩
end Go.Proofs.YtncgkhgjclodaaaDoor
