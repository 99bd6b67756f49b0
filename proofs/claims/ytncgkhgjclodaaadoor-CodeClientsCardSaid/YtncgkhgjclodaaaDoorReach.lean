/- What the form's reach says of an argument that holds a slice (layer 4): its length, times an element's bytes. -/
import Derived.Test.YtncgkhgjclodaaaDoorLibIn
import Derived.SizedLaws
namespace Go.Proofs.YtncgkhgjclodaaaDoor
open Go.RowKit Go.ChangeShapes Go.WideShapes
set_option linter.unusedVariables false

section
variable {H : Type} {enc : TypeId × Value → H} {P : Program} {W : World}
theorem weights_cons {t : TypeId} {ts : List TypeId} {d : DataW H} {ds : List (DataW H)} (h : (DataW.weightsEach P (t :: ts) (d :: ds)).all (· ≤ reachBytes) = true) :
    (d.weights P t).all (· ≤ reachBytes) = true ∧ (DataW.weightsEach P ts ds).all (· ≤ reachBytes) = true := by
  rw [DataW.weightsEach, List.all_append, Bool.and_eq_true] at h
  exact h
theorem reach_slice {t e : TypeId} {A : Option Addr} {len cap : Nat} {d : DataW H} {p : List MemPlace} (hu : P.underlying t = some (.slice e)) (h : DataW.Trod enc P W 0 (fun _ => true) true t (.slice A len cap) d p)
    (hs : (d.weights P t).all (· ≤ reachBytes) = true) : len * P.bytesOf e ≤ 140737488351232 := by
  obtain ⟨fuel, hf⟩ := h
  rcases Go.Deep.open_slice hu hf with ⟨hcs, _⟩ | ⟨a, len', cap', m, n, D, Pl, hcs, _, _, _, _, hx, _⟩
  · simp [Value.cells] at hcs
    obtain ⟨rfl, rfl, rfl⟩ := hcs
    simp
  · simp [Value.cells] at hcs
    obtain ⟨rfl, rfl, rfl⟩ := hcs
    obtain ⟨rfl, -⟩ := Prod.mk.inj hx
    have h2 := List.all_eq_true.1 hs ((len + (m - len)) * P.bytesOf e) (by simp [DataW.weights, hu])
    simp only [decide_eq_true_eq] at h2
    exact Nat.le_trans (Nat.mul_le_mul_right _ (Nat.le_add_right _ _)) h2
/-- The first field's reach, of a struct's. -/
theorem reach_field0 {t t0 e : TypeId} {fs : Array Field} {cs : Array Value} {A : Option Addr} {len cap : Nat} {d : DataW H} {p : List MemPlace} {f : Field} (hs : P.underlying t = some (.struct fs)) (h : DataW.Trod enc P W 0 (fun _ => true) true t (.agg cs) d p)
    (hw : (d.weights P t).all (· ≤ reachBytes) = true) (j : Nat) (hj : fs[j]? = some f) (o : Nat) (ho : f.offset = o) (ht : f.type = t0) (hc : P.cellsOf t0 = 1) (hcell : (cs.toList.drop o).take 1 = [.slice A len cap]) (hu : P.underlying t0 = some (.slice e)) : len * P.bytesOf e ≤ 140737488351232 := by
  obtain ⟨fuel, hf⟩ := h
  obtain ⟨xs, n, _, hx, _, hl, hx2⟩ := DataW.trod_struct hs hf
  have hjl : j < xs.length := by rw [hl]; exact (Array.getElem?_eq_some_iff.1 hj).1
  have k := hx2 j f hj
  rw [ht, ho, hc, List.getElem?_eq_getElem hjl] at k
  have k2 : DataW.trod enc P W 0 (fun _ => true) true n t0 [.slice A len cap] = some xs[j] := by rw [← hcell]; exact k
  obtain ⟨rfl, -⟩ := Prod.mk.inj hx
  refine reach_slice hu (d := xs[j].1) (p := xs[j].2) ⟨n, k2⟩ ?_
  rw [List.all_eq_true] at hw ⊢
  intro y hy
  refine hw y ?_
  rw [DataW.weights, hs]
  exact DataW.weights_mem_each (j := j) (t := t0) (d := xs[j].1) (by simp [hj, ht]) (by simp [hjl]) y hy
end

theorem bytes_ins : Tryd.prog.bytesOf 55 = 56 := by kernel_rfl
theorem bytes_row : Tryd.prog.bytesOf 76 = 48 := by kernel_rfl

section
variable {H : Type} {enc : TypeId × Value → H} {W : World}
theorem code_reach {A : Option Addr} {len cap : Nat} {d : DataW H} {p : List MemPlace} (h : DataW.Trod enc Tryd.prog W 0 (fun _ => true) true 22 (.slice A len cap) d p)
    (hw : (d.weights Tryd.prog 22).all (· ≤ reachBytes) = true) : len * 56 ≤ 140737488355328 := by
  have := reach_slice Tryd.underlying22 h hw
  rw [bytes_ins] at this
  omega
set_option maxRecDepth 100000 in
theorem prog_reach {A : Option Addr} {len cap : Nat} {en wi na : Int} {d : DataW H} {p : List MemPlace} (h : DataW.Trod enc Tryd.prog W 0 (fun _ => true) true 34 (.agg #[.slice A len cap, .int .i64 en, .int .i64 wi, .int .i64 na]) d p)
    (hw : (d.weights Tryd.prog 34).all (· ≤ reachBytes) = true) : len * 56 ≤ 140737488355328 := by
  have := reach_field0 Tryd.underlying34 h hw 0 rfl 0 rfl (t0 := 22) rfl (by kernel_rfl) (A := A) (len := len) (cap := cap) rfl Tryd.underlying22
  rw [bytes_ins] at this
  omega
set_option maxRecDepth 100000 in
theorem lib_reach {A B : Option Addr} {len cap lenB capB : Nat} {lo : Int} {d : DataW H} {p : List MemPlace} (h : DataW.Trod enc Tryd.prog W 0 (fun _ => true) true 41 (.agg #[.slice A len cap, .int .i64 lo, .slice B lenB capB]) d p)
    (hw : (d.weights Tryd.prog 41).all (· ≤ reachBytes) = true) : len * 56 ≤ 140737488355328 ∧ lenB * 48 ≤ 140737488355328 := by
  have h1 := reach_field0 Tryd.underlying41 h hw 0 rfl 0 rfl (t0 := 22) rfl (by kernel_rfl) (A := A) (len := len) (cap := cap) rfl Tryd.underlying22
  have h2 := reach_field0 Tryd.underlying41 h hw 2 rfl 2 rfl (t0 := 39) rfl (by kernel_rfl) (A := B) (len := lenB) (cap := capB) rfl Tryd.underlying39
  rw [bytes_ins] at h1
  rw [bytes_row] at h2
  omega
end
end Go.Proofs.YtncgkhgjclodaaaDoor
