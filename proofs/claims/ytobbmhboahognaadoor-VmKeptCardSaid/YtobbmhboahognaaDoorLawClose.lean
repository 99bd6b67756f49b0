/- Plain words on a law's row, nothing of the program's own: arguments that read as data read so again where nothing that was there has turned; slices of integers and of structs opened to their cells. -/
import Derived.Carry
import Derived.ChangeSlices
import Derived.ChangeSame
import Derived.OpenShut
import Derived.Deep.Slices
import Derived.Deep.Fields
import Derived.Lib.SmallJoins
import Derived.Below
namespace Go.Proofs.YtobbmhboahognaaDoor
open Go.RowKit Go.ChangeShapes Go.WideShapes

theorem u64_mem {zs : List Int} (hw : ∀ z ∈ zs, (Lit.int .u64 z).wf = true) (i : Nat) (h : i < zs.length) : 0 ≤ zs.getD i 0 ∧ zs.getD i 0 ≤ 18446744073709551615 := by
  have : zs.getD i 0 ∈ zs := by simp [h]
  have := hw _ this
  simp [Lit.wf, IntKind.min, IntKind.max, IntKind.signed, IntKind.bits] at this
  exact ⟨by simpa [h] using this.1, by simpa [h] using this.2⟩

theorem add_pos (a : Addr) (j : Nat) (h : 0 < j) : a.add j = ⟨a.block, a.off + j, none⟩ := by unfold Addr.add; rw [if_neg (by omega)]
theorem u64_wf {x : Int} (h : (Lit.int .u64 x).wf = true) : 0 ≤ x ∧ x ≤ 18446744073709551615 := by
  simp [Lit.wf, IntKind.min, IntKind.max, IntKind.signed, IntKind.bits] at h
  exact ⟨by omega, by omega⟩
theorem i64_wf {x : Int} (h : (Lit.int .i64 x).wf = true) : -9223372036854775808 ≤ x ∧ x ≤ 9223372036854775807 := by
  simp [Lit.wf, IntKind.min, IntKind.max, IntKind.signed, IntKind.bits] at h
  exact ⟨by omega, by omega⟩
theorem array_of_list {cs : Array Value} (l : List Value) (h : cs.size = l.length) (hj : ∀ (j : Nat) v, l[j]? = some v → cs[j]? = some v) : cs = l.toArray := by
  apply Array.ext_getElem?
  intro i
  by_cases hi : i < l.length
  · rw [hj i _ (List.getElem?_eq_getElem hi)]; simp [hi]
  · rw [Array.getElem?_eq_none (by omega)]; simp; omega

section
variable {H : Type} {enc : TypeId × Value → H} {P : Program} {W W' : World}

theorem trodAll_below (hl : laidOutB P = true) (hb : Below W.heap.size W W') : ∀ {ts : List TypeId} {vs : List Value} {ds : List (DataW H)} {ps : List MemPlace},
    (ts.all fun t => P.readableRec t && decide (t < P.types.size)) = true → DataW.TrodAll enc P W 0 (fun _ => true) true ts vs ds ps → DataW.TrodAll enc P W' 0 (fun b => decide (b < W.heap.size)) true ts vs ds ps
  | [], vs, ds, ps, _, h => by
    obtain ⟨rfl, rfl, rfl⟩ := trodAll_nil h
    exact trodAll_mk0
  | t :: ts, vs, ds, ps, hr, h => by
    have hlt := h.lt
    obtain ⟨v, vs', d, ds', p, q, rfl, rfl, rfl, h1, h2⟩ := trodAll_cons h
    simp only [List.all_cons, Bool.and_eq_true, decide_eq_true_eq] at hr
    exact trodAll_cons_mk (Below.trod hl hr.1.1 hr.1.2 h1 hb fun x hx => hlt x (List.mem_append_left _ hx)) (trodAll_below hl hb hr.2 h2)

/-- A slice of integers: its address (none: nil), its numbers. -/
def IntsIn (W : World) (k : IntKind) (A : Option Addr) (zs : List Int) : Prop := ∀ i, i < zs.length → ∃ a, A = some a ∧ a.block < W.heap.size ∧ W.cell? (a.add i) = some (.int k (zs.getD i 0))
theorem IntsIn.below {k : IntKind} {A : Option Addr} {zs : List Int} (h : IntsIn W k A zs) (hb : Below W.heap.size W W') : IntsIn W' k A zs := fun i hi => by
  obtain ⟨a, e, hlt, hc⟩ := h i hi
  exact ⟨a, e, Nat.lt_of_lt_of_le hlt hb.size, by rw [hb.cell (p := a.add i) (by rw [block_add]; exact hlt)]; exact hc⟩
theorem ints_of_trod {t e : TypeId} {k : IntKind} {A : Option Addr} {len cap : Nat} {d : DataW H} {p : List MemPlace} (ht : P.underlying t = some (.slice e)) (he : P.underlying e = some (.int k)) (hc : P.cellsOf e = 1)
    (h : DataW.Trod enc P W 0 (fun _ => true) true t (.slice A len cap) d p) : ∃ zs : List Int, zs.length = len ∧ len ≤ maxLen ∧ IntsIn W k A zs ∧ ∀ z ∈ zs, (Lit.int k z).wf = true := by
  obtain ⟨fuel, hf⟩ := h
  rcases open_ints ht he hc hf with ⟨hcs, _⟩ | ⟨a, len', cap', zs, hcs, _, hl, hm, hz, _, hcell, hw⟩
  · simp [Value.cells] at hcs
    obtain ⟨rfl, rfl, rfl⟩ := hcs
    exact ⟨[], rfl, by simp, fun i hi => by simp at hi, by simp⟩
  · simp [Value.cells] at hcs
    obtain ⟨rfl, rfl, rfl⟩ := hcs
    simp only [if_true] at hz
    refine ⟨zs.take len, by rw [List.length_take]; omega, by omega, fun i hi => ?_, fun z hz => hw z (List.mem_of_mem_take hz)⟩
    rw [List.length_take] at hi
    have := hcell i (by omega)
    refine ⟨a, rfl, by rw [← block_add a i]; exact World.block_lt_of_cell? _ _ this, ?_⟩
    rw [this]; congr 2
    simp [List.getD, show i < len by omega]

theorem ints_of_fields {fs : Array Field} {t : TypeId} {fuel : Nat} {cs : List Value} {x : DataW H × List MemPlace} (hs : P.underlying t = some (.struct fs)) (hone : Go.Deep.oneCellFields P fs = true) (hC : P.cellsOf t = fs.size)
    (h : DataW.trod enc P W 0 (fun _ => true) true fuel t cs = some x) : cs.length = fs.size ∧ ∀ (j : Nat) (f : Field) (k : IntKind), fs[j]? = some f → P.underlying f.type = some (.int k) → ∃ n : Int, cs[j]? = some (.int k n) ∧ (Lit.int k n).wf = true := by
  obtain ⟨ys, n, _, _, hlen, hyl, hf⟩ := DataW.trod_struct hs h
  refine ⟨hlen.trans hC, fun j f k hj hk => ?_⟩
  obtain ⟨ho, hc⟩ := Go.Deep.hone_of hone j f hj
  have hjl : j < fs.size := (Array.getElem?_eq_some_iff.1 hj).1
  have h1 := hf j f hj
  rw [ho, hc, List.drop_eq_getElem_cons (show j < cs.length by omega), List.take_succ_cons, List.take_zero, List.getElem?_eq_getElem (by omega)] at h1
  obtain ⟨m, e, _, hw⟩ := DataW.trod_int hk h1
  exact ⟨m, by rw [List.getElem?_eq_getElem (show j < cs.length by omega), List.head_eq_of_cons_eq e], hw⟩
/-- A struct of integers, by value. -/
theorem struct_of_trod {fs : Array Field} {t : TypeId} {r : Reach} {b0 : Nat} {v : Value} {d : DataW H} {p : List MemPlace} (hs : P.underlying t = some (.struct fs)) (hone : Go.Deep.oneCellFields P fs = true) (hC : P.cellsOf t = fs.size)
    (hv : Value.okWide P W r b0 t v) (h : DataW.Trod enc P W 0 (fun _ => true) true t v d p) : ∃ cs : Array Value, v = .agg cs ∧ cs.size = fs.size ∧
      ∀ (j : Nat) (f : Field) (k : IntKind), fs[j]? = some f → P.underlying f.type = some (.int k) → ∃ n : Int, cs[j]? = some (.int k n) ∧ (Lit.int k n).wf = true := by
  obtain ⟨cs, rfl, hsz⟩ := okWide_struct hs hv
  obtain ⟨fuel, hf⟩ := h
  obtain ⟨h1, h2⟩ := ints_of_fields hs hone hC hf
  exact ⟨cs, rfl, hsz.trans hC, fun j f k hj hk => by simpa [Value.cells] using h2 j f k hj hk⟩
/-- A slice of structs of integers, cell by cell. -/
theorem structs_of_trod {fs : Array Field} {t e : TypeId} {A : Option Addr} {len cap : Nat} {d : DataW H} {p : List MemPlace} (ht : P.underlying t = some (.slice e)) (hs : P.underlying e = some (.struct fs)) (hone : Go.Deep.oneCellFields P fs = true) (hC : P.cellsOf e = fs.size) (h0 : 0 < fs.size)
    (h : DataW.Trod enc P W 0 (fun _ => true) true t (.slice A len cap) d p) : len ≤ maxLen ∧ ∀ i, i < len → ∃ a, A = some a ∧ a.block < W.heap.size ∧
      ∀ (j : Nat) (f : Field) (k : IntKind), fs[j]? = some f → P.underlying f.type = some (.int k) → ∃ n : Int, W.cell? (a.add (i * fs.size + j)) = some (.int k n) ∧ (Lit.int k n).wf = true := by
  obtain ⟨fuel, hf⟩ := h
  rcases Go.Deep.open_slice ht hf with ⟨hcs, _⟩ | ⟨a, len', cap', m, n, D, Pl, hcs, _, hl, hm, hmm, _, hx⟩
  · simp [Value.cells] at hcs
    obtain ⟨rfl, rfl, rfl⟩ := hcs
    exact ⟨by simp, fun i hi => by omega⟩
  · simp [Value.cells] at hcs
    obtain ⟨rfl, rfl, rfl⟩ := hcs
    simp only [if_true] at hmm
    refine ⟨by omega, fun i hi => ?_⟩
    obtain ⟨cs', h1, h2⟩ := hx i (by omega)
    rw [hC] at h1
    obtain ⟨_, hcl, hat⟩ := World.cells?_some h1
    obtain ⟨_, h3⟩ := ints_of_fields hs hone hC h2
    have hcell : ∀ j, j < fs.size → W.cell? (a.add (i * fs.size + j)) = cs'[j]? := fun j hj => by rw [← Go.Deep.add_add]; exact hat j hj
    refine ⟨a, rfl, ?_, fun j f k hj hk => ?_⟩
    · have := hcell 0 h0
      rw [List.getElem?_eq_getElem (by omega)] at this
      rw [← block_add a (i * fs.size + 0)]; exact World.block_lt_of_cell? _ _ this
    · obtain ⟨x, e1, e2⟩ := h3 j f k hj hk
      exact ⟨x, by rw [hcell j (Array.getElem?_eq_some_iff.1 hj).1]; exact e1, e2⟩
end
end Go.Proofs.YtobbmhboahognaaDoor
