/- A slice of instructions as a row of cells (layer 4; CopyCode's first part, without the contract): a block whose first cells are the instructions' holds them. -/
import Derived.Test.YtobbmhboahognaaDoorInsIn
namespace Go.Proofs.YtobbmhboahognaaDoor
open Go.RowKit
set_option linter.unusedVariables false

/-- An instruction's cells. -/
def Inst.vs (x : Inst) : List Value := [.int .i64 x.op, .int .i64 x.a, .int .i64 x.b, .int .i64 x.c, .int .u64 x.v, .int .i64 x.m, .int .i64 x.wh]
def flatIns (l : List Inst) : List Value := l.flatMap Inst.vs
theorem flatIns_length (l : List Inst) : (flatIns l).length = l.length * 7 := by
  induction l with
  | nil => rfl
  | cons x l ih => rw [flatIns, List.flatMap_cons, List.length_append, ← flatIns, ih, List.length_cons, show x.vs.length = 7 from rfl]; omega
theorem flatIns_get : ∀ (l : List Inst) (i k : Nat), i < l.length → k < 7 → (flatIns l)[i * 7 + k]? = (l.getD i inst0).vs[k]?
  | [], i, k, h, _ => by simp at h
  | x :: l, 0, k, _, hk => by
    rw [flatIns, List.flatMap_cons, List.getElem?_append_left (by show 0 * 7 + k < 7; omega)]; simp
  | x :: l, i + 1, k, h, hk => by
    rw [flatIns, List.flatMap_cons, List.getElem?_append_right (by show 7 ≤ _; omega), ← flatIns, show (i + 1) * 7 + k - x.vs.length = i * 7 + k by show (i + 1) * 7 + k - 7 = _; omega, flatIns_get l i k (by simpa using h) hk]; simp
theorem flatIns_one (l : List Inst) : ∀ u ∈ flatIns l, u.oneCell' = true := by
  intro u hu
  simp only [flatIns, List.mem_flatMap] at hu
  obtain ⟨x, _, hx⟩ := hu
  simp [Inst.vs] at hx
  rcases hx with rfl | rfl | rfl | rfl | rfl | rfl | rfl <;> rfl
/-- The cells behind a slice of instructions, one after another. -/
theorem InsIn.news {W : World} {p : Addr} {l : List Inst} (h : InsIn W (some p) l) : ∀ j u, (flatIns l)[j]? = some u → W.cell? (p.add j) = some u := by
  intro j u hu
  have hj : j < l.length * 7 := by rw [← flatIns_length]; exact (List.getElem?_eq_some_iff.1 hu).1
  have hi : j / 7 < l.length := by omega
  have hk : j % 7 < 7 := by omega
  have hjk : j = j / 7 * 7 + j % 7 := by omega
  rw [hjk, flatIns_get l _ _ hi hk] at hu
  obtain ⟨p', e, _, c0, c1, c2, c3, c4, c5, c6⟩ := h (j / 7) hi
  obtain rfl : p = p' := Option.some.inj e
  have ad : ∀ k, 0 < k → p.add (j / 7 * 7 + k) = ⟨(p.add (j / 7 * 7)).block, (p.add (j / 7 * 7)).off + k, none⟩ := fun k hk => by rw [← Go.Deep.add_add, add_pos _ _ hk]
  rw [hjk]
  generalize j % 7 = k at hu hk
  match k, hk with
  | 0, _ => rw [Nat.add_zero, c0]; exact hu
  | 1, _ => rw [ad 1 (by omega), c1]; exact hu
  | 2, _ => rw [ad 2 (by omega), c2]; exact hu
  | 3, _ => rw [ad 3 (by omega), c3]; exact hu
  | 4, _ => rw [ad 4 (by omega), c4]; exact hu
  | 5, _ => rw [ad 5 (by omega), c5]; exact hu
  | 6, _ => rw [ad 6 (by omega), c6]; exact hu
/-- A block whose first cells are the instructions'. -/
theorem insIn_of_block {W : World} {g : Nat} {l : List Inst} (hg : g < W.heap.size) (h : ∀ j u, (flatIns l)[j]? = some u → W.cell? ⟨g, j, none⟩ = some u) : InsIn W (some ⟨g, 0, none⟩) l := fun i hi => by
  have k : ∀ k u, k < 7 → (l.getD i inst0).vs[k]? = some u → W.cell? ⟨g, i * 7 + k, none⟩ = some u := fun k u hk hu => h _ _ (by rw [flatIns_get l i k hi hk]; exact hu)
  have e0 : (⟨g, 0, none⟩ : Addr).add (i * 7) = ⟨g, i * 7, none⟩ := by
    unfold Addr.add; split
    · rename_i h0; rw [h0]
    · simp
  exact ⟨_, rfl, hg, by rw [e0]; exact k 0 _ (by omega) rfl, by rw [e0]; exact k 1 _ (by omega) rfl, by rw [e0]; exact k 2 _ (by omega) rfl, by rw [e0]; exact k 3 _ (by omega) rfl, by rw [e0]; exact k 4 _ (by omega) rfl, by rw [e0]; exact k 5 _ (by omega) rfl, by rw [e0]; exact k 6 _ (by omega) rfl⟩

theorem insIn_new (w : World) (l : List Inst) (t : TypeId) : InsIn (w.alloc (.cells (flatIns l).toArray t)) (some ⟨w.heap.size, 0, none⟩) l :=
  insIn_of_block (by simp) fun j u hu => by rw [World.cell?_alloc_at _ _ _ _ rfl]; simpa using hu
theorem InsIn.only {W W' : World} {A : Option Addr} {l : List Inst} (h : InsIn W A l) {F : List Nat} (ho : Only F W W') (hF : ∀ a, A = some a → a.block ∉ F) : InsIn W' A l := fun i hi => by
  obtain ⟨p, e, hp, c0, c1, c2, c3, c4, c5, c6⟩ := h i hi
  have k : ∀ q : Addr, q.block = p.block → W'.cell? q = W.cell? q := fun q hq => World.cell?_of_block (by rw [hq]; exact ho.block _ hp (hF p e))
  have hb : (p.add (i * 7)).block = p.block := ChangeShapes.block_add _ _
  exact ⟨p, e, Nat.lt_of_lt_of_le hp ho.size, (k _ hb).trans c0, (k ⟨_, _, none⟩ hb).trans c1, (k ⟨_, _, none⟩ hb).trans c2, (k ⟨_, _, none⟩ hb).trans c3, (k ⟨_, _, none⟩ hb).trans c4, (k ⟨_, _, none⟩ hb).trans c5, (k ⟨_, _, none⟩ hb).trans c6⟩
end Go.Proofs.YtobbmhboahognaaDoor
