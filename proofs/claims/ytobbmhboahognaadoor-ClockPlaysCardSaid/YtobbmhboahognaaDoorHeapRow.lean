/- The queue's items in memory (layer 7): a row of items in one block, of which one is overwritten or the last ones are left out; the row, the map and the two fields together. -/
import Derived.Test.YtobbmhboahognaaDoorHeapMap
import Derived.Test.YtobbmhboahognaaDoorHeapCmp
import Derived.Test.YtobbmhboahognaaDoorFrame
import Derived.Laws.AppendOwn
namespace Go.Proofs.YtobbmhboahognaaDoor
open Go.RowKit
set_option linter.unusedVariables false

def Itm.cs (x : Itm) : List Value := [.int .u64 x.d, .int .u64 x.w, .int .i64 x.h]
def flatI (L : List Itm) : List Value := L.flatMap Itm.cs
theorem flatI_length (L : List Itm) : (flatI L).length = L.length * 3 := by
  induction L with
  | nil => rfl
  | cons x L ih => simp only [flatI, List.flatMap_cons, List.length_append, List.length_cons] at *; rw [ih]; simp [Itm.cs]; omega
theorem flatI_append (L M : List Itm) : flatI (L ++ M) = flatI L ++ flatI M := by simp [flatI]
theorem flatI_take (L : List Itm) (n : Nat) : flatI (L.take n) = (flatI L).take (n * 3) := by
  induction L generalizing n with
  | nil => simp [flatI]
  | cons x L ih =>
    cases n with
    | zero => simp [flatI]
    | succ n =>
      have : (flatI (x :: L)).take ((n + 1) * 3) = x.cs ++ (flatI L).take (n * 3) := by
        rw [show flatI (x :: L) = x.cs ++ flatI L from rfl, List.take_append, show x.cs.length = 3 from rfl, List.take_of_length_le (by rw [show x.cs.length = 3 from rfl]; omega), show (n + 1) * 3 - 3 = n * 3 by omega]
      rw [this, List.take_succ_cons, ← ih]; rfl
theorem flatI_set (L : List Itm) (i : Nat) (hi : i < L.length) (x : Itm) : flatI (L.set i x) = (((flatI L).set (i * 3) (.int .u64 x.d)).set (i * 3 + 1) (.int .u64 x.w)).set (i * 3 + 2) (.int .i64 x.h) := by
  induction L generalizing i with
  | nil => simp at hi
  | cons y L ih =>
    cases i with
    | zero => simp [flatI, Itm.cs]
    | succ i =>
      have h1 : flatI (y :: L) = y.cs ++ flatI L := rfl
      rw [List.set_cons_succ, show flatI (y :: L.set i x) = y.cs ++ flatI (L.set i x) from rfl, ih i (by simpa using hi), h1]
      have h3 : y.cs.length = 3 := rfl
      rw [List.set_append_right _ _ (by rw [h3]; omega), List.set_append_right _ _ (by rw [h3]; omega), List.set_append_right _ _ (by rw [h3]; omega)]
      rw [h3, show (i + 1) * 3 - 3 = i * 3 by omega, show (i + 1) * 3 + 1 - 3 = i * 3 + 1 by omega, show (i + 1) * 3 + 2 - 3 = i * 3 + 2 by omega]
theorem flatI_at (L : List Itm) (i : Nat) (hi : i < L.length) : (flatI L)[i * 3]? = some (.int .u64 (at_ L i).d) ∧ (flatI L)[i * 3 + 1]? = some (.int .u64 (at_ L i).w) ∧ (flatI L)[i * 3 + 2]? = some (.int .i64 (at_ L i).h) := by
  induction L generalizing i with
  | nil => simp at hi
  | cons y L ih =>
    have h1 : flatI (y :: L) = y.cs ++ flatI L := rfl
    cases i with
    | zero => simp [h1, Itm.cs, at_]
    | succ i =>
      have := ih i (by simpa using hi)
      have h3 : y.cs.length = 3 := rfl
      have e : at_ (y :: L) (i + 1) = at_ L i := by simp [at_]
      rw [h1, e]
      refine ⟨?_, ?_, ?_⟩
      · rw [List.getElem?_append_right (by rw [h3]; omega), h3, show (i + 1) * 3 - 3 = i * 3 by omega]; exact this.1
      · rw [List.getElem?_append_right (by rw [h3]; omega), h3, show (i + 1) * 3 + 1 - 3 = i * 3 + 1 by omega]; exact this.2.1
      · rw [List.getElem?_append_right (by rw [h3]; omega), h3, show (i + 1) * 3 + 2 - 3 = i * 3 + 2 by omega]; exact this.2.2

/-- Block g begins with these items. -/
def IRow (W : World) (g cap : Nat) (C : List Itm) : Prop := ∃ cur, W.heap[g]? = some (.cells cur 171 (0, 0)) ∧ cur.size = cap * 3 ∧ C.length ≤ cap ∧ cap ≤ maxLen ∧ cur.toList.take (C.length * 3) = flatI C
section
variable {W W' : World} {g cap : Nat} {C : List Itm}
theorem IRow.lt (h : IRow W g cap C) : g < W.heap.size := by obtain ⟨cur, h, _⟩ := h; exact (Array.getElem?_eq_some_iff.1 h).1
theorem IRow.block (h : IRow W g cap C) (hb : W'.heap[g]? = W.heap[g]?) : IRow W' g cap C := by obtain ⟨cur, h, k⟩ := h; exact ⟨cur, hb.trans h, k⟩
theorem IRow.cells (h : IRow W g cap C) {j : Nat} {u : Value} (hu : (flatI C)[j]? = some u) : W.cell? ⟨g, j, none⟩ = some u := by
  obtain ⟨cur, h, h1, h2, h3, h4⟩ := h
  rw [cell_of_row W g j cur _ (0, 0) h]
  rw [← h4, List.getElem?_take] at hu
  split at hu
  · simpa using hu
  · cases hu
theorem IRow.free (h : IRow W g cap C) (j : Nat) : W.frozen? ⟨g, j, none⟩ = false := by
  obtain ⟨cur, h, _⟩ := h
  simp [World.frozen?, h]
theorem IRow.at3 (h : IRow W g cap C) (i : Nat) (hi : i < C.length) : W.cell? ⟨g, i * 3, none⟩ = some (.int .u64 (at_ C i).d) ∧ W.cell? ⟨g, i * 3 + 1, none⟩ = some (.int .u64 (at_ C i).w) ∧ W.cell? ⟨g, i * 3 + 2, none⟩ = some (.int .i64 (at_ C i).h) := by
  obtain ⟨h1, h2, h3⟩ := flatI_at C i hi
  exact ⟨h.cells h1, h.cells h2, h.cells h3⟩
theorem IRow.cut (h : IRow W g cap C) (n : Nat) : IRow W g cap (C.take n) := by
  obtain ⟨cur, h, h1, h2, h3, h4⟩ := h
  refine ⟨cur, h, h1, by simp; omega, h3, ?_⟩
  rw [flatI_take, ← h4, List.take_take, List.length_take]
  congr 1
  rcases Nat.le_total n C.length with k | k
  · rw [Nat.min_eq_left k, Nat.min_eq_left (by omega)]
  · rw [Nat.min_eq_right k, Nat.min_eq_right (by omega)]
theorem heap_set1 {W : World} {g : Nat} {cur : Array Value} {t : TypeId} (h : W.heap[g]? = some (.cells cur t (0, 0))) (j : Nat) (u : Value) : (W.setCell ⟨g, j, none⟩ u).heap[g]? = some (.cells (cur.setIfInBounds j u) t (0, 0)) := by
  obtain ⟨hlt, hk⟩ := Array.getElem?_eq_some_iff.1 h
  show (W.heap.modify g _)[g]? = _
  rw [Array.getElem?_eq_getElem (by rw [Array.size_modify]; exact hlt), Array.getElem_modify_self, hk]
  rfl
/-- The world behind the store of an item. -/
def setItm (W : World) (g i : Nat) (x : Itm) : World := ((W.setCell ⟨g, i * 3, none⟩ (.int .u64 x.d)).setCell ⟨g, i * 3 + 1, none⟩ (.int .u64 x.w)).setCell ⟨g, i * 3 + 2, none⟩ (.int .i64 x.h)
theorem IRow.set (h : IRow W g cap C) (i : Nat) (hi : i < C.length) (x : Itm) : IRow (setItm W g i x) g cap (C.set i x) := by
  obtain ⟨cur, h, h1, h2, h3, h4⟩ := h
  refine ⟨_, heap_set1 (heap_set1 (heap_set1 h _ _) _ _) _ _, by simpa using h1, by simpa using h2, h3, ?_⟩
  rw [List.length_set, flatI_set C i hi, ← h4]
  simp only [Array.toList_setIfInBounds, List.take_set]
theorem setItm_only (W : World) (g i : Nat) (x : Itm) : Only [g] W (setItm W g i x) :=
  ((((Only.refl [g] W).setCell (p := ⟨g, i * 3, none⟩) (Or.inl (by simp)) _).setCell (p := ⟨g, i * 3 + 1, none⟩) (Or.inl (by simp)) _).setCell (p := ⟨g, i * 3 + 2, none⟩) (Or.inl (by simp)) _)
end

/-- A queue's fields, its row and its map: c bounds the map's entries. -/
structure Core (W : World) (b mb g cap c : Nat) (C : List Itm) (f : Int → Option Nat) : Prop where
  c0 : W.cell? ⟨b, 0, none⟩ = some (.slice (some ⟨g, 0, none⟩) C.length cap)
  c1 : W.cell? ⟨b, 1, none⟩ = some (.map (some mb))
  row : IRow W g cap C
  pos : PosIs W mb c f
  bg : b ≠ g
section
variable {W W' : World} {b mb g cap c : Nat} {C : List Itm} {f : Int → Option Nat}
theorem Core.lt (h : Core W b mb g cap c C f) : b < W.heap.size := World.block_lt_of_cell? _ _ h.c0
theorem Core.mg (h : Core W b mb g cap c C f) : mb ≠ g := by
  rintro rfl
  obtain ⟨es, ck, h1⟩ := h.pos.isMap
  obtain ⟨cur, h2, _⟩ := h.row
  rw [h1] at h2; cases h2
theorem Core.bm (h : Core W b mb g cap c C f) : b ≠ mb := by
  rintro rfl
  obtain ⟨es, ck, h1⟩ := h.pos.isMap
  have := h.c0
  simp [World.cell?, h1] at this
theorem Core.blocks (h : Core W b mb g cap c C f) (hb : W'.heap[b]? = W.heap[b]?) (hm : W'.heap[mb]? = W.heap[mb]?) (hg : W'.heap[g]? = W.heap[g]?) : Core W' b mb g cap c C f :=
  ⟨by rw [World.cell?_of_block (w := W) (w' := W') (a := ⟨b, 0, none⟩) hb]; exact h.c0, by rw [World.cell?_of_block (w := W) (w' := W') (a := ⟨b, 1, none⟩) hb]; exact h.c1, h.row.block hg, h.pos.block hm, h.bg⟩
theorem Core.only {F : List Nat} (h : Core W b mb g cap c C f) (ho : Only F W W') (hb : b ∉ F) (hm : mb ∉ F) (hg : g ∉ F) : Core W' b mb g cap c C f :=
  h.blocks (ho.block b h.lt hb) (ho.block mb h.pos.lt hm) (ho.block g h.row.lt hg)
theorem Core.below (h : Core W b mb g cap c C f) (hb : Below W.heap.size W W') : Core W' b mb g cap c C f := h.only (F := []) (Only.of_below hb) (by simp) (by simp) (by simp)
end
end Go.Proofs.YtobbmhboahognaaDoor
