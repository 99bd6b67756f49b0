/- settle (layer 7): an item is brought into a queue that has a gap. The conditions: the queue is a heap but for the gap, handles are the machine's numbers and differ, the map has room. -/
import Derived.Test.YtobbmhboahognaaDoorHeapIter
namespace Go.Proofs.YtobbmhboahognaaDoor
open Go.RowKit Go.Shelf
set_option linter.unusedVariables false
attribute [local go_sem] Oper.semAt_some

set_option maxHeartbeats 1000000 in
theorem mkBelow_any (b g : Nat) (w : World) :
    Calls Tryd.prog 97 #[.pointer (some ⟨b, 0, none⟩), .int .i64 g] w fun e w' => e = .returned (.func (.func 102) #[] #[.pointer (some ⟨w.heap.size + 1, 0, none⟩), .pointer (some ⟨w.heap.size, 0, none⟩)]) ∧ w' = (w.alloc (.cells #[.pointer (some ⟨b, 0, none⟩)] 118)).alloc (.cells #[.int .i64 g] 3) := by
  go_enter Tryd.func97, Tryd.ntmps97
  go_wp2
  go_ret
  exact ⟨rfl, rfl⟩
set_option maxHeartbeats 1000000 in
theorem mkAbove_any (g : Nat) (w : World) :
    Calls Tryd.prog 100 #[.int .i64 g] w fun e w' => e = .returned (.func (.func 106) #[] #[.pointer (some ⟨w.heap.size, 0, none⟩)]) ∧ w' = w.alloc (.cells #[.int .i64 g] 3) := by
  go_enter Tryd.func100, Tryd.ntmps100
  go_wp2
  go_ret
  exact ⟨rfl, rfl⟩

/-- The memory in settle (s blocks lay there ahead of it): its three boxes, the queue, the gap. -/
structure LoopAt (w : World) (s b mb rg cap c : Nat) (x : Itm) (C : List Itm) (gap : Nat) (W : World) : Prop where
  bh : Boxed W s 118 (.pointer (some ⟨b, 0, none⟩))
  bg : Boxed W (s + 1) 3 (.int .i64 gap)
  bx : W.heap[s + 1 + 1]? = some (.cells #[.int .u64 x.d, .int .u64 x.w, .int .i64 x.h] 171 (0, 0))
  core : ∃ f, Core W b mb rg cap c C f ∧ PosOK C gap x f
  only : Only [rg, mb] w W
  sz : s + 1 + 1 < W.heap.size
/-- The queue's blocks lay there ahead. -/
structure Olds (w : World) (s b mb rg : Nat) : Prop where
  os : s = w.heap.size
  ob : b < s
  om : mb < s
  orr : rg < s
  mr : mb ≠ rg
  br : b ≠ rg
  bm : b ≠ mb
theorem Only.after {F G : List Nat} {a b c : World} (h : Only F a b) (k : Only G b c) (hG : ∀ k ∈ G, a.heap.size ≤ k) : Only F a c :=
  ⟨k.os.trans h.os, k.tape.trans h.tape, k.output.trans h.output, Nat.le_trans h.size k.size, fun i hi hn => (k.block i (Nat.lt_of_lt_of_le hi h.size) (fun hg => by have := hG i hg; omega)).trans (h.block i hi hn)⟩
theorem boxed_of {F : List Nat} {W W' : World} {B : Nat} {t : TypeId} {v : Value} (h : Boxed W B t v) (ho : Only F W W') (hB : B ∉ F) : Boxed W' B t v := (ho.block B h.lt hB).trans h
section
variable {w W W' : World} {s b mb rg cap c : Nat} {x : Itm} {C : List Itm} {gap : Nat}
theorem LoopAt.keep {F : List Nat} (h : LoopAt w s b mb rg cap c x C gap W) (o : Olds w s b mb rg) (ho : Only F W W') (hF : ∀ k ∈ F, s + 1 + 1 < k) : LoopAt w s b mb rg cap c x C gap W' := by
  have hn : ∀ k, k ≤ s + 1 + 1 → k ∉ F := fun k hk hk' => by have := hF k hk'; omega
  obtain ⟨f, hc, hp⟩ := h.core
  have := o.ob; have := o.om; have := o.orr
  exact ⟨boxed_of h.bh ho (hn _ (by omega)), boxed_of h.bg ho (hn _ (by omega)), (ho.block _ h.sz (hn _ (by omega))).trans h.bx, ⟨f, hc.only ho (hn _ (by omega)) (hn _ (by omega)) (hn _ (by omega)), hp⟩,
    h.only.after ho (fun k hk => by have := hF k hk; have := o.os; omega), Nat.lt_of_lt_of_le h.sz ho.size⟩
theorem LoopAt.below (h : LoopAt w s b mb rg cap c x C gap W) (o : Olds w s b mb rg) (hb : Below W.heap.size W W') : LoopAt w s b mb rg cap c x C gap W' := h.keep o (F := []) (Only.of_below hb) (by simp)
/-- The cells that the loops read. -/
structure LoopCells (W : World) (s b mb rg cap : Nat) (x : Itm) (C : List Itm) (gap : Nat) : Prop where
  h : W.cell? ⟨s, 0, none⟩ = some (.pointer (some ⟨b, 0, none⟩))
  g : W.cell? ⟨s + 1, 0, none⟩ = some (.int .i64 gap)
  x0 : W.cell? ⟨s + 1 + 1, 0, none⟩ = some (.int .u64 x.d)
  x1 : W.cell? ⟨s + 1 + 1, 1, none⟩ = some (.int .u64 x.w)
  x2 : W.cell? ⟨s + 1 + 1, 2, none⟩ = some (.int .i64 x.h)
  c0 : W.cell? ⟨b, 0, none⟩ = some (.slice (some ⟨rg, 0, none⟩) C.length cap)
theorem LoopAt.cells (h : LoopAt w s b mb rg cap c x C gap W) : LoopCells W s b mb rg cap x C gap := by
  obtain ⟨f, hc, hp⟩ := h.core
  exact ⟨h.bh.cell, h.bg.cell, cell_of_row W _ 0 _ _ _ h.bx, cell_of_row W _ 1 _ _ _ h.bx, cell_of_row W _ 2 _ _ _ h.bx, hc.c0⟩
theorem LoopAt.item (h : LoopAt w s b mb rg cap c x C gap W) (i : Nat) (hi : i < C.length) : W.cell? ⟨rg, i * 3, none⟩ = some (.int .u64 (at_ C i).d) ∧ W.cell? ⟨rg, i * 3 + 1, none⟩ = some (.int .u64 (at_ C i).w) ∧ W.cell? ⟨rg, i * 3 + 2, none⟩ = some (.int .i64 (at_ C i).h) := by
  obtain ⟨f, hc, hp⟩ := h.core
  exact hc.row.at3 i hi
/-- One move of the gap: the item at n is laid at the gap, and the gap is n. -/
theorem LoopAt.move (h : LoopAt w s b mb rg cap c x C gap W) (o : Olds w s b mb rg) (n : Nat) (hg : gap < C.length) (hn : n < C.length) (hne : n ≠ gap) (hd : Distinct (C.set gap x)) (hl : C.length < 2147483648) (hx : ∀ y ∈ C.set gap x, (Lit.int .i64 y.h).wf = true) (hc : c < maxLen) :
    Calls Tryd.prog 99 #[.pointer (some ⟨b, 0, none⟩), .int .i64 gap, .agg #[.int .u64 (at_ C n).d, .int .u64 (at_ C n).w, .int .i64 (at_ C n).h]] W fun e W' => e = .returned (.tuple #[]) ∧ Only [rg, mb] W W' ∧ W.heap.size ≤ W'.heap.size ∧ LoopAt w s b mb rg cap (c + 1) x (C.set gap (at_ C n)) n (W'.setCell ⟨s + 1, 0, none⟩ (.int .i64 n)) ∧ W'.frozen? ⟨s + 1, 0, none⟩ = false ∧ W'.cell? ⟨s + 1, 0, none⟩ = some (.int .i64 gap) := by
  obtain ⟨f, hco, hp⟩ := h.core
  have hm : at_ C n ∈ C.set gap x := by
    have := List.getElem_mem (l := C.set gap x) (n := n) (by simpa using hn)
    rw [List.getElem_set_ne (fun e => hne e.symm)] at this
    rw [at_get _ _ hn]; exact this
  have e1 := o.ob; have e2 := o.om; have e3 := o.orr; have e4 := o.os
  refine (place_any hco gap hg hl (at_ C n) (hx _ hm) hc).mono ?_
  rintro e W' ⟨rfl, hc', ho⟩
  have b1 := boxed_of h.bh ho (by simp; omega)
  have b2 := boxed_of h.bg ho (by simp; omega)
  have b3 := (ho.block _ h.sz (by simp; omega)).trans h.bx
  have o3 : Only [s + 1] W' (W'.setCell ⟨s + 1, 0, none⟩ (.int .i64 n)) := (Only.refl [s + 1] W').setCell (p := ⟨s + 1, 0, none⟩) (Or.inl (by simp)) _
  refine ⟨rfl, ho, ho.size, ⟨boxed_of b1 o3 (by simp), b2.set _, (o3.block _ (Nat.lt_of_lt_of_le h.sz ho.size) (by simp)).trans b3, ⟨_, hc'.only o3 (by simp; omega) (by simp; omega) (by simp; omega), hp.step hd hg hn hne⟩, ?_, Nat.lt_of_lt_of_le h.sz (Nat.le_trans ho.size o3.size)⟩, b2.frozen, b2.cell⟩
  exact (h.only.trans ho).after o3 (fun k hk => by simp at hk; omega)
end
end Go.Proofs.YtobbmhboahognaaDoor
