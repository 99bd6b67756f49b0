/- What the statements of layer 7 share: the queue of numbered items, a row of truth values. -/
import Derived.Test.YtgkmihlnmhegfaaHeapAwake
import Derived.Test.YtgkmihlnmhegfaaLawClose
import Derived.Laws.MakeOwn
import Derived.BigQuiet
import Derived.IntWalk
namespace Go.Proofs.Ytgkmihlnmhegfaa
open Go.RowKit
set_option linter.unusedVariables false

/-- The item of a number. -/
def itmOf (zs : List Int) (j : Nat) : Itm := ⟨zs.getD j 0, (j : Int), (j : Int) + 1⟩
/-- The first i of them, in order. -/
def queue (zs : List Int) (i : Nat) : List Itm := (List.range i).foldl (fun S j => insI S (itmOf zs j)) []
theorem queue_succ (zs : List Int) (i : Nat) : queue zs (i + 1) = insI (queue zs i) (itmOf zs i) := by unfold queue; rw [List.range_succ, List.foldl_append]; rfl
theorem queue_perm (zs : List Int) (i : Nat) : (queue zs i).Perm ((List.range i).map (itmOf zs)) := by
  induction i with
  | zero => exact List.Perm.refl _
  | succ i ih =>
    rw [queue_succ, List.range_succ, List.map_append]
    exact (insI_perm _ _).trans ((ih.cons _).trans (List.perm_append_comm (l₁ := [_])))
theorem queue_length (zs : List Int) (i : Nat) : (queue zs i).length = i := by rw [(queue_perm zs i).length_eq]; simp
theorem queue_mem (zs : List Int) (i : Nat) (y : Itm) (h : y ∈ queue zs i) : ∃ j, j < i ∧ y = itmOf zs j := by
  obtain ⟨j, hj, rfl⟩ := List.mem_map.1 ((queue_perm zs i).mem_iff.1 h)
  exact ⟨j, List.mem_range.1 hj, rfl⟩
theorem queue_at (zs : List Int) (n k : Nat) (h : k < n) : ∃ j, j < n ∧ at_ (queue zs n) k = itmOf zs j := by
  have hk : k < (queue zs n).length := by rw [queue_length]; exact h
  obtain ⟨j, hj, e⟩ := queue_mem zs n (at_ (queue zs n) k) (by rw [at_get _ _ hk]; exact List.getElem_mem _)
  exact ⟨j, hj, e⟩
theorem sorted_at {S : List Itm} (h : Sorted S) {p q : Nat} (hp : p < q) (hq : q < S.length) : ltI (at_ S p) (at_ S q) := by
  rw [at_get _ _ (by omega), at_get _ _ hq]
  exact List.pairwise_iff_getElem.1 h p q (by omega) hq hp
theorem drop_at (S : List Itm) (k : Nat) (h : k < S.length) : S.drop k = at_ S k :: S.drop (k + 1) := by rw [at_get _ _ h]; exact List.drop_eq_getElem_cons h

theorem info_bool : (Try.prog.info? 4).map (fun i => (i.zero, i.size, i.bytes)) = some (some (.bool false), 1, 1) := by kernel_rfl
theorem make_bools (c : Nat) (hc : c ≤ 65536) (W : World) : (Instr.makeSlice 48 (.int .i64 (c : Int)) (.int .i64 (c : Int))).run Try.prog W = .ok (.slice (some ⟨W.heap.size, 0, none⟩) c c) (W.alloc (.cells (madeCells #[.bool false] c) 4)) := by
  obtain ⟨i, hi, hz, hs, hb⟩ := info_parts info_bool
  have := run_make (P := Try.prog) W 48 4 i _ Try.underlying48 hi hz .i64 .i64 c c (by omega) (by omega) (by rw [hb]; omega) (by omega)
  rw [hs] at this
  simp only [Int.toNat_natCast, Nat.mul_one] at this
  exact this
/-- So many truth values. -/
def boolsT (f : Nat → Bool) (n : Nat) : List Value := (List.range n).map fun j => Value.bool (f j)
theorem boolsT_len (f : Nat → Bool) (n : Nat) : (boolsT f n).length = n := by simp [boolsT]
theorem boolsT_get (f : Nat → Bool) (n j : Nat) (h : j < (boolsT f n).length) : (boolsT f n)[j] = .bool (f j) := by simp [boolsT]
theorem made_bools (n : Nat) : madeCells #[.bool false] n = (boolsT (fun _ => false) n).toArray := by
  apply Array.ext
  · simp [madeCells, boolsT]
  · intro j h1 h2
    simp [madeCells, boolsT, Nat.mod_one]
theorem boolsT_set (f : Nat → Bool) (n v : Nat) : (boolsT f n).set v (.bool true) = boolsT (fun j => f j || decide (v = j)) n := by
  apply List.ext_getElem
  · simp [boolsT]
  · intro j h1 h2
    rw [List.getElem_set]
    by_cases e : v = j
    · subst e; simp [boolsT]
    · rw [if_neg e]; simp [boolsT, e]
theorem boolsT_congr {f g : Nat → Bool} {n : Nat} (h : ∀ j, j < n → f j = g j) : boolsT f n = boolsT g n := by
  apply List.ext_getElem
  · simp [boolsT]
  · intro j h1 h2
    simp only [boolsT_get]
    rw [h j (by simpa [boolsT] using h1)]

/-- A slice of numbers that is not empty: its address, its cells. -/
theorem ints_at {W : World} {k : IntKind} {A : Option Addr} {zs : List Int} (h : IntsIn W k A zs) (hl : 0 < zs.length) : ∃ a, A = some a ∧ a.block < W.heap.size ∧ ∀ j, j < zs.length → W.cell? (a.add j) = some (.int k (zs.getD j 0)) := by
  obtain ⟨a, ha, hb, _⟩ := h 0 hl
  refine ⟨a, ha, hb, fun j hj => ?_⟩
  obtain ⟨a', ha', _, hc⟩ := h j hj
  rw [ha] at ha'; cases ha'
  exact hc
theorem cell_below {w0 W : World} {a : Addr} {j : Nat} (hb : Below w0.heap.size w0 W) (hl : a.block < w0.heap.size) : W.cell? (a.add j) = w0.cell? (a.add j) := hb.cell (p := a.add j) (by rw [ChangeShapes.block_add]; exact hl)

set_option maxHeartbeats 2000000 in
/-- A statement whose input is too long: a queue, and the example. -/
theorem newAwake (w : World) : Calls Try.prog 8 #[] w fun e w' => e = .returned (.pointer (some ⟨w.heap.size + 1, 0, none⟩)) ∧ Below w.heap.size w w' := (newS w).mono fun _ _ ⟨h1, _, h3⟩ => ⟨h1, h3⟩
end Go.Proofs.Ytgkmihlnmhegfaa
