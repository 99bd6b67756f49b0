/- What the statements of layer 8 share: the queue of numbered items. -/
import Derived.Test.YtobbmhboahognaaDoorClkAwake
import Derived.Test.YtobbmhboahognaaDoorLawClose
import Derived.Test.YtobbmhboahognaaDoorKeepWithin
namespace Go.Proofs.YtobbmhboahognaaDoor
open Go.RowKit
set_option linter.unusedVariables false

/-- The first i of the items f, in order. -/
def queueG (f : Nat → Itm) (i : Nat) : List Itm := (List.range i).foldl (fun S j => insI S (f j)) []
theorem queueG_succ (f : Nat → Itm) (i : Nat) : queueG f (i + 1) = insI (queueG f i) (f i) := by unfold queueG; rw [List.range_succ, List.foldl_append]; rfl
theorem queueG_perm (f : Nat → Itm) (i : Nat) : (queueG f i).Perm ((List.range i).map f) := by
  induction i with
  | zero => exact List.Perm.refl _
  | succ i ih =>
    rw [queueG_succ, List.range_succ, List.map_append]
    exact (insI_perm _ _).trans ((ih.cons _).trans (List.perm_append_comm (l₁ := [_])))
theorem queueG_length (f : Nat → Itm) (i : Nat) : (queueG f i).length = i := by rw [(queueG_perm f i).length_eq]; simp
theorem queueG_mem (f : Nat → Itm) (i : Nat) (y : Itm) (h : y ∈ queueG f i) : ∃ j, j < i ∧ y = f j := by
  obtain ⟨j, hj, rfl⟩ := List.mem_map.1 ((queueG_perm f i).mem_iff.1 h)
  exact ⟨j, List.mem_range.1 hj, rfl⟩
theorem queueG_at (f : Nat → Itm) (n k : Nat) (h : k < n) : ∃ j, j < n ∧ at_ (queueG f n) k = f j := by
  have hk : k < (queueG f n).length := by rw [queueG_length]; exact h
  exact queueG_mem f n _ (by rw [at_get _ _ hk]; exact List.getElem_mem _)
theorem queueG_sorted (f : Nat → Itm) (hf : ∀ j, (f j).h = (j : Int) + 1) (m : Nat) : Sorted (queueG f m) := by
  induction m with
  | zero => exact List.Pairwise.nil
  | succ m ih =>
    rw [queueG_succ]
    refine insI_sorted ih _ fun y hy => ?_
    obtain ⟨q, hq, rfl⟩ := queueG_mem f m y hy
    rw [hf, hf]; omega
theorem sortedD {S : List Itm} (h : Sorted S) {p q : Nat} (hp : p ≤ q) (hq : q < S.length) : (at_ S p).d ≤ (at_ S q).d := by
  rcases Nat.lt_or_ge p q with h1 | h1
  · have := List.pairwise_iff_getElem.1 h p q (by omega) hq h1
    rw [at_get _ _ (by omega), at_get _ _ hq]
    unfold ltI at this; omega
  · obtain rfl : p = q := by omega
    exact Int.le_refl _
theorem at_drop (S : List Itm) (p i : Nat) : at_ (S.drop p) i = at_ S (p + i) := by unfold at_; simp [List.getD_eq_getElem?_getD]
theorem at_takeS (S : List Itm) (n i : Nat) (h : i < n) : at_ (S.take n) i = at_ S i := by
  unfold at_
  rw [List.getD_eq_getElem?_getD, List.getD_eq_getElem?_getD, List.getElem?_take, if_pos h]
/-- A slice of numbers that is not empty: its address, its cells. -/
theorem ints_atC {W : World} {k : IntKind} {A : Option Addr} {zs : List Int} (h : IntsIn W k A zs) (hl : 0 < zs.length) : ∃ a, A = some a ∧ a.block < W.heap.size ∧ ∀ j, j < zs.length → W.cell? (a.add j) = some (.int k (zs.getD j 0)) := by
  obtain ⟨a, ha, hb, _⟩ := h 0 hl
  refine ⟨a, ha, hb, fun j hj => ?_⟩
  obtain ⟨a', ha', _, hc⟩ := h j hj
  rw [ha] at ha'; cases ha'
  exact hc
theorem cell_belowC {w0 W : World} {a : Addr} {j : Nat} (hb : Below w0.heap.size w0 W) (hl : a.block < w0.heap.size) : W.cell? (a.add j) = w0.cell? (a.add j) := hb.cell (p := a.add j) (by rw [ChangeShapes.block_add]; exact hl)
/-- An armed clock since w0. -/
theorem ClkSince.arm {w0 W W' : World} {B0 : Nat} {F : List Nat} {b : Nat} {now : Int} {S : List Itm} {last m : Nat} {id d : Int} {e : Ending} (h : ClkSince w0 B0 W F b now S last m) (hp : ArmPost W F b now S last m id d e W') : e = .returned .nilIface ∧ ∃ F', ClkSince w0 B0 W' F' b now (insI S ⟨d, id, (last : Int) + 1⟩) (last + 1) (m + 2) := by
  obtain ⟨rfl, F', l⟩ := hp
  exact ⟨rfl, F', h.led l⟩
end Go.Proofs.YtobbmhboahognaaDoor
