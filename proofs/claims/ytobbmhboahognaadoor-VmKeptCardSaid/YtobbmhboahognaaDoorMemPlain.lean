/- Plain words on a memory of cells (layer 2), nothing of the program: the state, which cells are there, how many, how a row of them is filled. -/
import Derived.Test.YtobbmhboahognaaDoorFrame
import Derived.Deep.OwnRows
namespace Go.Proofs.YtobbmhboahognaaDoor
open Go.RowKit
set_option linter.unusedVariables false

/-- A memory of cells: their widths (0: not there), what they hold, how many accesses. -/
structure Cells where
  ws : List Int
  hs : List Int
  n : Int

/-- A cell's width. -/
def widthAt (ws : List Int) (at' : Nat) : Int := ws.getD at' 0
theorem widthAt_out (ws : List Int) (i : Nat) (h : ¬ i < ws.length) : widthAt ws i = 0 := by simp [widthAt, List.getD, List.getElem?_eq_none (show ws.length ≤ i by omega)]

/-- Are the cells of the memory? -/
def inside (l at' n : Int) : Bool := decide (0 ≤ at') && (decide (n ≤ l) && decide (at' ≤ l - n))
theorem set_self (l : List Int) (i : Nat) : l.set i (l.getD i 0) = l := by
  by_cases h : i < l.length
  · simp [h]
  · rw [List.set_eq_of_length_le (by omega)]

/-- The first of k cells from i on that is there; that is not there. -/
def firstNZ (ws : List Int) : Nat → Nat → Option Nat
  | _, 0 => none
  | i, k + 1 => if ws.getD i 0 = 0 then firstNZ ws (i + 1) k else some i
def firstZ (ws : List Int) : Nat → Nat → Option Nat
  | _, 0 => none
  | i, k + 1 => if ws.getD i 0 = 0 then some i else firstZ ws (i + 1) k
/-- k places from i on hold v. -/
def fillIn (v : Int) : List Int → Nat → Nat → List Int
  | l, _, 0 => l
  | l, i, k + 1 => fillIn v (l.set i v) (i + 1) k
theorem fillIn_length (v : Int) : ∀ (k : Nat) (l : List Int) (i : Nat), (fillIn v l i k).length = l.length
  | 0, _, _ => rfl
  | k + 1, l, i => by rw [fillIn, fillIn_length v k, List.length_set]

/-- "mem". -/
def memS : ByteArray := ⟨#[109, 101, 109]⟩

/-- The place that an access of a cell that is not there names. -/
def badPlace (at' : Nat) : Int := if 4611686018427387904 < at' then 0 else at'
/-- How many cells are there. -/
def countNZ : List Int → Int
  | [] => 0
  | x :: l => (if x = 0 then 0 else 1) + countNZ l
theorem countNZ_append : ∀ (l r : List Int), countNZ (l ++ r) = countNZ l + countNZ r
  | [], r => by simp [countNZ]
  | x :: l, r => by simp only [List.cons_append, countNZ, countNZ_append l r]; omega
theorem countNZ_take (l : List Int) (i : Nat) (h : i < l.length) : countNZ (l.take (i + 1)) = countNZ (l.take i) + (if l.getD i 0 = 0 then 0 else 1) := by
  rw [List.take_succ_eq_append_getElem h, countNZ_append, countNZ, countNZ]
  simp [h]
theorem countNZ_bounds : ∀ (l : List Int), 0 ≤ countNZ l ∧ countNZ l ≤ l.length
  | [] => by simp [countNZ]
  | x :: l => by
    have := countNZ_bounds l
    simp only [countNZ, List.length_cons]
    split <;> omega

/-! ### Cells one by one, and how many, where a row is filled -/
theorem fillIn_getD (v : Int) : ∀ (k : Nat) (l : List Int) (i j : Nat), i + k ≤ l.length → (fillIn v l i k).getD j 0 = if i ≤ j ∧ j < i + k then v else l.getD j 0
  | 0, l, i, j, _ => by rw [fillIn, if_neg (by omega)]
  | k + 1, l, i, j, h => by
    rw [fillIn, fillIn_getD v k (l.set i v) (i + 1) j (by rw [List.length_set]; omega)]
    by_cases e : i = j
    · subst e
      rw [if_neg (by omega), if_pos (by omega)]
      simp [show i < l.length by omega]
    · by_cases g : i + 1 ≤ j ∧ j < i + 1 + k
      · rw [if_pos g, if_pos (by omega)]
      · rw [if_neg g, if_neg (by omega)]
        simp [List.getD, List.getElem?_set_ne e]
theorem firstNZ_set (v : Int) : ∀ (k : Nat) (l : List Int) (i j : Nat), i < j → firstNZ (l.set i v) j k = firstNZ l j k
  | 0, _, _, _, _ => rfl
  | k + 1, l, i, j, h => by
    rw [firstNZ, firstNZ, firstNZ_set v k l i (j + 1) (by omega)]
    rw [show (l.set i v).getD j 0 = l.getD j 0 by simp [List.getD, List.getElem?_set_ne (show i ≠ j by omega)]]
theorem firstZ_set (v : Int) : ∀ (k : Nat) (l : List Int) (i j : Nat), i < j → firstZ (l.set i v) j k = firstZ l j k
  | 0, _, _, _, _ => rfl
  | k + 1, l, i, j, h => by
    rw [firstZ, firstZ, firstZ_set v k l i (j + 1) (by omega)]
    rw [show (l.set i v).getD j 0 = l.getD j 0 by simp [List.getD, List.getElem?_set_ne (show i ≠ j by omega)]]
theorem countNZ_set (v : Int) : ∀ (l : List Int) (i : Nat), i < l.length → countNZ (l.set i v) + (if l.getD i 0 = 0 then 0 else 1) = countNZ l + (if v = 0 then 0 else 1)
  | [], i, h => by simp at h
  | x :: l, 0, _ => by simp only [List.set_cons_zero, countNZ, List.getD_cons_zero]; omega
  | x :: l, i + 1, h => by
    have := countNZ_set v l i (by simpa using h)
    simp only [List.set_cons_succ, countNZ, List.getD_cons_succ]; omega
theorem count_mapped (v : Int) (hv : v ≠ 0) : ∀ (k : Nat) (l : List Int) (i : Nat), i + k ≤ l.length → firstNZ l i k = none → countNZ (fillIn v l i k) = countNZ l + k
  | 0, l, i, _, _ => by simp [fillIn]
  | k + 1, l, i, h, hf => by
    rw [firstNZ] at hf
    split at hf
    · rename_i h0
      have h1 := count_mapped v hv k (l.set i v) (i + 1) (by rw [List.length_set]; omega) (by rw [firstNZ_set v k l i (i + 1) (by omega)]; exact hf)
      have h2 := countNZ_set v l i (by omega)
      rw [if_pos h0, if_neg hv] at h2
      rw [fillIn, h1]; omega
    · cases hf
theorem count_unmapped : ∀ (k : Nat) (l : List Int) (i : Nat), i + k ≤ l.length → firstZ l i k = none → countNZ (fillIn 0 l i k) = countNZ l - k
  | 0, l, i, _, _ => by simp [fillIn]
  | k + 1, l, i, h, hf => by
    rw [firstZ] at hf
    split at hf
    · cases hf
    · rename_i h0
      have h1 := count_unmapped k (l.set i 0) (i + 1) (by rw [List.length_set]; omega) (by rw [firstZ_set 0 k l i (i + 1) (by omega)]; exact hf)
      have h2 := countNZ_set 0 l i (by omega)
      rw [if_neg h0, if_pos rfl] at h2
      rw [fillIn, h1]; omega
theorem firstNZ_range : ∀ (k : Nat) (l : List Int) (i j : Nat), firstNZ l i k = some j → i ≤ j ∧ j < i + k
  | 0, l, i, j, h => by cases h
  | k + 1, l, i, j, h => by
    rw [firstNZ] at h
    split at h
    · have := firstNZ_range k l (i + 1) j h; omega
    · cases h; omega
theorem firstZ_range : ∀ (k : Nat) (l : List Int) (i j : Nat), firstZ l i k = some j → i ≤ j ∧ j < i + k
  | 0, l, i, j, h => by cases h
  | k + 1, l, i, j, h => by
    rw [firstZ] at h
    split at h
    · cases h; omega
    · have := firstZ_range k l (i + 1) j h; omega
theorem firstNZ_none : ∀ (k : Nat) (l : List Int) (i j : Nat), firstNZ l i k = none → i ≤ j → j < i + k → l.getD j 0 = 0
  | 0, l, i, j, _, h1, h2 => by omega
  | k + 1, l, i, j, h, h1, h2 => by
    rw [firstNZ] at h
    split at h
    · rename_i h0
      rcases Nat.eq_or_lt_of_le h1 with e | e
      · subst e; exact h0
      · exact firstNZ_none k l (i + 1) j h e (by omega)
    · cases h
theorem firstNZ_of : ∀ (k : Nat) (l : List Int) (i : Nat), (∀ j, i ≤ j → j < i + k → l.getD j 0 = 0) → firstNZ l i k = none
  | 0, l, i, _ => rfl
  | k + 1, l, i, h => by rw [firstNZ, if_pos (h i (by omega) (by omega))]; exact firstNZ_of k l (i + 1) fun j h1 h2 => h j (by omega) (by omega)
theorem firstZ_of : ∀ (k : Nat) (l : List Int) (i : Nat), (∀ j, i ≤ j → j < i + k → l.getD j 0 ≠ 0) → firstZ l i k = none
  | 0, l, i, _ => rfl
  | k + 1, l, i, h => by rw [firstZ, if_neg (h i (by omega) (by omega))]; exact firstZ_of k l (i + 1) fun j h1 h2 => h j (by omega) (by omega)

theorem made_list (z : Value) (n : Nat) : (madeCells #[z] n).toList = List.replicate n z := by
  apply List.ext_getElem
  · simp [size_madeCells]
  · intro i h1 h2
    simp [madeCells, Nat.mod_one]
theorem made_toArray (z : Value) (n : Nat) : madeCells #[z] n = (List.replicate n z).toArray := by
  rw [← made_list]

end Go.Proofs.YtobbmhboahognaaDoor
