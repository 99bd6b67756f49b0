/- Plain words on a memory of cells (layer 2), nothing of the program: a state that may be (each cell holds a word of its width), kept where a cell or a row is written. -/
import Derived.Test.YtobbmhboahognaaDoorMemPlain
import Derived.Test.YtobbmhboahognaaDoorCut
namespace Go.Proofs.YtobbmhboahognaaDoor
open Go.RowKit
set_option linter.unusedVariables false

/-- A state that may be: each cell holds a word of its width (0 where there is none). -/
structure Good (m : Cells) : Prop where
  len : m.hs.length = m.ws.length
  small : m.ws.length < 2147483648
  wid : ∀ i, widthAt m.ws i = 0 ∨ widthAt m.ws i = 32 ∨ widthAt m.ws i = 64
  h0 : ∀ i, 0 ≤ m.hs.getD i 0
  h1 : ∀ i, m.hs.getD i 0 ≤ 18446744073709551615
  hc : ∀ i, cut (widthAt m.ws i) (m.hs.getD i 0) = m.hs.getD i 0
theorem Good.inLen {m : Cells} {i : Nat} (h : widthAt m.ws i ≠ 0) : i < m.ws.length := by
  rcases Nat.lt_or_ge i m.ws.length with g | g
  · exact g
  · exact absurd (widthAt_out _ _ (by omega)) h
theorem getD_set (l : List Int) (i j : Nat) (y : Int) (h : i < l.length) : (l.set i y).getD j 0 = if i = j then y else l.getD j 0 := by
  by_cases e : i = j
  · subst e; rw [if_pos rfl]; simp [h]
  · rw [if_neg e]; simp [List.getD, List.getElem?_set_ne e]
theorem Good.acc {m : Cells} (h : Good m) {i : Nat} (hi : i < m.ws.length) {y N : Int} (y0 : 0 ≤ y) (y1 : y ≤ 18446744073709551615) (yc : cut (widthAt m.ws i) y = y) : Good { ws := m.ws, hs := m.hs.set i y, n := N } := by
  have hi' : i < m.hs.length := by rw [h.len]; exact hi
  refine ⟨by rw [List.length_set]; exact h.len, h.small, h.wid, fun j => ?_, fun j => ?_, fun j => ?_⟩
  · show 0 ≤ (m.hs.set i y).getD j 0
    rw [getD_set _ _ _ _ hi']; split
    · exact y0
    · exact h.h0 j
  · show (m.hs.set i y).getD j 0 ≤ _
    rw [getD_set _ _ _ _ hi']; split
    · exact y1
    · exact h.h1 j
  · show cut (widthAt m.ws j) ((m.hs.set i y).getD j 0) = _
    rw [getD_set _ _ _ _ hi']; split
    · rename_i e; rw [← e]; exact yc
    · exact h.hc j
theorem cut_zero (k : Int) : cut k 0 = 0 := by unfold cut; split; · rfl
                                               split <;> rfl
theorem Good.fill {m : Cells} (h : Good m) {a c : Nat} (hac : a + c ≤ m.ws.length) {k N : Int} (hk : k = 0 ∨ k = 32 ∨ k = 64) : Good { ws := fillIn k m.ws a c, hs := fillIn 0 m.hs a c, n := N } := by
  have hac' : a + c ≤ m.hs.length := by rw [h.len]; exact hac
  refine ⟨by rw [fillIn_length, fillIn_length]; exact h.len, by rw [fillIn_length]; exact h.small, fun j => ?_, fun j => ?_, fun j => ?_, fun j => ?_⟩
  · show (fillIn k m.ws a c).getD j 0 = 0 ∨ (fillIn k m.ws a c).getD j 0 = 32 ∨ (fillIn k m.ws a c).getD j 0 = 64
    rw [fillIn_getD _ _ _ _ _ hac]; split
    · exact hk
    · exact h.wid j
  · show 0 ≤ (fillIn 0 m.hs a c).getD j 0
    rw [fillIn_getD _ _ _ _ _ hac']; split
    · omega
    · exact h.h0 j
  · show (fillIn 0 m.hs a c).getD j 0 ≤ _
    rw [fillIn_getD _ _ _ _ _ hac']; split
    · omega
    · exact h.h1 j
  · show cut ((fillIn k m.ws a c).getD j 0) ((fillIn 0 m.hs a c).getD j 0) = _
    rw [fillIn_getD _ _ _ _ _ hac, fillIn_getD _ _ _ _ _ hac']; split
    · exact cut_zero _
    · exact h.hc j
theorem getD_rep (c i : Nat) : (List.replicate c (0 : Int)).getD i 0 = 0 := by
  by_cases h : i < c
  · simp [h]
  · simp [List.getD, List.getElem?_eq_none (show (List.replicate c (0 : Int)).length ≤ i by simp; omega)]
theorem Good.fresh (c : Nat) (hc : c < 2147483648) : Good { ws := List.replicate c 0, hs := List.replicate c 0, n := 0 } := by
  refine ⟨by simp, by simpa using hc, fun j => Or.inl (getD_rep c j), fun j => ?_, fun j => ?_, fun j => ?_⟩
  · show 0 ≤ (List.replicate c (0 : Int)).getD j 0
    rw [getD_rep]; omega
  · show (List.replicate c (0 : Int)).getD j 0 ≤ _
    rw [getD_rep]; omega
  · show cut _ ((List.replicate c (0 : Int)).getD j 0) = (List.replicate c (0 : Int)).getD j 0
    rw [getD_rep]; exact cut_zero _
end Go.Proofs.YtobbmhboahognaaDoor
