/- The program's word on one instruction (layer 4): contracts of isRegister, mayStand, hasRegisters, hasNumber, hasMark and valid. -/
import Derived.Test.YtneajiglkiffjaaGreatDoorCodeRow
import Derived.Test.YtneajiglkiffjaaGreatDoorFrame
namespace Go.Proofs.YtneajiglkiffjaaGreatDoor
open Go.RowKit
set_option linter.unusedVariables false

/-- A register's field. -/
def pReg (n : Int) (has bare : Bool) : Bool := if has then regB n || (decide (n = -1) && bare) else decide (n = 0)
def pSide (x : Inst) (lib : Bool) : Bool := if lib then !decide (x.op = 22) else decide (x.op ≤ 22) && decide (x.m = 0)
def pRegs (s : Shp) (x : Inst) : Bool := pReg x.a s.A false && pReg x.b s.B s.NoB && pReg x.c s.C s.NoC
/-- The greatest V. -/
def pMost (v : Int) (x : Inst) (n : Int) : Int := if v = 1 then (if x.b ≠ -1 ∧ x.c ≠ -1 then 0 else 18446744073709551615) else if v = 2 then 18446744073709551615 else if v = 3 then n - 1 else if v = 4 then 999 else 0
def pNum (v : Int) (x : Inst) (n : Int) : Bool := decide (x.v ≤ pMost v x n)
def pMark (s : Shp) (x : Inst) : Bool := if x.wh = 1 ∨ x.wh = 2 then (!decide (x.m = 0) && s.A) && (decide (0 ≤ x.m) && decide (x.m ≤ 99)) else if x.wh = 0 then decide (0 ≤ x.m) && decide (x.m ≤ 99) else false

/-! ### The same as the document's word -/
/-- What the table says of V. -/
def tabFact (op : Int) : Prop := (shapeOf op).Is = true →
  ((shapeOf op).NoC = true → (shapeOf op).NoB = false ∧ op ≠ 43 ∧ (shapeOf op).B = true ∧ (shapeOf op).V = true ∧ (shapeOf op).Place = false ∧ op ≠ 22) ∧
  (op = 43 → (shapeOf op).NoC = false ∧ (shapeOf op).C = false ∧ (shapeOf op).V = true ∧ (shapeOf op).Place = false) ∧
  ((shapeOf op).Place = true → (shapeOf op).V = true ∧ op ≠ 43 ∧ op ≠ 22) ∧ (op = 22 → (shapeOf op).V = true ∧ (shapeOf op).NoC = false ∧ (shapeOf op).Place = false)
theorem tab_all : ∀ k : Fin 59, tabFact (k.1 : Int) := by unfold tabFact; decide
theorem tab_any (op : Int) : tabFact op := by
  intro h
  have hr : 1 ≤ op ∧ op ≤ 58 := by
    by_cases hr : 1 ≤ op ∧ op ≤ 58
    · exact hr
    · unfold shapeOf at h; rw [if_neg hr] at h; cases h
  have h2 := tab_all ⟨op.toNat, by omega⟩
  rw [show (((⟨op.toNat, by omega⟩ : Fin 59).1 : Nat) : Int) = op by simp; omega] at h2
  exact h2 h
theorem field_v (x : Inst) (n : Int) (hn : 1 ≤ n) (hv : 0 ≤ x.v ∧ x.v ≤ 18446744073709551615) (hI : (shapeOf x.op).Is = true) (hB : fieldB x = true) (hC : fieldC x = true) : pNum (vOf x.op) x n = fieldV x n := by
  obtain ⟨h1, h2, h3, h4⟩ := tab_any x.op hI
  rw [Bool.eq_iff_iff]
  unfold pNum pMost fieldV usesV vOf
  unfold fieldB regB at hB
  unfold fieldC regB at hC
  rw [hI]
  cases hNC : (shapeOf x.op).NoC with
  | true =>
    obtain ⟨a1, a2, a3, a4, a5, a6⟩ := h1 hNC
    rw [a1, a3] at hB
    rw [a4, a5]
    simp at hB
    have hb : x.b ≠ -1 := by omega
    simp [hb, a2, a6]
    by_cases hc : x.c = -1 <;> simp [hc] <;> omega
  | false =>
    by_cases h43 : x.op = 43
    · obtain ⟨a1, a2, a3, a4⟩ := h2 h43
      rw [a2] at hC
      rw [a3, a4]
      simp at hC
      simp [h43, hC]
      by_cases hb : x.b = -1 <;> simp [hb] <;> omega
    · cases hP : (shapeOf x.op).Place with
      | true =>
        obtain ⟨a1, a2, a3⟩ := h3 hP
        simp [h43, a1, a3]; omega
      | false =>
        by_cases h22 : x.op = 22
        · obtain ⟨a1, a2, a3⟩ := h4 h22
          rw [a1]
          simp [h22]; omega
        · cases hV : (shapeOf x.op).V with
          | true => simp [h43, h22]; omega
          | false => simp [h43, h22]; omega
theorem side_p (x : Inst) (lib : Bool) (hI : (shapeOf x.op).Is = true) : pSide x lib = sideB x lib := by
  unfold pSide sideB
  rw [hI]
  cases lib <;> simp
theorem mark_p (x : Inst) : pMark (shapeOf x.op) x = markB x := by
  unfold pMark markB
  by_cases h1 : x.wh = 1 ∨ x.wh = 2
  · rw [if_pos h1]
    cases (shapeOf x.op).A <;> rw [Bool.eq_iff_iff] <;> simp <;> omega
  · rw [if_neg h1]
    by_cases h0 : x.wh = 0
    · rw [if_pos h0, h0]
      cases (shapeOf x.op).A <;> rw [Bool.eq_iff_iff] <;> simp
    · rw [if_neg h0]
      rw [Bool.eq_iff_iff]; simp; omega
theorem regs_p (x : Inst) : pRegs (shapeOf x.op) x = (fieldA x && fieldB x && fieldC x) := by
  unfold pRegs pReg fieldA fieldB fieldC
  congr 1
  · congr 1
    · simp
    · rw [Bool.and_comm (decide (x.b = -1))]
  · rw [Bool.and_comm (decide (x.c = -1))]
theorem valid_eq (x : Inst) (n : Int) (lib : Bool) (hn : 1 ≤ n) (hv : 0 ≤ x.v ∧ x.v ≤ 18446744073709551615) (hI : (shapeOf x.op).Is = true) :
    (pSide x lib && pRegs (shapeOf x.op) x && pNum (vOf x.op) x n && pMark (shapeOf x.op) x) = rightB x n lib := by
  rw [side_p x lib hI, mark_p, regs_p]
  unfold rightB
  cases hA : fieldA x <;> cases hB : fieldB x <;> cases hC : fieldC x <;> simp
  rw [field_v x n hn hv hI hB hC, Bool.and_assoc, Bool.and_assoc, Bool.and_comm (fieldV x n)]
theorem valid_is (x : Inst) (n : Int) (lib : Bool) (hI : (shapeOf x.op).Is = false) : rightB x n lib = false := by
  unfold rightB sideB; rw [hI]; rfl
end Go.Proofs.YtneajiglkiffjaaGreatDoor
