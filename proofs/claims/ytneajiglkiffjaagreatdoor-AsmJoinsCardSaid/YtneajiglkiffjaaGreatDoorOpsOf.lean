/- The program's operands of an operation (layer 5): the contract of operandsOf, at every number. -/
import Derived.Test.YtneajiglkiffjaaGreatDoorAsmForm
import Derived.Test.YtneajiglkiffjaaGreatDoorProg
import Derived.WalkKit
import Derived.WalkSpells
import Derived.WalkLawsBesides
import Derived.Lib.Hide
import Derived.Laws.ResultCell
import Derived.Deep.CutRange
import Derived.Deep.DeepCutAuto
import Derived.Deep.CutBlock
import Derived.Deep.Light
import Derived.KernelRfl
namespace Go.Proofs.YtneajiglkiffjaaGreatDoor
open Go.RowKit
set_option linter.unusedVariables false

/-- Kinds of operands lie there. -/
def KindsIn (W : World) (A : Option Addr) (ks : List Nat) : Prop := ∀ i, i < ks.length → ∃ b, A = some ⟨b, 0, none⟩ ∧ b < W.heap.size ∧ W.cell? ⟨b, i, none⟩ = some (.int .i64 ((ks.getD i 0 : Nat) : Int))
theorem KindsIn.block {W W' : World} {A : Option Addr} {ks : List Nat} (h : KindsIn W A ks) (hb : ∀ b, A = some ⟨b, 0, none⟩ → b < W.heap.size → W'.heap[b]? = W.heap[b]?) : KindsIn W' A ks := fun i hi => by
  obtain ⟨b, e, hl, hc⟩ := h i hi
  have e2 := hb b e hl
  refine ⟨b, e, ?_, by rw [World.cell?_of_block (w := W) (w' := W') (a := ⟨b, i, none⟩) e2]; exact hc⟩
  rcases Nat.lt_or_ge b W'.heap.size with g | g
  · exact g
  · rw [Array.getElem?_eq_none g, Array.getElem?_eq_getElem hl] at e2; cases e2
def OpdsPost (ks : List Nat) (w : World) (e : Ending) (w' : World) : Prop := ∃ A cap, e = .returned (.slice A ks.length cap) ∧ KindsIn w' A ks ∧ (∀ b, A = some ⟨b, 0, none⟩ → w.heap.size ≤ b) ∧ Below w.heap.size w w'
theorem opds_new (w : World) (cs : Array Value) (t : TypeId) (ks : List Nat) (cap : Nat) (h : ∀ i, i < ks.length → cs[i]? = some (.int .i64 ((ks.getD i 0 : Nat) : Int))) :
    OpdsPost ks w (.returned (.slice (some ⟨w.heap.size, 0, none⟩) ks.length cap)) (w.alloc (.cells cs t)) :=
  ⟨_, _, rfl, fun i hi => ⟨_, rfl, by simp, by rw [World.cell?_alloc_at _ _ _ _ rfl]; exact h i hi⟩, fun b hb => by cases hb; exact Nat.le_refl _, (Below.refl _ _).alloc (Nat.le_refl _) _⟩
theorem form_g0 (op : Int) (h : op = 3 ∨ op = 4 ∨ op = 5 ∨ op = 6 ∨ op = 7 ∨ op = 8 ∨ op = 9 ∨ op = 10 ∨ op = 11) : formOf op.toNat = [0, 1, 4] := by
  rcases h with rfl | rfl | rfl | rfl | rfl | rfl | rfl | rfl | rfl <;> rfl
theorem form_g1 (op : Int) (h : op = 24 ∨ op = 25 ∨ op = 26 ∨ op = 27 ∨ op = 48) : formOf op.toNat = [0, 1, 2] := by
  rcases h with rfl | rfl | rfl | rfl | rfl <;> rfl
theorem form_g2 (op : Int) (h : op = 2 ∨ op = 23 ∨ op = 49 ∨ op = 50 ∨ op = 47 ∨ op = 39 ∨ op = 54) : formOf op.toNat = [0, 1] := by
  rcases h with rfl | rfl | rfl | rfl | rfl | rfl | rfl <;> rfl
theorem form_g3 (op : Int) (h : op = 28 ∨ op = 29 ∨ op = 30 ∨ op = 34 ∨ op = 35 ∨ op = 36 ∨ op = 37 ∨ op = 38 ∨ op = 40 ∨ op = 41 ∨ op = 42 ∨ op = 44 ∨ op = 46 ∨ op = 51 ∨ op = 52 ∨ op = 53 ∨ op = 57) : formOf op.toNat = [0] := by
  rcases h with rfl | rfl | rfl | rfl | rfl | rfl | rfl | rfl | rfl | rfl | rfl | rfl | rfl | rfl | rfl | rfl | rfl <;> rfl
theorem form_g4 (op : Int) (h : op = 16 ∨ op = 33 ∨ op = 55 ∨ op = 56 ∨ op = 58) : formOf op.toNat = [] := by
  rcases h with rfl | rfl | rfl | rfl | rfl <;> rfl
theorem form_g5 (op : Int) (h : op = 21 ∨ op = 32) : formOf op.toNat = [0, 5, 2] := by
  rcases h with rfl | rfl <;> rfl
theorem form_g6 (op : Int) (h : op = 17 ∨ op = 18 ∨ op = 19 ∨ op = 20 ∨ op = 31) : formOf op.toNat = [0, 5] := by
  rcases h with rfl | rfl | rfl | rfl | rfl <;> rfl
theorem form_g7 (op : Int) (h : op = 13 ∨ op = 14) : formOf op.toNat = [0, 6] := by
  rcases h with rfl | rfl <;> rfl
theorem form_g8 (op : Int) (h : op = 12 ∨ op = 15) : formOf op.toNat = [6] := by
  rcases h with rfl | rfl <;> rfl
theorem form_g9 (op : Int) (h : op = 1) : formOf op.toNat = [0, 7] := by
  subst h; rfl
theorem form_g10 (op : Int) (h : op = 43) : formOf op.toNat = [0, 3] := by
  subst h; rfl
theorem form_g11 (op : Int) (h : op = 45) : formOf op.toNat = [0, 1, 8] := by
  subst h; rfl
theorem form_g12 (op : Int) (h : op = 22) : formOf op.toNat = [8] := by
  subst h; rfl
theorem form_gn (op : Int) (n1 : ¬ op = 1) (n2 : ¬ op = 2) (n3 : ¬ op = 3) (n4 : ¬ op = 4) (n5 : ¬ op = 5) (n6 : ¬ op = 6) (n7 : ¬ op = 7) (n8 : ¬ op = 8) (n9 : ¬ op = 9) (n10 : ¬ op = 10) (n11 : ¬ op = 11) (n12 : ¬ op = 12) (n13 : ¬ op = 13) (n14 : ¬ op = 14) (n15 : ¬ op = 15) (n16 : ¬ op = 16) (n17 : ¬ op = 17) (n18 : ¬ op = 18) (n19 : ¬ op = 19) (n20 : ¬ op = 20) (n21 : ¬ op = 21) (n22 : ¬ op = 22) (n23 : ¬ op = 23) (n24 : ¬ op = 24) (n25 : ¬ op = 25) (n26 : ¬ op = 26) (n27 : ¬ op = 27) (n28 : ¬ op = 28) (n29 : ¬ op = 29) (n30 : ¬ op = 30) (n31 : ¬ op = 31) (n32 : ¬ op = 32) (n33 : ¬ op = 33) (n34 : ¬ op = 34) (n35 : ¬ op = 35) (n36 : ¬ op = 36) (n37 : ¬ op = 37) (n38 : ¬ op = 38) (n39 : ¬ op = 39) (n40 : ¬ op = 40) (n41 : ¬ op = 41) (n42 : ¬ op = 42) (n43 : ¬ op = 43) (n44 : ¬ op = 44) (n45 : ¬ op = 45) (n46 : ¬ op = 46) (n47 : ¬ op = 47) (n48 : ¬ op = 48) (n49 : ¬ op = 49) (n50 : ¬ op = 50) (n51 : ¬ op = 51) (n52 : ¬ op = 52) (n53 : ¬ op = 53) (n54 : ¬ op = 54) (n55 : ¬ op = 55) (n56 : ¬ op = 56) (n57 : ¬ op = 57) (n58 : ¬ op = 58) : formOf op.toNat = [] := by
  unfold formOf
  by_cases h : 59 ≤ op.toNat
  · rw [List.getD, List.getElem?_eq_none (by simpa [formTab] using h)]; rfl
  · rw [show op.toNat = 0 by omega]; rfl

set_option maxHeartbeats 40000000 in
set_option maxRecDepth 100000 in
theorem opsOf_any (op : Int) (w : World) : Calls Tryz.prog 36 #[.int .i64 op] w (OpdsPost (formOf op.toNat) w) := by
  obtain ⟨P, hP⟩ : ∃ P, P = OpdsPost (formOf op.toNat) w := ⟨_, rfl⟩
  rw [← hP]
  have HP0 := Lib.hid hP
  clear hP
  obtain ⟨q0, hq0⟩ : ∃ q, q = ((op == 3) || (op == 4) || (op == 5) || (op == 6) || (op == 7) || (op == 8) || (op == 9) || (op == 10) || (op == 11)) := ⟨_, rfl⟩
  have HQ0 := Lib.hid hq0
  clear hq0
  obtain ⟨q1, hq1⟩ : ∃ q, q = ((op == 24) || (op == 25) || (op == 26) || (op == 27) || (op == 48)) := ⟨_, rfl⟩
  have HQ1 := Lib.hid hq1
  clear hq1
  obtain ⟨q2, hq2⟩ : ∃ q, q = ((op == 2) || (op == 23) || (op == 49) || (op == 50) || (op == 47) || (op == 39) || (op == 54)) := ⟨_, rfl⟩
  have HQ2 := Lib.hid hq2
  clear hq2
  obtain ⟨q3, hq3⟩ : ∃ q, q = ((op == 28) || (op == 29) || (op == 30) || (op == 34) || (op == 35) || (op == 36) || (op == 37) || (op == 38) || (op == 40) || (op == 41) || (op == 42) || (op == 44) || (op == 46) || (op == 51) || (op == 52) || (op == 53) || (op == 57)) := ⟨_, rfl⟩
  have HQ3 := Lib.hid hq3
  clear hq3
  obtain ⟨q4, hq4⟩ : ∃ q, q = ((op == 16) || (op == 33) || (op == 55) || (op == 56) || (op == 58)) := ⟨_, rfl⟩
  have HQ4 := Lib.hid hq4
  clear hq4
  obtain ⟨q5, hq5⟩ : ∃ q, q = ((op == 21) || (op == 32)) := ⟨_, rfl⟩
  have HQ5 := Lib.hid hq5
  clear hq5
  obtain ⟨q6, hq6⟩ : ∃ q, q = ((op == 17) || (op == 18) || (op == 19) || (op == 20) || (op == 31)) := ⟨_, rfl⟩
  have HQ6 := Lib.hid hq6
  clear hq6
  obtain ⟨q7, hq7⟩ : ∃ q, q = ((op == 13) || (op == 14)) := ⟨_, rfl⟩
  have HQ7 := Lib.hid hq7
  clear hq7
  obtain ⟨q8, hq8⟩ : ∃ q, q = ((op == 12) || (op == 15)) := ⟨_, rfl⟩
  have HQ8 := Lib.hid hq8
  clear hq8
  obtain ⟨q9, hq9⟩ : ∃ q, q = ((op == 1)) := ⟨_, rfl⟩
  have HQ9 := Lib.hid hq9
  clear hq9
  obtain ⟨q10, hq10⟩ : ∃ q, q = ((op == 43)) := ⟨_, rfl⟩
  have HQ10 := Lib.hid hq10
  clear hq10
  obtain ⟨q11, hq11⟩ : ∃ q, q = ((op == 45)) := ⟨_, rfl⟩
  have HQ11 := Lib.hid hq11
  clear hq11
  obtain ⟨q12, hq12⟩ : ∃ q, q = ((op == 22)) := ⟨_, rfl⟩
  have HQ12 := Lib.hid hq12
  clear hq12
  go_enter Tryz.func36, Tryz.ntmps36
  go_upto_if 6 with fail
  go_cut [6] from 6 to 98 (fun st w' => st = .bool q0 ∧ w = w')
  case first =>
   as_aux_lemma =>
    cases q0 with
    | true =>
      have hm : op = 3 ∨ op = 4 ∨ op = 5 ∨ op = 6 ∨ op = 7 ∨ op = 8 ∨ op = 9 ∨ op = 10 ∨ op = 11 := by have h := HQ0.out.symm; simp at h; omega
      clear HP0 HQ0 HQ1 HQ2 HQ3 HQ4 HQ5 HQ6 HQ7 HQ8 HQ9 HQ10 HQ11 HQ12
      rcases hm with rfl | rfl | rfl | rfl | rfl | rfl | rfl | rfl | rfl
      all_goals
        go_wp2_with fail
        go_meet
        exact ⟨rfl, rfl⟩
    | false =>
      have hm : (op == 3) = false ∧ (op == 4) = false ∧ (op == 5) = false ∧ (op == 6) = false ∧ (op == 7) = false ∧ (op == 8) = false ∧ (op == 9) = false ∧ (op == 10) = false ∧ (op == 11) = false := by have h := HQ0.out.symm; simpa [and_assoc] using h
      clear HP0 HQ0 HQ1 HQ2 HQ3 HQ4 HQ5 HQ6 HQ7 HQ8 HQ9 HQ10 HQ11 HQ12
      obtain ⟨n3, n4, n5, n6, n7, n8, n9, n10, n11⟩ := hm
      go_wp2_with fail
      go_meet
      exact ⟨by simp [*], rfl⟩
  case rest =>
  obtain ⟨rfl, rfl⟩ := hcut
  cases q0 with
  | true =>
   as_aux_lemma =>
    have e1 := (form_g0 op (by have h := HQ0.out.symm; simp at h; omega))
    have HP := Lib.hid (show P = OpdsPost [0, 1, 4] w by rw [HP0.out, e1])
    clear HP0 e1
    go_wp2_with fail
    as_aux_lemma =>
    rw [HP.out]
    exact opds_new w _ _ [0, 1, 4] _ (fun i hi => by
      have hi : i < 3 := hi
      match i, hi with
      | 0, _ => rfl
      | 1, _ => rfl
      | 2, _ => rfl)
  | false =>
  go_upto_if 16 with fail
  go_cut [16] from 6 to 98 (fun st w' => st = .bool q1 ∧ w = w')
  case first =>
   as_aux_lemma =>
    cases q1 with
    | true =>
      have hm : op = 24 ∨ op = 25 ∨ op = 26 ∨ op = 27 ∨ op = 48 := by have h := HQ1.out.symm; simp at h; omega
      clear HP0 HQ0 HQ1 HQ2 HQ3 HQ4 HQ5 HQ6 HQ7 HQ8 HQ9 HQ10 HQ11 HQ12
      rcases hm with rfl | rfl | rfl | rfl | rfl
      all_goals
        go_wp2_with fail
        go_meet
        exact ⟨rfl, rfl⟩
    | false =>
      have hm : (op == 24) = false ∧ (op == 25) = false ∧ (op == 26) = false ∧ (op == 27) = false ∧ (op == 48) = false := by have h := HQ1.out.symm; simpa [and_assoc] using h
      clear HP0 HQ0 HQ1 HQ2 HQ3 HQ4 HQ5 HQ6 HQ7 HQ8 HQ9 HQ10 HQ11 HQ12
      obtain ⟨n24, n25, n26, n27, n48⟩ := hm
      go_wp2_with fail
      go_meet
      exact ⟨by simp [*], rfl⟩
  case rest =>
  obtain ⟨rfl, rfl⟩ := hcut
  cases q1 with
  | true =>
   as_aux_lemma =>
    have e1 := (form_g1 op (by have h := HQ1.out.symm; simp at h; omega))
    have HP := Lib.hid (show P = OpdsPost [0, 1, 2] w by rw [HP0.out, e1])
    clear HP0 e1
    go_wp2_with fail
    as_aux_lemma =>
    rw [HP.out]
    exact opds_new w _ _ [0, 1, 2] _ (fun i hi => by
      have hi : i < 3 := hi
      match i, hi with
      | 0, _ => rfl
      | 1, _ => rfl
      | 2, _ => rfl)
  | false =>
  go_upto_if 22 with fail
  go_cut [22] from 6 to 98 (fun st w' => st = .bool q2 ∧ w = w')
  case first =>
   as_aux_lemma =>
    cases q2 with
    | true =>
      have hm : op = 2 ∨ op = 23 ∨ op = 49 ∨ op = 50 ∨ op = 47 ∨ op = 39 ∨ op = 54 := by have h := HQ2.out.symm; simp at h; omega
      clear HP0 HQ0 HQ1 HQ2 HQ3 HQ4 HQ5 HQ6 HQ7 HQ8 HQ9 HQ10 HQ11 HQ12
      rcases hm with rfl | rfl | rfl | rfl | rfl | rfl | rfl
      all_goals
        go_wp2_with fail
        go_meet
        exact ⟨rfl, rfl⟩
    | false =>
      have hm : (op == 2) = false ∧ (op == 23) = false ∧ (op == 49) = false ∧ (op == 50) = false ∧ (op == 47) = false ∧ (op == 39) = false ∧ (op == 54) = false := by have h := HQ2.out.symm; simpa [and_assoc] using h
      clear HP0 HQ0 HQ1 HQ2 HQ3 HQ4 HQ5 HQ6 HQ7 HQ8 HQ9 HQ10 HQ11 HQ12
      obtain ⟨n2, n23, n49, n50, n47, n39, n54⟩ := hm
      go_wp2_with fail
      go_meet
      exact ⟨by simp [*], rfl⟩
  case rest =>
  obtain ⟨rfl, rfl⟩ := hcut
  cases q2 with
  | true =>
   as_aux_lemma =>
    have e1 := (form_g2 op (by have h := HQ2.out.symm; simp at h; omega))
    have HP := Lib.hid (show P = OpdsPost [0, 1] w by rw [HP0.out, e1])
    clear HP0 e1
    go_wp2_with fail
    as_aux_lemma =>
    rw [HP.out]
    exact opds_new w _ _ [0, 1] _ (fun i hi => by
      have hi : i < 2 := hi
      match i, hi with
      | 0, _ => rfl
      | 1, _ => rfl)
  | false =>
  go_upto_if 30 with fail
  go_cut [30] from 6 to 98 (fun st w' => st = .bool q3 ∧ w = w')
  case first =>
   as_aux_lemma =>
    cases q3 with
    | true =>
      have hm : op = 28 ∨ op = 29 ∨ op = 30 ∨ op = 34 ∨ op = 35 ∨ op = 36 ∨ op = 37 ∨ op = 38 ∨ op = 40 ∨ op = 41 ∨ op = 42 ∨ op = 44 ∨ op = 46 ∨ op = 51 ∨ op = 52 ∨ op = 53 ∨ op = 57 := by have h := HQ3.out.symm; simp at h; omega
      clear HP0 HQ0 HQ1 HQ2 HQ3 HQ4 HQ5 HQ6 HQ7 HQ8 HQ9 HQ10 HQ11 HQ12
      rcases hm with rfl | rfl | rfl | rfl | rfl | rfl | rfl | rfl | rfl | rfl | rfl | rfl | rfl | rfl | rfl | rfl | rfl
      all_goals
        go_wp2_with fail
        go_meet
        exact ⟨rfl, rfl⟩
    | false =>
      have hm : (op == 28) = false ∧ (op == 29) = false ∧ (op == 30) = false ∧ (op == 34) = false ∧ (op == 35) = false ∧ (op == 36) = false ∧ (op == 37) = false ∧ (op == 38) = false ∧ (op == 40) = false ∧ (op == 41) = false ∧ (op == 42) = false ∧ (op == 44) = false ∧ (op == 46) = false ∧ (op == 51) = false ∧ (op == 52) = false ∧ (op == 53) = false ∧ (op == 57) = false := by have h := HQ3.out.symm; simpa [and_assoc] using h
      clear HP0 HQ0 HQ1 HQ2 HQ3 HQ4 HQ5 HQ6 HQ7 HQ8 HQ9 HQ10 HQ11 HQ12
      obtain ⟨n28, n29, n30, n34, n35, n36, n37, n38, n40, n41, n42, n44, n46, n51, n52, n53, n57⟩ := hm
      go_wp2_with fail
      go_meet
      exact ⟨by simp [*], rfl⟩
  case rest =>
  obtain ⟨rfl, rfl⟩ := hcut
  cases q3 with
  | true =>
   as_aux_lemma =>
    have e1 := (form_g3 op (by have h := HQ3.out.symm; simp at h; omega))
    have HP := Lib.hid (show P = OpdsPost [0] w by rw [HP0.out, e1])
    clear HP0 e1
    go_wp2_with fail
    as_aux_lemma =>
    rw [HP.out]
    exact opds_new w _ _ [0] _ (fun i hi => by
      have hi : i < 1 := hi
      match i, hi with
      | 0, _ => rfl)
  | false =>
  go_upto_if 48 with fail
  go_cut [48] from 6 to 98 (fun st w' => st = .bool q4 ∧ w = w')
  case first =>
   as_aux_lemma =>
    cases q4 with
    | true =>
      have hm : op = 16 ∨ op = 33 ∨ op = 55 ∨ op = 56 ∨ op = 58 := by have h := HQ4.out.symm; simp at h; omega
      clear HP0 HQ0 HQ1 HQ2 HQ3 HQ4 HQ5 HQ6 HQ7 HQ8 HQ9 HQ10 HQ11 HQ12
      rcases hm with rfl | rfl | rfl | rfl | rfl
      all_goals
        go_wp2_with fail
        go_meet
        exact ⟨rfl, rfl⟩
    | false =>
      have hm : (op == 16) = false ∧ (op == 33) = false ∧ (op == 55) = false ∧ (op == 56) = false ∧ (op == 58) = false := by have h := HQ4.out.symm; simpa [and_assoc] using h
      clear HP0 HQ0 HQ1 HQ2 HQ3 HQ4 HQ5 HQ6 HQ7 HQ8 HQ9 HQ10 HQ11 HQ12
      obtain ⟨n16, n33, n55, n56, n58⟩ := hm
      go_wp2_with fail
      go_meet
      exact ⟨by simp [*], rfl⟩
  case rest =>
  obtain ⟨rfl, rfl⟩ := hcut
  cases q4 with
  | true =>
   as_aux_lemma =>
    have e1 := (form_g4 op (by have h := HQ4.out.symm; simp at h; omega))
    have HP := Lib.hid (show P = OpdsPost [] w by rw [HP0.out, e1])
    clear HP0 e1
    go_wp2_with fail
    as_aux_lemma =>
    rw [HP.out]
    exact opds_new w _ _ [] _ (fun i hi => by
      have hi : i < 0 := hi
      match i, hi with
      | i, hi => omega)
  | false =>
  go_upto_if 54 with fail
  go_cut [54] from 6 to 98 (fun st w' => st = .bool q5 ∧ w = w')
  case first =>
   as_aux_lemma =>
    cases q5 with
    | true =>
      have hm : op = 21 ∨ op = 32 := by have h := HQ5.out.symm; simp at h; omega
      clear HP0 HQ0 HQ1 HQ2 HQ3 HQ4 HQ5 HQ6 HQ7 HQ8 HQ9 HQ10 HQ11 HQ12
      rcases hm with rfl | rfl
      all_goals
        go_wp2_with fail
        go_meet
        exact ⟨rfl, rfl⟩
    | false =>
      have hm : (op == 21) = false ∧ (op == 32) = false := by have h := HQ5.out.symm; simpa [and_assoc] using h
      clear HP0 HQ0 HQ1 HQ2 HQ3 HQ4 HQ5 HQ6 HQ7 HQ8 HQ9 HQ10 HQ11 HQ12
      obtain ⟨n21, n32⟩ := hm
      go_wp2_with fail
      go_meet
      exact ⟨by simp [*], rfl⟩
  case rest =>
  obtain ⟨rfl, rfl⟩ := hcut
  cases q5 with
  | true =>
   as_aux_lemma =>
    have e1 := (form_g5 op (by have h := HQ5.out.symm; simp at h; omega))
    have HP := Lib.hid (show P = OpdsPost [0, 5, 2] w by rw [HP0.out, e1])
    clear HP0 e1
    go_wp2_with fail
    as_aux_lemma =>
    rw [HP.out]
    exact opds_new w _ _ [0, 5, 2] _ (fun i hi => by
      have hi : i < 3 := hi
      match i, hi with
      | 0, _ => rfl
      | 1, _ => rfl
      | 2, _ => rfl)
  | false =>
  go_upto_if 57 with fail
  go_cut [57] from 6 to 98 (fun st w' => st = .bool q6 ∧ w = w')
  case first =>
   as_aux_lemma =>
    cases q6 with
    | true =>
      have hm : op = 17 ∨ op = 18 ∨ op = 19 ∨ op = 20 ∨ op = 31 := by have h := HQ6.out.symm; simp at h; omega
      clear HP0 HQ0 HQ1 HQ2 HQ3 HQ4 HQ5 HQ6 HQ7 HQ8 HQ9 HQ10 HQ11 HQ12
      rcases hm with rfl | rfl | rfl | rfl | rfl
      all_goals
        go_wp2_with fail
        go_meet
        exact ⟨rfl, rfl⟩
    | false =>
      have hm : (op == 17) = false ∧ (op == 18) = false ∧ (op == 19) = false ∧ (op == 20) = false ∧ (op == 31) = false := by have h := HQ6.out.symm; simpa [and_assoc] using h
      clear HP0 HQ0 HQ1 HQ2 HQ3 HQ4 HQ5 HQ6 HQ7 HQ8 HQ9 HQ10 HQ11 HQ12
      obtain ⟨n17, n18, n19, n20, n31⟩ := hm
      go_wp2_with fail
      go_meet
      exact ⟨by simp [*], rfl⟩
  case rest =>
  obtain ⟨rfl, rfl⟩ := hcut
  cases q6 with
  | true =>
   as_aux_lemma =>
    have e1 := (form_g6 op (by have h := HQ6.out.symm; simp at h; omega))
    have HP := Lib.hid (show P = OpdsPost [0, 5] w by rw [HP0.out, e1])
    clear HP0 e1
    go_wp2_with fail
    as_aux_lemma =>
    rw [HP.out]
    exact opds_new w _ _ [0, 5] _ (fun i hi => by
      have hi : i < 2 := hi
      match i, hi with
      | 0, _ => rfl
      | 1, _ => rfl)
  | false =>
  go_upto_if 63 with fail
  go_cut [63] from 6 to 98 (fun st w' => st = .bool q7 ∧ w = w')
  case first =>
   as_aux_lemma =>
    cases q7 with
    | true =>
      have hm : op = 13 ∨ op = 14 := by have h := HQ7.out.symm; simp at h; omega
      clear HP0 HQ0 HQ1 HQ2 HQ3 HQ4 HQ5 HQ6 HQ7 HQ8 HQ9 HQ10 HQ11 HQ12
      rcases hm with rfl | rfl
      all_goals
        go_wp2_with fail
        go_meet
        exact ⟨rfl, rfl⟩
    | false =>
      have hm : (op == 13) = false ∧ (op == 14) = false := by have h := HQ7.out.symm; simpa [and_assoc] using h
      clear HP0 HQ0 HQ1 HQ2 HQ3 HQ4 HQ5 HQ6 HQ7 HQ8 HQ9 HQ10 HQ11 HQ12
      obtain ⟨n13, n14⟩ := hm
      go_wp2_with fail
      go_meet
      exact ⟨by simp [*], rfl⟩
  case rest =>
  obtain ⟨rfl, rfl⟩ := hcut
  cases q7 with
  | true =>
   as_aux_lemma =>
    have e1 := (form_g7 op (by have h := HQ7.out.symm; simp at h; omega))
    have HP := Lib.hid (show P = OpdsPost [0, 6] w by rw [HP0.out, e1])
    clear HP0 e1
    go_wp2_with fail
    as_aux_lemma =>
    rw [HP.out]
    exact opds_new w _ _ [0, 6] _ (fun i hi => by
      have hi : i < 2 := hi
      match i, hi with
      | 0, _ => rfl
      | 1, _ => rfl)
  | false =>
  go_upto_if 66 with fail
  go_cut [66] from 6 to 98 (fun st w' => st = .bool q8 ∧ w = w')
  case first =>
   as_aux_lemma =>
    cases q8 with
    | true =>
      have hm : op = 12 ∨ op = 15 := by have h := HQ8.out.symm; simp at h; omega
      clear HP0 HQ0 HQ1 HQ2 HQ3 HQ4 HQ5 HQ6 HQ7 HQ8 HQ9 HQ10 HQ11 HQ12
      rcases hm with rfl | rfl
      all_goals
        go_wp2_with fail
        go_meet
        exact ⟨rfl, rfl⟩
    | false =>
      have hm : (op == 12) = false ∧ (op == 15) = false := by have h := HQ8.out.symm; simpa [and_assoc] using h
      clear HP0 HQ0 HQ1 HQ2 HQ3 HQ4 HQ5 HQ6 HQ7 HQ8 HQ9 HQ10 HQ11 HQ12
      obtain ⟨n12, n15⟩ := hm
      go_wp2_with fail
      go_meet
      exact ⟨by simp [*], rfl⟩
  case rest =>
  obtain ⟨rfl, rfl⟩ := hcut
  cases q8 with
  | true =>
   as_aux_lemma =>
    have e1 := (form_g8 op (by have h := HQ8.out.symm; simp at h; omega))
    have HP := Lib.hid (show P = OpdsPost [6] w by rw [HP0.out, e1])
    clear HP0 e1
    go_wp2_with fail
    as_aux_lemma =>
    rw [HP.out]
    exact opds_new w _ _ [6] _ (fun i hi => by
      have hi : i < 1 := hi
      match i, hi with
      | 0, _ => rfl)
  | false =>
  have HE9 := Lib.hid (show q9 = (op == 1) from HQ9.out)
  cases q9 with
  | true =>
   as_aux_lemma =>
    have e1 := (form_g9 op (by have h := HQ9.out.symm; simp at h; omega))
    have HP := Lib.hid (show P = OpdsPost [0, 7] w by rw [HP0.out, e1])
    have he : (op == 1) = true := HE9.out.symm
    clear HP0 e1
    go_wp2_with fail
    as_aux_lemma =>
    rw [HP.out]
    exact opds_new w _ _ [0, 7] _ (fun i hi => by
      have hi : i < 2 := hi
      match i, hi with
      | 0, _ => rfl
      | 1, _ => rfl)
  | false =>
  have he9 : (op == 1) = false := HE9.out.symm
  have HE10 := Lib.hid (show q10 = (op == 43) from HQ10.out)
  cases q10 with
  | true =>
   as_aux_lemma =>
    have e1 := (form_g10 op (by have h := HQ10.out.symm; simp at h; omega))
    have HP := Lib.hid (show P = OpdsPost [0, 3] w by rw [HP0.out, e1])
    have he : (op == 43) = true := HE10.out.symm
    clear HP0 e1
    go_wp2_with fail
    as_aux_lemma =>
    rw [HP.out]
    exact opds_new w _ _ [0, 3] _ (fun i hi => by
      have hi : i < 2 := hi
      match i, hi with
      | 0, _ => rfl
      | 1, _ => rfl)
  | false =>
  have he10 : (op == 43) = false := HE10.out.symm
  have HE11 := Lib.hid (show q11 = (op == 45) from HQ11.out)
  cases q11 with
  | true =>
   as_aux_lemma =>
    have e1 := (form_g11 op (by have h := HQ11.out.symm; simp at h; omega))
    have HP := Lib.hid (show P = OpdsPost [0, 1, 8] w by rw [HP0.out, e1])
    have he : (op == 45) = true := HE11.out.symm
    clear HP0 e1
    go_wp2_with fail
    as_aux_lemma =>
    rw [HP.out]
    exact opds_new w _ _ [0, 1, 8] _ (fun i hi => by
      have hi : i < 3 := hi
      match i, hi with
      | 0, _ => rfl
      | 1, _ => rfl
      | 2, _ => rfl)
  | false =>
  have he11 : (op == 45) = false := HE11.out.symm
  have HE12 := Lib.hid (show q12 = (op == 22) from HQ12.out)
  cases q12 with
  | true =>
   as_aux_lemma =>
    have e1 := (form_g12 op (by have h := HQ12.out.symm; simp at h; omega))
    have HP := Lib.hid (show P = OpdsPost [8] w by rw [HP0.out, e1])
    have he : (op == 22) = true := HE12.out.symm
    clear HP0 e1
    go_wp2_with fail
    as_aux_lemma =>
    rw [HP.out]
    exact opds_new w _ _ [8] _ (fun i hi => by
      have hi : i < 1 := hi
      match i, hi with
      | 0, _ => rfl)
  | false =>
  have he12 : (op == 22) = false := HE12.out.symm
  have e1 := form_gn op (by have h := HQ9.out.symm; simp at h; omega) (by have h := HQ2.out.symm; simp at h; omega) (by have h := HQ0.out.symm; simp at h; omega) (by have h := HQ0.out.symm; simp at h; omega) (by have h := HQ0.out.symm; simp at h; omega) (by have h := HQ0.out.symm; simp at h; omega) (by have h := HQ0.out.symm; simp at h; omega) (by have h := HQ0.out.symm; simp at h; omega) (by have h := HQ0.out.symm; simp at h; omega) (by have h := HQ0.out.symm; simp at h; omega) (by have h := HQ0.out.symm; simp at h; omega) (by have h := HQ8.out.symm; simp at h; omega) (by have h := HQ7.out.symm; simp at h; omega) (by have h := HQ7.out.symm; simp at h; omega) (by have h := HQ8.out.symm; simp at h; omega) (by have h := HQ4.out.symm; simp at h; omega) (by have h := HQ6.out.symm; simp at h; omega) (by have h := HQ6.out.symm; simp at h; omega) (by have h := HQ6.out.symm; simp at h; omega) (by have h := HQ6.out.symm; simp at h; omega) (by have h := HQ5.out.symm; simp at h; omega) (by have h := HQ12.out.symm; simp at h; omega) (by have h := HQ2.out.symm; simp at h; omega) (by have h := HQ1.out.symm; simp at h; omega) (by have h := HQ1.out.symm; simp at h; omega) (by have h := HQ1.out.symm; simp at h; omega) (by have h := HQ1.out.symm; simp at h; omega) (by have h := HQ3.out.symm; simp at h; omega) (by have h := HQ3.out.symm; simp at h; omega) (by have h := HQ3.out.symm; simp at h; omega) (by have h := HQ6.out.symm; simp at h; omega) (by have h := HQ5.out.symm; simp at h; omega) (by have h := HQ4.out.symm; simp at h; omega) (by have h := HQ3.out.symm; simp at h; omega) (by have h := HQ3.out.symm; simp at h; omega) (by have h := HQ3.out.symm; simp at h; omega) (by have h := HQ3.out.symm; simp at h; omega) (by have h := HQ3.out.symm; simp at h; omega) (by have h := HQ2.out.symm; simp at h; omega) (by have h := HQ3.out.symm; simp at h; omega) (by have h := HQ3.out.symm; simp at h; omega) (by have h := HQ3.out.symm; simp at h; omega) (by have h := HQ10.out.symm; simp at h; omega) (by have h := HQ3.out.symm; simp at h; omega) (by have h := HQ11.out.symm; simp at h; omega) (by have h := HQ3.out.symm; simp at h; omega) (by have h := HQ2.out.symm; simp at h; omega) (by have h := HQ1.out.symm; simp at h; omega) (by have h := HQ2.out.symm; simp at h; omega) (by have h := HQ2.out.symm; simp at h; omega) (by have h := HQ3.out.symm; simp at h; omega) (by have h := HQ3.out.symm; simp at h; omega) (by have h := HQ3.out.symm; simp at h; omega) (by have h := HQ2.out.symm; simp at h; omega) (by have h := HQ4.out.symm; simp at h; omega) (by have h := HQ4.out.symm; simp at h; omega) (by have h := HQ3.out.symm; simp at h; omega) (by have h := HQ4.out.symm; simp at h; omega)
  have HP := Lib.hid (show P = OpdsPost [] w by rw [HP0.out, e1])
  clear HP0 e1
  go_wp2_with fail
  rw [HP.out]
  exact ⟨none, 0, rfl, (fun i hi => by simp at hi), (fun b hb => by cases hb), Below.refl _ _⟩
end Go.Proofs.YtneajiglkiffjaaGreatDoor
