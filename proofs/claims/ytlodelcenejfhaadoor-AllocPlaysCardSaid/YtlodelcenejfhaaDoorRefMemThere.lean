/- The document's memory (layer 2): the contract of There. -/
import Derived.Test.YtlodelcenejfhaaDoorRefMemMap
namespace Go.Proofs.YtlodelcenejfhaaDoor
open Go.RowKit
set_option linter.unusedVariables false

set_option maxHeartbeats 1000000 in
set_option maxRecDepth 100000 in
theorem refThere {w : World} {b bw bh : Nat} {m : Cells} (h : RefMem w b bw bh m) (hl : m.ws.length < 2147483648) :
    Calls Tryd.prog 26 #[.pointer (some ⟨b, 0, none⟩)] w fun e w' => e = .returned (.int .i64 (countNZ m.ws)) ∧ w = w' := by
  have c0 := h.c0
  have CW := Lib.hid h.cw
  obtain ⟨L, hL⟩ : ∃ L, L = m.ws.length := ⟨_, rfl⟩
  rw [← hL] at c0 hl
  have HL := Lib.hid hL
  obtain ⟨R, hR⟩ : ∃ R, R = countNZ m.ws := ⟨_, rfl⟩
  rw [← hR]
  have HR := Lib.hid hR
  clear hL hR h
  go_enter Tryd.func26, Tryd.ntmps26
  go_wp2
  go_loop [3, 4] (fun vn vi => ∃ (i : Nat) (n : Int), i ≤ L ∧ 0 ≤ n ∧ n ≤ i ∧ vi = .int .i64 i ∧ vn = .int .i64 n ∧ Hid (n = countNZ (m.ws.take i))) (fun _ vi => L - (intOf vi).toNat)
  case atStart => exact ⟨0, 0, by omega, by omega, by omega, rfl, rfl, Lib.hid (by simp [countNZ])⟩
  case round =>
    obtain ⟨i, n, hi, hn0, hn1, rfl, rfl, hr⟩ := hrel
    by_cases hlt : i < L
    · have cw := CW.out i (by rw [← HL.out]; exact hlt)
      have r1 := countNZ_take m.ws i (by rw [← HL.out]; exact hlt)
      rw [← hr.out] at r1
      obtain ⟨x, hx⟩ : ∃ x, x = m.ws.getD i 0 := ⟨_, rfl⟩
      rw [← hx] at cw r1
      by_cases h0 : x = 0
      · rw [if_pos h0] at r1
        have R1 := Lib.hid (show n = countNZ (m.ws.take (i + 1)) by rw [r1]; omega)
        subst h0
        clear r1 hx hr
        go_wp2
        go_round
        case rel => exact ⟨i + 1, n, by omega, by omega, by omega, by go_num, rfl, R1⟩
        case measure => simp [intOf]; omega
      · rw [if_neg h0] at r1
        have R1 := Lib.hid (show n + 1 = countNZ (m.ws.take (i + 1)) by rw [r1])
        have t0 : (x != 0) = true := by simp [h0]
        clear r1 hx hr h0
        go_wp2
        go_round
        case rel => exact ⟨i + 1, n + 1, by omega, by omega, by omega, by go_num, rfl, R1⟩
        case measure => simp [intOf]; omega
    · have r1 := hr.out
      rw [List.take_of_length_le (by rw [← HL.out]; omega), ← HR.out] at r1
      subst r1
      clear hr
      go_wp2
      go_ret
      exact ⟨rfl, rfl⟩
end Go.Proofs.YtlodelcenejfhaaDoor
