/- The program's memory (layer 2): contracts of the look at a row of cells (checkAll): an error at the first place, or nil; the world as it was but for the error. The conditions: the memory lies there, with fewer than 2^31 cells. -/
import Derived.Test.YtobbmhboahognaaDoorMem
namespace Go.Proofs.YtobbmhboahognaaDoor
open Go.RowKit
set_option linter.unusedVariables false

set_option maxHeartbeats 1000000 in
/-- Cells that are not of the memory. -/
theorem check_addr {w : World} {b bc : Nat} {m : Cells} {t : Int} (h : MemAt w b bc m t) (hl : m.ws.length < 2147483648) (a n : Int) (bb : Bool) (hn : n ≤ 9223372036854775807) (ha : a ≤ 9223372036854775807) (hin : a < 0 ∨ (m.ws.length : Int) - a < n) :
    Calls Tryd.prog 64 #[.pointer (some ⟨b, 0, none⟩), .int .i64 a, .int .i64 n, .bool bb] w (FaultPost a 2 w) := by
  have FA := Lib.hid (fun W => fault_any 2 a W)
  have c0 := h.c0
  obtain ⟨L, hL⟩ : ∃ L, L = m.ws.length := ⟨_, rfl⟩
  rw [← hL] at c0 hl hin
  clear hL h
  by_cases h0 : a < 0
  · clear hin
    go_enter Tryd.func64, Tryd.ntmps64
    go_wp2_with (go_at_call 63; refine (FA.out _).mono ?_; rintro e w' ⟨rfl, rfl⟩)
    go_ret
    exact ⟨rfl, rfl⟩
  · have h1 : (L : Int) - a < n := by omega
    have h2 : 0 ≤ a := by omega
    clear hin h0
    go_enter Tryd.func64, Tryd.ntmps64
    go_wp2_with (go_at_call 63; refine (FA.out _).mono ?_; rintro e w' ⟨rfl, rfl⟩)
    go_ret
    exact ⟨rfl, rfl⟩

set_option maxHeartbeats 1000000 in
set_option maxRecDepth 100000 in
/-- Cells of the memory: the first that is mapped is told. -/
theorem check_map {w : World} {b bc : Nat} {m : Cells} {t : Int} (h : MemAt w b bc m t) (hl : m.ws.length < 2147483648) (a c : Nat) (hac : a + c ≤ m.ws.length) (i0 : Nat) (hf : firstNZ m.ws a c = some i0) :
    Calls Tryd.prog 64 #[.pointer (some ⟨b, 0, none⟩), .int .i64 a, .int .i64 c, .bool false] w (FaultPost i0 4 w) := by
  have c0 := h.c0
  have CW := Lib.hid h.cw
  obtain ⟨L, hL⟩ : ∃ L, L = m.ws.length := ⟨_, rfl⟩
  rw [← hL] at c0 hl hac
  have HL := Lib.hid hL
  have HF := Lib.hid hf
  clear hL hf h
  go_enter Tryd.func64, Tryd.ntmps64
  go_wp2
  go_loop [26, 9] (fun vi vj => ∃ i : Nat, i ≤ c ∧ vi = .int .i64 i ∧ Hid (firstNZ m.ws (a + i) (c - i) = some i0)) (fun vi _ => c - (intOf vi).toNat)
  case atStart => exact ⟨0, by omega, rfl, Lib.hid (by rw [show c - 0 = c by omega]; exact HF.out)⟩
  case round =>
    obtain ⟨i, hi1, rfl, hr⟩ := hrel
    by_cases hlt : i < c
    · have cw := CW.out (a + i) (by rw [← HL.out]; omega)
      have r1 := hr.out
      rw [show c - i = (c - (i + 1)) + 1 by omega, firstNZ] at r1
      obtain ⟨x, hx⟩ : ∃ x, x = m.ws.getD (a + i) 0 := ⟨_, rfl⟩
      rw [← hx] at cw r1
      clear hx
      by_cases h0 : x = 0
      · rw [if_pos h0] at r1
        subst h0
        have R1 := Lib.hid r1
        clear r1 hr
        go_wp2
        go_round
        case rel => exact ⟨i + 1, by omega, by go_num, R1⟩
        case measure => simp [intOf]; omega
      · rw [if_neg h0] at r1
        have t0 : (x != 0) = true := by simp [h0]
        clear h0
        have e0 : a + i = i0 := Option.some.inj r1
        have FA := Lib.hid (fun W => fault_any 4 (i0 : Int) W)
        rw [← e0] at FA ⊢
        clear r1 hr e0
        go_wp2_with (go_at_call 63; refine (FA.out _).mono ?_; rintro e w' ⟨rfl, rfl⟩)
        go_ret
        exact ⟨rfl, rfl⟩
    · have r1 := hr.out
      rw [show c - i = 0 by omega, firstNZ] at r1
      exact absurd r1 (by simp)

set_option maxHeartbeats 1000000 in
set_option maxRecDepth 100000 in
/-- Cells of the memory, none of them mapped. -/
theorem check_mapped {w : World} {b bc : Nat} {m : Cells} {t : Int} (h : MemAt w b bc m t) (hl : m.ws.length < 2147483648) (a c : Nat) (hac : a + c ≤ m.ws.length) (hf : firstNZ m.ws a c = none) :
    Calls Tryd.prog 64 #[.pointer (some ⟨b, 0, none⟩), .int .i64 a, .int .i64 c, .bool false] w fun e w' => e = .returned .nilIface ∧ w = w' := by
  have c0 := h.c0
  have CW := Lib.hid h.cw
  obtain ⟨L, hL⟩ : ∃ L, L = m.ws.length := ⟨_, rfl⟩
  rw [← hL] at c0 hl hac
  have HL := Lib.hid hL
  have HF := Lib.hid hf
  clear hL hf h
  go_enter Tryd.func64, Tryd.ntmps64
  go_wp2
  go_loop [26, 9] (fun vi vj => ∃ i : Nat, i ≤ c ∧ vi = .int .i64 i ∧ Hid (firstNZ m.ws (a + i) (c - i) = none)) (fun vi _ => c - (intOf vi).toNat)
  case atStart => exact ⟨0, by omega, rfl, Lib.hid (by rw [show c - 0 = c by omega]; exact HF.out)⟩
  case round =>
    obtain ⟨i, hi1, rfl, hr⟩ := hrel
    by_cases hlt : i < c
    · have cw := CW.out (a + i) (by rw [← HL.out]; omega)
      have r1 := hr.out
      rw [show c - i = (c - (i + 1)) + 1 by omega, firstNZ] at r1
      obtain ⟨x, hx⟩ : ∃ x, x = m.ws.getD (a + i) 0 := ⟨_, rfl⟩
      rw [← hx] at cw r1
      clear hx
      by_cases h0 : x = 0
      · rw [if_pos h0] at r1
        subst h0
        have R1 := Lib.hid r1
        clear r1 hr
        go_wp2
        go_round
        case rel => exact ⟨i + 1, by omega, by go_num, R1⟩
        case measure => simp [intOf]; omega
      · rw [if_neg h0] at r1
        have t0 : (x != 0) = true := by simp [h0]
        clear h0
        exact absurd r1 (by simp)
    · clear hr
      go_wp2
      go_ret
      exact ⟨rfl, rfl⟩

set_option maxHeartbeats 1000000 in
set_option maxRecDepth 100000 in
/-- Cells of the memory: the first that is not mapped is told. -/
theorem check_unmap {w : World} {b bc : Nat} {m : Cells} {t : Int} (h : MemAt w b bc m t) (hl : m.ws.length < 2147483648) (a c : Nat) (hac : a + c ≤ m.ws.length) (i0 : Nat) (hf : firstZ m.ws a c = some i0) :
    Calls Tryd.prog 64 #[.pointer (some ⟨b, 0, none⟩), .int .i64 a, .int .i64 c, .bool true] w (FaultPost i0 4 w) := by
  have c0 := h.c0
  have CW := Lib.hid h.cw
  obtain ⟨L, hL⟩ : ∃ L, L = m.ws.length := ⟨_, rfl⟩
  rw [← hL] at c0 hl hac
  have HL := Lib.hid hL
  have HF := Lib.hid hf
  clear hL hf h
  go_enter Tryd.func64, Tryd.ntmps64
  go_wp2
  go_loop [26, 9] (fun vi vj => ∃ i : Nat, i ≤ c ∧ vi = .int .i64 i ∧ Hid (firstZ m.ws (a + i) (c - i) = some i0)) (fun vi _ => c - (intOf vi).toNat)
  case atStart => exact ⟨0, by omega, rfl, Lib.hid (by rw [show c - 0 = c by omega]; exact HF.out)⟩
  case round =>
    obtain ⟨i, hi1, rfl, hr⟩ := hrel
    by_cases hlt : i < c
    · have cw := CW.out (a + i) (by rw [← HL.out]; omega)
      have r1 := hr.out
      rw [show c - i = (c - (i + 1)) + 1 by omega, firstZ] at r1
      obtain ⟨x, hx⟩ : ∃ x, x = m.ws.getD (a + i) 0 := ⟨_, rfl⟩
      rw [← hx] at cw r1
      clear hx
      by_cases h0 : x = 0
      · rw [if_pos h0] at r1
        subst h0
        have e0 : a + i = i0 := Option.some.inj r1
        have FA := Lib.hid (fun W => fault_any 4 (i0 : Int) W)
        rw [← e0] at FA ⊢
        clear r1 hr e0
        go_wp2_with (go_at_call 63; refine (FA.out _).mono ?_; rintro e w' ⟨rfl, rfl⟩)
        go_ret
        exact ⟨rfl, rfl⟩
      · rw [if_neg h0] at r1
        have t0 : (x != 0) = true := by simp [h0]
        clear h0
        have R1 := Lib.hid r1
        clear r1 hr
        go_wp2
        go_round
        case rel => exact ⟨i + 1, by omega, by go_num, R1⟩
        case measure => simp [intOf]; omega
    · have r1 := hr.out
      rw [show c - i = 0 by omega, firstZ] at r1
      exact absurd r1 (by simp)

set_option maxHeartbeats 1000000 in
set_option maxRecDepth 100000 in
/-- Cells of the memory, all of them mapped. -/
theorem check_unmapped {w : World} {b bc : Nat} {m : Cells} {t : Int} (h : MemAt w b bc m t) (hl : m.ws.length < 2147483648) (a c : Nat) (hac : a + c ≤ m.ws.length) (hf : firstZ m.ws a c = none) :
    Calls Tryd.prog 64 #[.pointer (some ⟨b, 0, none⟩), .int .i64 a, .int .i64 c, .bool true] w fun e w' => e = .returned .nilIface ∧ w = w' := by
  have c0 := h.c0
  have CW := Lib.hid h.cw
  obtain ⟨L, hL⟩ : ∃ L, L = m.ws.length := ⟨_, rfl⟩
  rw [← hL] at c0 hl hac
  have HL := Lib.hid hL
  have HF := Lib.hid hf
  clear hL hf h
  go_enter Tryd.func64, Tryd.ntmps64
  go_wp2
  go_loop [26, 9] (fun vi vj => ∃ i : Nat, i ≤ c ∧ vi = .int .i64 i ∧ Hid (firstZ m.ws (a + i) (c - i) = none)) (fun vi _ => c - (intOf vi).toNat)
  case atStart => exact ⟨0, by omega, rfl, Lib.hid (by rw [show c - 0 = c by omega]; exact HF.out)⟩
  case round =>
    obtain ⟨i, hi1, rfl, hr⟩ := hrel
    by_cases hlt : i < c
    · have cw := CW.out (a + i) (by rw [← HL.out]; omega)
      have r1 := hr.out
      rw [show c - i = (c - (i + 1)) + 1 by omega, firstZ] at r1
      obtain ⟨x, hx⟩ : ∃ x, x = m.ws.getD (a + i) 0 := ⟨_, rfl⟩
      rw [← hx] at cw r1
      clear hx
      by_cases h0 : x = 0
      · rw [if_pos h0] at r1
        subst h0
        exact absurd r1 (by simp)
      · rw [if_neg h0] at r1
        have t0 : (x != 0) = true := by simp [h0]
        clear h0
        have R1 := Lib.hid r1
        clear r1 hr
        go_wp2
        go_round
        case rel => exact ⟨i + 1, by omega, by go_num, R1⟩
        case measure => simp [intOf]; omega
    · clear hr
      go_wp2
      go_ret
      exact ⟨rfl, rfl⟩
end Go.Proofs.YtobbmhboahognaaDoor
