/- The program's memory (layer 2): contracts of setAll (a row of cells is filled with one width and 0) and of Map: which error, or how the memory lies behind it. The conditions: the memory lies there, with fewer than 2^31 cells. -/
import Derived.Test.YtobbmhboahognaaDoorMemChecks
namespace Go.Proofs.YtobbmhboahognaaDoor
open Go.RowKit
set_option linter.unusedVariables false

set_option maxHeartbeats 4000000 in
set_option maxRecDepth 100000 in
theorem setAll_any {w : World} {b bc : Nat} {m : Cells} {t : Int} (h : MemAt w b bc m t) (hl : m.ws.length < 2147483648) (a c : Nat) (k : Int) (hac : a + c ≤ m.ws.length) :
    Calls Tryd.prog 65 #[.pointer (some ⟨b, 0, none⟩), .int .i64 a, .int .i64 c, .agg #[.int .i64 k, .int .u64 0]] w fun e w' => e = .returned (.tuple #[]) ∧
      MemAt w' b bc { ws := fillIn k m.ws a c, hs := fillIn 0 m.hs a c, n := m.n } t ∧ Only [bc] w w' := by
  have H := Lib.hid h
  obtain ⟨L, hL⟩ : ∃ L, L = m.ws.length := ⟨_, rfl⟩
  rw [← hL] at hl hac
  have HL := Lib.hid hL
  clear hL h
  go_enter Tryd.func65, Tryd.ntmps65
  go_wp2
  go_loopw [10, 8] (fun vi _ wr => ∃ (i : Nat) (ws' hs' : List Int), i ≤ c ∧ vi = .int .i64 i ∧ MemAt wr b bc { ws := ws', hs := hs', n := m.n } t ∧ Only [bc] w wr ∧
      wr.cell? ⟨w.heap.size, 0, none⟩ = some (.int .i64 k) ∧ wr.cell? ⟨w.heap.size, 1, none⟩ = some (.int .u64 0) ∧ 
      Hid (ws'.length = L ∧ fillIn k m.ws a c = fillIn k ws' (a + i) (c - i) ∧ fillIn 0 m.hs a c = fillIn 0 hs' (a + i) (c - i))) (fun vi _ _ => c - (intOf vi).toNat)
  case atStart =>
    refine ⟨0, m.ws, m.hs, by omega, rfl, H.out.alloc _, (Only.refl _ _).alloc _, ?_, ?_, Lib.hid ⟨HL.out.symm, rfl, rfl⟩⟩
    · rw [World.cell?_alloc_at _ _ _ _ rfl]; rfl
    · rw [World.cell?_alloc_at _ _ _ _ rfl]; rfl
  case round =>
    obtain ⟨i, ws', hs', hi1, rfl, hm, ho, b0, b1, hq⟩ := hrel
    have lt0 := H.out.lt
    by_cases hlt : i < c
    · have d0 := hm.c0
      have dL : a + i < ws'.length := by rw [hq.out.1]; omega
      have dw := hm.cw (a + i) dL
      have dh := hm.ch (a + i) dL
      have fw := hm.fr ((a + i) * 2)
      have fh := hm.fr ((a + i) * 2 + 1)
      have FIN := Lib.hid ((hm.setW (a + i) dL k).setH (a + i) (by rw [List.length_set]; exact dL) 0)
      obtain ⟨q1, q2, q3⟩ := hq.out
      rw [show c - i = (c - (i + 1)) + 1 by omega, fillIn] at q2 q3
      have HQ := Lib.hid (show (ws'.set (a + i) k).length = L ∧ _ ∧ _ from ⟨by rw [List.length_set]; exact q1, q2, q3⟩)
      simp only [q1] at d0
      have e1 : (a : Int) + (i : Int) < (L : Int) := by omega
      have e0 : (0 : Int) ≤ (a : Int) + (i : Int) := by omega
      obtain ⟨x, hx⟩ : ∃ x, x = ws'.getD (a + i) 0 := ⟨_, rfl⟩
      obtain ⟨y, hy⟩ : ∃ y, y = hs'.getD (a + i) 0 := ⟨_, rfl⟩
      simp only [← hx] at dw
      simp only [← hy] at dh
      clear hx hy hm q1 q2 q3 hq dL
      go_wp2
      go_region
      go_wp2
      go_roundw
      case rel =>
        refine ⟨i + 1, _, _, by omega, by go_num, FIN.out.drew, ho.trans (((Only.refl _ _).setCell (Or.inl (by simp)) _).setCell (Or.inl (by simp)) _).drew, ?_, ?_, HQ⟩
        · go_simp
        · go_simp
      case measure => simp [intOf]; omega
    · have hq2 := hq.out
      rw [show c - i = 0 by omega, fillIn, fillIn] at hq2
      obtain ⟨q1, q2, q3⟩ := hq2
      have HM := Lib.hid hm
      have Q2 := Lib.hid q2
      have Q3 := Lib.hid q3
      clear q1 q2 q3 hq hm
      go_wp2
      go_end0
      refine ⟨rfl, ?_, ho⟩
      rw [Q2.out, Q3.out]
      exact HM.out

set_option maxHeartbeats 1000000 in
/-- Map: an argument that may not be. -/
theorem memMap_arg (p : Value) (a n k : Int) (h : n < 1 ∨ ¬ (k = 64 ∨ k = 32)) (w : World) :
    Calls Tryd.prog 36 #[p, .int .i64 a, .int .i64 n, .int .i64 k] w (FaultPost 0 1 w) := by
  have FA := Lib.hid (fun W => fault_any 1 0 W)
  by_cases hn : n < 1
  · clear h
    go_enter Tryd.func36, Tryd.ntmps36
    go_wp2_with (go_at_call 63; refine (FA.out _).mono ?_; rintro e w' ⟨rfl, rfl⟩)
    go_ret
    exact ⟨rfl, rfl⟩
  · have h64 : (k != 64) = true := by simp; omega
    have h32 : (k != 32) = true := by simp; omega
    clear h
    go_enter Tryd.func36, Tryd.ntmps36
    go_wp2_with (go_at_call 63; refine (FA.out _).mono ?_; rintro e w' ⟨rfl, rfl⟩)
    go_ret
    exact ⟨rfl, rfl⟩
set_option maxHeartbeats 1000000 in
/-- Map: cells that are not of the memory. -/
theorem memMap_addr {w : World} {b bc : Nat} {m : Cells} {t : Int} (h : MemAt w b bc m t) (hl : m.ws.length < 2147483648) (a n k : Int) (h1 : 1 ≤ n) (hn : n ≤ 9223372036854775807) (ha : a ≤ 9223372036854775807) (hk : k = 64 ∨ k = 32) (hin : a < 0 ∨ (m.ws.length : Int) - a < n) :
    Calls Tryd.prog 36 #[.pointer (some ⟨b, 0, none⟩), .int .i64 a, .int .i64 n, .int .i64 k] w (FaultPost a 2 w) := by
  have CH := Lib.hid (check_addr h hl a n false hn ha hin)
  clear hin h hl
  rcases hk with rfl | rfl
  all_goals (
    go_enter Tryd.func36, Tryd.ntmps36
    go_wp2_with (go_at_call 64; refine CH.out.mono ?_; rintro e w' ⟨rfl, rfl⟩)
    go_ret
    exact ⟨rfl, rfl⟩)
set_option maxHeartbeats 1000000 in
/-- Map where the cells are in it: an error at the first cell that is mapped. -/
theorem memMap_block {w : World} {b bc : Nat} {m : Cells} {t : Int} (h : MemAt w b bc m t) (hl : m.ws.length < 2147483648) (a c : Nat) (k : Int) (hc : 1 ≤ c) (hac : a + c ≤ m.ws.length) (hk : k = 64 ∨ k = 32) (i0 : Nat) (hf : firstNZ m.ws a c = some i0) :
    Calls Tryd.prog 36 #[.pointer (some ⟨b, 0, none⟩), .int .i64 a, .int .i64 c, .int .i64 k] w (FaultPost i0 4 w) := by
  have CH := Lib.hid (check_map h hl a c hac i0 hf)
  clear hf h hl hac
  rcases hk with rfl | rfl
  all_goals (
    go_enter Tryd.func36, Tryd.ntmps36
    go_wp2_with (go_at_call 64; refine CH.out.mono ?_; rintro e w' ⟨rfl, rfl⟩)
    go_ret
    exact ⟨rfl, rfl⟩)
set_option maxHeartbeats 1000000 in
/-- Map where none of the cells is mapped. -/
theorem memMap_done {w : World} {b bc : Nat} {m : Cells} {t : Int} (h : MemAt w b bc m t) (hl : m.ws.length < 2147483648) (a c : Nat) (k : Int) (hc : 1 ≤ c) (hac : a + c ≤ m.ws.length) (hk : k = 64 ∨ k = 32) (hf : firstNZ m.ws a c = none) (ht0 : 0 ≤ t) (ht1 : t ≤ 2147483648) :
    Calls Tryd.prog 36 #[.pointer (some ⟨b, 0, none⟩), .int .i64 a, .int .i64 c, .int .i64 k] w fun e w' => e = .returned .nilIface ∧
      MemAt w' b bc { ws := fillIn k m.ws a c, hs := fillIn 0 m.hs a c, n := m.n } (t + c) ∧ Only [b, bc] w w' := by
  have CH := Lib.hid (check_mapped h hl a c hac hf)
  have SE := Lib.hid (setAll_any h hl a c k hac)
  have hcl : (c : Int) ≤ 2147483648 := by omega
  clear hf h hl hac
  rcases hk with rfl | rfl
  all_goals (
    go_enter Tryd.func36, Tryd.ntmps36
    go_wp2_with (first | (go_at_call 64; refine CH.out.mono ?_; rintro e w' ⟨rfl, rfl⟩) | (go_at_call 65; refine SE.out.mono ?_; rintro e w1 ⟨rfl, hm, ho⟩; have c1 := hm.c1; have f1 := hm.f1; have HM := Lib.hid hm; clear hm))
    go_ret
    exact ⟨rfl, HM.out.setT _, (ho.mono (by simp)).setCell (Or.inl (by simp)) _⟩)
end Go.Proofs.YtobbmhboahognaaDoor
