/- The document's memory (layer 2): contracts of Map: which error, or how the memory lies behind it. The conditions: it lies there, with fewer than 2^31 cells. -/
import Derived.Test.YtobbmhboahognaaDoorRefMemSet
namespace Go.Proofs.YtobbmhboahognaaDoor
open Go.RowKit
set_option linter.unusedVariables false

/-- What No leaves. -/
def NoPost (layer : ByteArray) (n k : Int) (w : World) (e : Ending) (w' : World) : Prop := e = .returned (.pointer (some ⟨w.heap.size + 1 + 1, 0, none⟩)) ∧
  w' = ((w.alloc (.cells #[.string layer] 9)).alloc (.cells #[.int .i64 n] 3)).alloc (.cells #[.slice (some ⟨w.heap.size, 0, none⟩) 1 1, .slice (some ⟨w.heap.size + 1, 0, none⟩) 1 1, .int .i64 k] 107)


set_option maxHeartbeats 1000000 in
/-- Map: an argument that may not be. -/
theorem refMap_arg (p : Value) (a n k : Int) (h : n < 1 ∨ ¬ (k = 64 ∨ k = 32)) (w : World) :
    Calls Tryd.prog 37 #[p, .int .i64 a, .int .i64 n, .int .i64 k] w (NoPost memS 0 1 w) := by
  have NN := Lib.hid (fun W => no_any memS 0 1 W)
  by_cases hn : n < 1
  · clear h
    go_enter Tryd.func37, Tryd.ntmps37
    go_wp2_with (first | (go_at_call 18; refine (NN.out _).mono ?_; rintro e w' ⟨rfl, rfl⟩))
    go_ret
    exact ⟨rfl, rfl⟩
  · have h64 : (k != 64) = true := by simp; omega
    have h32 : (k != 32) = true := by simp; omega
    clear h
    go_enter Tryd.func37, Tryd.ntmps37
    go_wp2_with (first | (go_at_call 18; refine (NN.out _).mono ?_; rintro e w' ⟨rfl, rfl⟩))
    go_ret
    exact ⟨rfl, rfl⟩
set_option maxHeartbeats 1000000 in
/-- Map: cells that are not of the memory. -/
theorem refMap_addr {w : World} {b bw bh : Nat} {m : Cells} (h : RefMem w b bw bh m) (hl : m.ws.length < 2147483648) (a n k : Int) (hn : 1 ≤ n) (hk : k = 64 ∨ k = 32) (hin : inside m.ws.length a n = false) :
    Calls Tryd.prog 37 #[.pointer (some ⟨b, 0, none⟩), .int .i64 a, .int .i64 n, .int .i64 k] w (NoPost memS a 2 w) := by
  have IN := Lib.hid (refIn h hl a n hn)
  rw [hin] at IN
  have NN := Lib.hid (fun W => no_any memS a 2 W)
  clear hin h hl
  rcases hk with rfl | rfl
  all_goals (
    go_enter Tryd.func37, Tryd.ntmps37
    go_wp2_with (first | (go_at_call 66; refine IN.out.mono ?_; rintro e w' ⟨rfl, rfl⟩) | (go_at_call 18; refine (NN.out _).mono ?_; rintro e w' ⟨rfl, rfl⟩))
    go_ret
    exact ⟨rfl, rfl⟩)
set_option maxHeartbeats 1000000 in
set_option maxRecDepth 100000 in
/-- Map where the cells are in it: an error at the first cell that is mapped. -/
theorem refMap_block {w : World} {b bw bh : Nat} {m : Cells} (h : RefMem w b bw bh m) (hl : m.ws.length < 2147483648) (a c : Nat) (k : Int) (hc : 1 ≤ c) (hac : a + c ≤ m.ws.length) (hk : k = 64 ∨ k = 32) (i0 : Nat) (hf : firstNZ m.ws a c = some i0) :
    Calls Tryd.prog 37 #[.pointer (some ⟨b, 0, none⟩), .int .i64 a, .int .i64 c, .int .i64 k] w (NoPost memS i0 4 w) := by
  have IN := Lib.hid (refIn h hl a c (by omega))
  rw [show inside m.ws.length a c = true by simp only [inside]; rw [decide_eq_true (by omega), decide_eq_true (by omega), decide_eq_true (by omega)]; rfl] at IN
  have c0 := h.c0
  have CW := Lib.hid h.cw
  obtain ⟨L, hL⟩ : ∃ L, L = m.ws.length := ⟨_, rfl⟩
  rw [← hL] at c0 hl hac
  have HL := Lib.hid hL
  have HF := Lib.hid hf
  have hk2 : (k != 64 && k != 32) = false := by rcases hk with rfl | rfl <;> rfl
  clear hL hf h
  rcases hk with rfl | rfl
  all_goals (
    clear hk2
    go_enter Tryd.func37, Tryd.ntmps37
    go_wp2_with (first | (go_at_call 66; refine IN.out.mono ?_; rintro e w' ⟨rfl, rfl⟩))
    go_loop [9] (fun vi => ∃ i : Nat, a ≤ i ∧ i ≤ a + c ∧ vi = .int .i64 i ∧ Hid (firstNZ m.ws i (a + c - i) = some i0)) (fun vi => a + c - (intOf vi).toNat)
    case atStart => exact ⟨a, by omega, by omega, rfl, Lib.hid (by rw [show a + c - a = c by omega]; exact HF.out)⟩
    case round =>
      obtain ⟨i, hi1, hi2, rfl, hr⟩ := hrel
      by_cases hlt : i < a + c
      · have cw := CW.out i (by rw [← HL.out]; omega)
        have r1 := hr.out
        rw [show a + c - i = (a + c - (i + 1)) + 1 by omega, firstNZ] at r1
        obtain ⟨x, hx⟩ : ∃ x, x = m.ws.getD i 0 := ⟨_, rfl⟩
        rw [← hx] at cw r1
        by_cases h0 : x = 0
        · rw [if_pos h0] at r1
          have R1 := Lib.hid r1
          subst h0
          clear r1 hx hr
          go_wp2
          go_round
          case rel => exact ⟨i + 1, by omega, by omega, by go_num, R1⟩
          case measure => simp [intOf]; omega
        · rw [if_neg h0] at r1
          obtain rfl : i = i0 := Option.some.inj r1
          have NN := Lib.hid (fun W => no_any memS (i : Int) 4 W)
          have t0 : (x != 0) = true := by simp [h0]
          clear r1 hx hr h0
          go_wp2_with (first | (go_at_call 18; refine (NN.out _).mono ?_; rintro e w' ⟨rfl, rfl⟩))
          go_ret
          exact ⟨rfl, rfl⟩
      · have r1 := hr.out
        rw [show a + c - i = 0 by omega, firstNZ] at r1
        exact absurd r1 (by simp))

set_option maxHeartbeats 4000000 in
set_option maxRecDepth 100000 in
/-- Map where none of the cells is mapped. -/
theorem refMap_done64 {w : World} {b bw bh : Nat} {m : Cells} (h : RefMem w b bw bh m) (hl : m.ws.length < 2147483648) (a c : Nat) (hc : 1 ≤ c) (hac : a + c ≤ m.ws.length) (hf : firstNZ m.ws a c = none) :
    Calls Tryd.prog 37 #[.pointer (some ⟨b, 0, none⟩), .int .i64 a, .int .i64 c, .int .i64 64] w fun e w' => e = .returned (.pointer none) ∧
      RefMem w' b bw bh { ws := fillIn 64 m.ws a c, hs := fillIn 0 m.hs a c, n := m.n } ∧ Only [bw, bh] w w' := by
  have IN := Lib.hid (refIn h hl a c (by omega))
  rw [show inside m.ws.length a c = true by simp only [inside]; rw [decide_eq_true (by omega), decide_eq_true (by omega), decide_eq_true (by omega)]; rfl] at IN
  have c0 := h.c0
  have CW := Lib.hid h.cw
  have H := Lib.hid h
  obtain ⟨L, hL⟩ : ∃ L, L = m.ws.length := ⟨_, rfl⟩
  rw [← hL] at c0 hl hac
  have HL := Lib.hid hL
  have HF := Lib.hid hf
  have HN3 := Lib.hid (And.intro h.n1 (And.intro h.n2 h.n3))
  clear hL hf h
  go_enter Tryd.func37, Tryd.ntmps37
  go_wp2_with (first | (go_at_call 66; refine IN.out.mono ?_; rintro e w' ⟨rfl, rfl⟩))
  go_loop [9] (fun vi => ∃ i : Nat, a ≤ i ∧ i ≤ a + c ∧ vi = .int .i64 i ∧ Hid (firstNZ m.ws i (a + c - i) = none)) (fun vi => a + c - (intOf vi).toNat)
  case atStart => exact ⟨a, by omega, by omega, rfl, Lib.hid (by rw [show a + c - a = c by omega]; exact HF.out)⟩
  case round =>
    obtain ⟨i, hi1, hi2, rfl, hr⟩ := hrel
    by_cases hlt : i < a + c
    · have cw := CW.out i (by rw [← HL.out]; omega)
      have r1 := hr.out
      rw [show a + c - i = (a + c - (i + 1)) + 1 by omega, firstNZ] at r1
      obtain ⟨x, hx⟩ : ∃ x, x = m.ws.getD i 0 := ⟨_, rfl⟩
      rw [← hx] at cw r1
      by_cases h0 : x = 0
      · rw [if_pos h0] at r1
        have R1 := Lib.hid r1
        subst h0
        clear r1 hx hr
        go_wp2
        go_round
        case rel => exact ⟨i + 1, by omega, by omega, by go_num, R1⟩
        case measure => simp [intOf]; omega
      · rw [if_neg h0] at r1
        exact absurd r1 (by simp)
    · obtain rfl : i = a + c := by omega
      clear hr
      go_wp2
      go_loopw [10] (fun vj wr => ∃ (j : Nat) (ws' hs' : List Int), a ≤ j ∧ j ≤ a + c ∧ vj = .int .i64 j ∧ RefMem wr b bw bh { ws := ws', hs := hs', n := m.n } ∧ Only [bw, bh] w wr ∧
          Hid (ws'.length = L ∧ fillIn 64 m.ws a c = fillIn 64 ws' j (a + c - j) ∧ fillIn 0 m.hs a c = fillIn 0 hs' j (a + c - j))) (fun vj _ => a + c - (intOf vj).toNat)
      case atStart => exact ⟨a, m.ws, m.hs, by omega, by omega, rfl, H.out, Only.refl _ _, Lib.hid ⟨HL.out.symm, by rw [show a + c - a = c by omega], by rw [show a + c - a = c by omega]⟩⟩
      case round =>
        obtain ⟨j, ws', hs', hj1, hj2, rfl, hm, ho, hq⟩ := hrel
        by_cases hlj : j < a + c
        · have d0 := hm.c0
          have d1 := hm.c1
          have dL : j < ws'.length := by rw [hq.out.1]; omega
          have dw := hm.cw j dL
          have dh := hm.ch j dL
          have fw := hm.rw.free j (by simpa using dL)
          have fh := hm.rh.free j (by rw [List.length_map, hm.len]; exact dL)
          have n1 := hm.n1
          have n2 := hm.n2
          have n3 := hm.n3
          have FIN := Lib.hid ((hm.setW j dL 64).setH j (by rw [List.length_set]; exact dL) 0)
          have HM := Lib.hid hm
          obtain ⟨q1, q2, q3⟩ := hq.out
          rw [show a + c - j = (a + c - (j + 1)) + 1 by omega, fillIn] at q2 q3
          have HQ := Lib.hid (show (ws'.set j 64).length = L ∧ _ ∧ _ from ⟨by rw [List.length_set]; exact q1, q2, q3⟩)
          simp only [q1] at d0 d1
          have e1 : (j : Int) < (L : Int) := by omega
          have e0 : (0 : Int) ≤ (j : Int) := by omega
          obtain ⟨x, hx⟩ : ∃ x, x = ws'.getD j 0 := ⟨_, rfl⟩
          obtain ⟨y, hy⟩ : ∃ y, y = hs'.getD j 0 := ⟨_, rfl⟩
          simp only [← hx] at dw
          simp only [← hy] at dh
          clear hx hy hm q1 q2 q3 hq dL
          go_wp2
          go_region
          go_wp2
          go_roundw
          case rel => exact ⟨j + 1, _, _, by omega, by omega, by go_num, FIN.out.drew, ho.trans (((Only.refl _ _).setCell (Or.inl (by simp)) _).setCell (Or.inl (by simp)) _).drew, HQ⟩
          case measure => simp [intOf]; omega
        · have hq2 := hq.out
          rw [show a + c - j = 0 by omega, fillIn, fillIn] at hq2
          obtain ⟨q1, q2, q3⟩ := hq2
          have HM := Lib.hid hm
          have Q2 := Lib.hid q2
          have Q3 := Lib.hid q3
          clear q1 q2 q3 hq hm
          go_wp2
          go_ret
          refine ⟨rfl, ?_, ho⟩
          rw [Q2.out, Q3.out]
          exact HM.out
set_option maxHeartbeats 4000000 in
set_option maxRecDepth 100000 in
/-- Map where none of the cells is mapped. -/
theorem refMap_done32 {w : World} {b bw bh : Nat} {m : Cells} (h : RefMem w b bw bh m) (hl : m.ws.length < 2147483648) (a c : Nat) (hc : 1 ≤ c) (hac : a + c ≤ m.ws.length) (hf : firstNZ m.ws a c = none) :
    Calls Tryd.prog 37 #[.pointer (some ⟨b, 0, none⟩), .int .i64 a, .int .i64 c, .int .i64 32] w fun e w' => e = .returned (.pointer none) ∧
      RefMem w' b bw bh { ws := fillIn 32 m.ws a c, hs := fillIn 0 m.hs a c, n := m.n } ∧ Only [bw, bh] w w' := by
  have IN := Lib.hid (refIn h hl a c (by omega))
  rw [show inside m.ws.length a c = true by simp only [inside]; rw [decide_eq_true (by omega), decide_eq_true (by omega), decide_eq_true (by omega)]; rfl] at IN
  have c0 := h.c0
  have CW := Lib.hid h.cw
  have H := Lib.hid h
  obtain ⟨L, hL⟩ : ∃ L, L = m.ws.length := ⟨_, rfl⟩
  rw [← hL] at c0 hl hac
  have HL := Lib.hid hL
  have HF := Lib.hid hf
  have HN3 := Lib.hid (And.intro h.n1 (And.intro h.n2 h.n3))
  clear hL hf h
  go_enter Tryd.func37, Tryd.ntmps37
  go_wp2_with (first | (go_at_call 66; refine IN.out.mono ?_; rintro e w' ⟨rfl, rfl⟩))
  go_loop [9] (fun vi => ∃ i : Nat, a ≤ i ∧ i ≤ a + c ∧ vi = .int .i64 i ∧ Hid (firstNZ m.ws i (a + c - i) = none)) (fun vi => a + c - (intOf vi).toNat)
  case atStart => exact ⟨a, by omega, by omega, rfl, Lib.hid (by rw [show a + c - a = c by omega]; exact HF.out)⟩
  case round =>
    obtain ⟨i, hi1, hi2, rfl, hr⟩ := hrel
    by_cases hlt : i < a + c
    · have cw := CW.out i (by rw [← HL.out]; omega)
      have r1 := hr.out
      rw [show a + c - i = (a + c - (i + 1)) + 1 by omega, firstNZ] at r1
      obtain ⟨x, hx⟩ : ∃ x, x = m.ws.getD i 0 := ⟨_, rfl⟩
      rw [← hx] at cw r1
      by_cases h0 : x = 0
      · rw [if_pos h0] at r1
        have R1 := Lib.hid r1
        subst h0
        clear r1 hx hr
        go_wp2
        go_round
        case rel => exact ⟨i + 1, by omega, by omega, by go_num, R1⟩
        case measure => simp [intOf]; omega
      · rw [if_neg h0] at r1
        exact absurd r1 (by simp)
    · obtain rfl : i = a + c := by omega
      clear hr
      go_wp2
      go_loopw [10] (fun vj wr => ∃ (j : Nat) (ws' hs' : List Int), a ≤ j ∧ j ≤ a + c ∧ vj = .int .i64 j ∧ RefMem wr b bw bh { ws := ws', hs := hs', n := m.n } ∧ Only [bw, bh] w wr ∧
          Hid (ws'.length = L ∧ fillIn 32 m.ws a c = fillIn 32 ws' j (a + c - j) ∧ fillIn 0 m.hs a c = fillIn 0 hs' j (a + c - j))) (fun vj _ => a + c - (intOf vj).toNat)
      case atStart => exact ⟨a, m.ws, m.hs, by omega, by omega, rfl, H.out, Only.refl _ _, Lib.hid ⟨HL.out.symm, by rw [show a + c - a = c by omega], by rw [show a + c - a = c by omega]⟩⟩
      case round =>
        obtain ⟨j, ws', hs', hj1, hj2, rfl, hm, ho, hq⟩ := hrel
        by_cases hlj : j < a + c
        · have d0 := hm.c0
          have d1 := hm.c1
          have dL : j < ws'.length := by rw [hq.out.1]; omega
          have dw := hm.cw j dL
          have dh := hm.ch j dL
          have fw := hm.rw.free j (by simpa using dL)
          have fh := hm.rh.free j (by rw [List.length_map, hm.len]; exact dL)
          have n1 := hm.n1
          have n2 := hm.n2
          have n3 := hm.n3
          have FIN := Lib.hid ((hm.setW j dL 32).setH j (by rw [List.length_set]; exact dL) 0)
          have HM := Lib.hid hm
          obtain ⟨q1, q2, q3⟩ := hq.out
          rw [show a + c - j = (a + c - (j + 1)) + 1 by omega, fillIn] at q2 q3
          have HQ := Lib.hid (show (ws'.set j 32).length = L ∧ _ ∧ _ from ⟨by rw [List.length_set]; exact q1, q2, q3⟩)
          simp only [q1] at d0 d1
          have e1 : (j : Int) < (L : Int) := by omega
          have e0 : (0 : Int) ≤ (j : Int) := by omega
          obtain ⟨x, hx⟩ : ∃ x, x = ws'.getD j 0 := ⟨_, rfl⟩
          obtain ⟨y, hy⟩ : ∃ y, y = hs'.getD j 0 := ⟨_, rfl⟩
          simp only [← hx] at dw
          simp only [← hy] at dh
          clear hx hy hm q1 q2 q3 hq dL
          go_wp2
          go_region
          go_wp2
          go_roundw
          case rel => exact ⟨j + 1, _, _, by omega, by omega, by go_num, FIN.out.drew, ho.trans (((Only.refl _ _).setCell (Or.inl (by simp)) _).setCell (Or.inl (by simp)) _).drew, HQ⟩
          case measure => simp [intOf]; omega
        · have hq2 := hq.out
          rw [show a + c - j = 0 by omega, fillIn, fillIn] at hq2
          obtain ⟨q1, q2, q3⟩ := hq2
          have HM := Lib.hid hm
          have Q2 := Lib.hid q2
          have Q3 := Lib.hid q3
          clear q1 q2 q3 hq hm
          go_wp2
          go_ret
          refine ⟨rfl, ?_, ho⟩
          rw [Q2.out, Q3.out]
          exact HM.out
end Go.Proofs.YtobbmhboahognaaDoor
