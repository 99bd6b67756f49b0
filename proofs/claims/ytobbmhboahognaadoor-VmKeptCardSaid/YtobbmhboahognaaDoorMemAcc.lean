/- The program's memory (layer 2): contracts of access and of Load: what they return, and how the memory lies behind them; nothing else that was there has turned. The conditions: the memory lies there, with fewer than 2^31 cells, its count of accesses is below an int's greatest, the cell holds a word of its width. -/
import Derived.Test.YtobbmhboahognaaDoorMem
import Derived.Test.YtobbmhboahognaaDoorArithA
import Derived.Deep.RegionWith
namespace Go.Proofs.YtobbmhboahognaaDoor
open Go.RowKit
set_option linter.unusedVariables false

set_option maxHeartbeats 400000 in
theorem noCell_any (at' : Nat) (hat : at' < 18446744073709551616) (w : World) : Calls Tryd.prog 91 #[.int .u64 at'] w (FaultPost (badPlace at') 2 w) := by
  have FA := Lib.hid (fun n W => fault_any 2 n W)
  by_cases hb : 4611686018427387904 < at'
  · rw [show badPlace at' = 0 from if_pos hb]
    go_enter Tryd.func91, Tryd.ntmps91
    go_wp2_with (go_at_call 63; refine (FA.out _ _).mono ?_; rintro e w' ⟨rfl, rfl⟩)
    go_ret
    exact ⟨rfl, rfl⟩
  · rw [show badPlace at' = (at' : Int) from if_neg hb]
    go_enter Tryd.func91, Tryd.ntmps91
    go_wp2_with (go_at_call 63; refine (FA.out _ _).mono ?_; rintro e w' ⟨rfl, rfl⟩)
    go_ret
    exact ⟨rfl, rfl⟩
/-- What an access of a cell that is not there leaves. -/
def AccBad (n : Int) (w : World) (e : Ending) (w' : World) : Prop := e = .returned (.tuple #[.int .u64 0, .iface 108 (.pointer (some ⟨w.heap.size, 0, none⟩))]) ∧
  w' = w.alloc (.cells #[.string memS, .int .i64 n, .iface 55 (.int .i64 2)] 112)
/-- What an access of a cell leaves, that held was and holds y behind it. -/
def AccPost (b bc : Nat) (m : Cells) (t : Int) (at' : Nat) (y : Int) (w : World) (e : Ending) (w' : World) : Prop := e = .returned (.tuple #[.int .u64 (m.hs.getD at' 0), .nilIface]) ∧
  MemAt w' b bc { ws := m.ws, hs := m.hs.set at' y, n := m.n + 1 } t ∧ Only [b, bc] w w'

set_option maxHeartbeats 1000000 in
set_option maxRecDepth 100000 in
theorem acc_bad {w : World} {b bc : Nat} {m : Cells} {t : Int} (h : MemAt w b bc m t) (hl : m.ws.length < 2147483648) (kind : Int) (at' : Nat) (hat : at' < 18446744073709551616) (old v : Int) (hw : widthAt m.ws at' = 0) :
    Calls Tryd.prog 67 #[.pointer (some ⟨b, 0, none⟩), .int .i64 kind, .int .u64 at', .int .u64 old, .int .u64 v] w (AccBad (badPlace at') w) := by
  have WD := Lib.hid (memWidth h hl at')
  rw [hw] at WD
  have NC := Lib.hid (noCell_any at' hat w)
  clear h hw
  go_enter Tryd.func67, Tryd.ntmps67
  go_wp2_with (first | (go_at_call 90; refine WD.out.mono ?_; rintro e w' ⟨rfl, rfl⟩) | (go_at_call 91; refine NC.out.mono ?_; rintro e w' ⟨rfl, rfl⟩))
  go_ret2
  exact ⟨rfl, rfl⟩

set_option maxHeartbeats 1000000 in
set_option maxRecDepth 100000 in
theorem acc_load {w : World} {b bc : Nat} {m : Cells} {t : Int} (h : MemAt w b bc m t) (hl : m.ws.length < 2147483648) (hn0 : 0 ≤ m.n) (hn : m.n < 9223372036854775807) (at' : Nat) (old v : Int) (hv0 : 0 ≤ v) (hv : v ≤ 18446744073709551615)
    (ho0 : 0 ≤ old) (ho : old ≤ 18446744073709551615) (hh0 : 0 ≤ m.hs.getD at' 0) (hh : m.hs.getD at' 0 ≤ 18446744073709551615) (hi : at' < m.ws.length) (hw : widthAt m.ws at' ≠ 0) (hs : cut (widthAt m.ws at') (m.hs.getD at' 0) = m.hs.getD at' 0) :
    Calls Tryd.prog 67 #[.pointer (some ⟨b, 0, none⟩), .int .i64 0, .int .u64 at', .int .u64 old, .int .u64 v] w (AccPost b bc m t at' (m.hs.getD at' 0) w) := by
  unfold AccPost
  have c0 := h.c0
  have c2 := h.c2
  have f2 := h.f2
  have ch := h.ch at' hi
  have fh := h.fr (at' * 2 + 1)
  have WD := Lib.hid (memWidth h hl at')
  have nb := h.ne
  have FIN := Lib.hid (fun N y => (h.setN N).setH at' hi y)
  have FIN0 := Lib.hid (fun N => h.setN N)
  obtain ⟨k, hk⟩ : ∃ k, k = widthAt m.ws at' := ⟨_, rfl⟩
  rw [← hk] at WD hw hs
  try rw [← hk]
  obtain ⟨x, hx⟩ : ∃ x, x = m.hs.getD at' 0 := ⟨_, rfl⟩
  rw [← hx] at ch hh0 hh hs ⊢
  obtain ⟨L, hL⟩ : ∃ L, L = m.ws.length := ⟨_, rfl⟩
  obtain ⟨N, hN⟩ : ∃ N, N = m.n := ⟨_, rfl⟩
  rw [← hL] at c0 hl hi
  rw [← hN] at c2 hn0 hn ⊢
  have tw : (k == 0) = false := beq_eq_false_iff_ne.2 hw
  have HX := Lib.hid hx
  clear hx hk hL hN hw h
  go_enter Tryd.func67, Tryd.ntmps67
  go_wp2_with (first | (go_at_call 90; refine WD.out.mono ?_; rintro e w' ⟨rfl, rfl⟩))
  go_ret2
  refine ⟨rfl, ?_, (Only.refl _ _).setCell (Or.inl (by simp)) _⟩
  have hs : m.hs.set at' x = m.hs := by rw [HX.out]; exact set_self _ _
  rw [hs]
  exact FIN0.out _

set_option maxHeartbeats 1000000 in
set_option maxRecDepth 100000 in
theorem acc_swap {w : World} {b bc : Nat} {m : Cells} {t : Int} (h : MemAt w b bc m t) (hl : m.ws.length < 2147483648) (hn0 : 0 ≤ m.n) (hn : m.n < 9223372036854775807) (at' : Nat) (old v : Int) (hv0 : 0 ≤ v) (hv : v ≤ 18446744073709551615)
    (ho0 : 0 ≤ old) (ho : old ≤ 18446744073709551615) (hh0 : 0 ≤ m.hs.getD at' 0) (hh : m.hs.getD at' 0 ≤ 18446744073709551615) (hi : at' < m.ws.length) (hw : widthAt m.ws at' ≠ 0) (hs : cut (widthAt m.ws at') (m.hs.getD at' 0) = m.hs.getD at' 0) :
    Calls Tryd.prog 67 #[.pointer (some ⟨b, 0, none⟩), .int .i64 1, .int .u64 at', .int .u64 old, .int .u64 v] w (AccPost b bc m t at' (cut (widthAt m.ws at') v) w) := by
  unfold AccPost
  have c0 := h.c0
  have c2 := h.c2
  have f2 := h.f2
  have ch := h.ch at' hi
  have fh := h.fr (at' * 2 + 1)
  have WD := Lib.hid (memWidth h hl at')
  have nb := h.ne
  have FIN := Lib.hid (fun N y => (h.setN N).setH at' hi y)
  have FIN0 := Lib.hid (fun N => h.setN N)
  obtain ⟨k, hk⟩ : ∃ k, k = widthAt m.ws at' := ⟨_, rfl⟩
  rw [← hk] at WD hw hs
  try rw [← hk]
  obtain ⟨x, hx⟩ : ∃ x, x = m.hs.getD at' 0 := ⟨_, rfl⟩
  rw [← hx] at ch hh0 hh hs ⊢
  have CX := Lib.hid (fun W => cut_any k x hh0 hh W)
  rw [hs] at CX
  have CU := Lib.hid (fun W => cut_any k v hv0 hv W)
  obtain ⟨y, hy⟩ : ∃ y, y = cut k v := ⟨_, rfl⟩
  rw [← hy] at CU ⊢
  clear hy hs
  obtain ⟨L, hL⟩ : ∃ L, L = m.ws.length := ⟨_, rfl⟩
  obtain ⟨N, hN⟩ : ∃ N, N = m.n := ⟨_, rfl⟩
  rw [← hL] at c0 hl hi
  rw [← hN] at c2 hn0 hn ⊢
  have tw : (k == 0) = false := beq_eq_false_iff_ne.2 hw
  have HX := Lib.hid hx
  clear hx hk hL hN hw h
  go_enter Tryd.func67, Tryd.ntmps67
  go_wp2_with (first | (go_at_call 90; refine WD.out.mono ?_; rintro e w' ⟨rfl, rfl⟩) | (go_at_call 92; first | ((with_reducible refine (CX.out _).mono ?_); rintro e w' ⟨rfl, rfl⟩) | ((with_reducible refine (CU.out _).mono ?_); rintro e w' ⟨rfl, rfl⟩)))
  go_ret2
  exact ⟨rfl, FIN.out _ _, ((Only.refl _ _).setCell (Or.inl (by simp)) _).setCell (Or.inl (by simp)) _⟩

set_option maxHeartbeats 1000000 in
set_option maxRecDepth 100000 in
theorem acc_add {w : World} {b bc : Nat} {m : Cells} {t : Int} (h : MemAt w b bc m t) (hl : m.ws.length < 2147483648) (hn0 : 0 ≤ m.n) (hn : m.n < 9223372036854775807) (at' : Nat) (old v : Int) (hv0 : 0 ≤ v) (hv : v ≤ 18446744073709551615)
    (ho0 : 0 ≤ old) (ho : old ≤ 18446744073709551615) (hh0 : 0 ≤ m.hs.getD at' 0) (hh : m.hs.getD at' 0 ≤ 18446744073709551615) (hi : at' < m.ws.length) (hw : widthAt m.ws at' ≠ 0) (hs : cut (widthAt m.ws at') (m.hs.getD at' 0) = m.hs.getD at' 0) :
    Calls Tryd.prog 67 #[.pointer (some ⟨b, 0, none⟩), .int .i64 2, .int .u64 at', .int .u64 old, .int .u64 v] w (AccPost b bc m t at' (summ (widthAt m.ws at') (m.hs.getD at' 0) v) w) := by
  unfold AccPost
  have c0 := h.c0
  have c2 := h.c2
  have f2 := h.f2
  have ch := h.ch at' hi
  have fh := h.fr (at' * 2 + 1)
  have WD := Lib.hid (memWidth h hl at')
  have nb := h.ne
  have FIN := Lib.hid (fun N y => (h.setN N).setH at' hi y)
  have FIN0 := Lib.hid (fun N => h.setN N)
  obtain ⟨k, hk⟩ : ∃ k, k = widthAt m.ws at' := ⟨_, rfl⟩
  rw [← hk] at WD hw hs
  try rw [← hk]
  obtain ⟨x, hx⟩ : ∃ x, x = m.hs.getD at' 0 := ⟨_, rfl⟩
  rw [← hx] at ch hh0 hh hs ⊢
  have SU := Lib.hid (fun W => sum_any k x v hh0 hh hv0 hv W)
  have r1 := summ_range k x v
  have CX := Lib.hid (fun W => cut_any k x hh0 hh W)
  rw [hs] at CX
  have CU := Lib.hid (fun W => cut_any k (summ k x v) r1.1 r1.2 W)
  rw [cut_summ] at CU
  obtain ⟨y, hy⟩ : ∃ y, y = summ k x v := ⟨_, rfl⟩
  rw [← hy] at SU CU ⊢
  clear hy hs r1
  obtain ⟨L, hL⟩ : ∃ L, L = m.ws.length := ⟨_, rfl⟩
  obtain ⟨N, hN⟩ : ∃ N, N = m.n := ⟨_, rfl⟩
  rw [← hL] at c0 hl hi
  rw [← hN] at c2 hn0 hn ⊢
  have tw : (k == 0) = false := beq_eq_false_iff_ne.2 hw
  have HX := Lib.hid hx
  clear hx hk hL hN hw h
  go_enter Tryd.func67, Tryd.ntmps67
  go_wp2_with (first | (go_at_call 90; refine WD.out.mono ?_; rintro e w' ⟨rfl, rfl⟩) | (go_at_call 76; refine (SU.out _).mono ?_; rintro e w' ⟨rfl, rfl⟩) | (go_at_call 92; first | ((with_reducible refine (CX.out _).mono ?_); rintro e w' ⟨rfl, rfl⟩) | ((with_reducible refine (CU.out _).mono ?_); rintro e w' ⟨rfl, rfl⟩)))
  go_ret2
  exact ⟨rfl, FIN.out _ _, ((Only.refl _ _).setCell (Or.inl (by simp)) _).setCell (Or.inl (by simp)) _⟩

set_option maxHeartbeats 1000000 in
set_option maxRecDepth 100000 in
theorem acc_casy {w : World} {b bc : Nat} {m : Cells} {t : Int} (h : MemAt w b bc m t) (hl : m.ws.length < 2147483648) (hn0 : 0 ≤ m.n) (hn : m.n < 9223372036854775807) (at' : Nat) (old v : Int) (hv0 : 0 ≤ v) (hv : v ≤ 18446744073709551615)
    (ho0 : 0 ≤ old) (ho : old ≤ 18446744073709551615) (hh0 : 0 ≤ m.hs.getD at' 0) (hh : m.hs.getD at' 0 ≤ 18446744073709551615) (hi : at' < m.ws.length) (hw : widthAt m.ws at' ≠ 0) (hs : cut (widthAt m.ws at') (m.hs.getD at' 0) = m.hs.getD at' 0) (hc : m.hs.getD at' 0 = cut (widthAt m.ws at') old) :
    Calls Tryd.prog 67 #[.pointer (some ⟨b, 0, none⟩), .int .i64 3, .int .u64 at', .int .u64 old, .int .u64 v] w (AccPost b bc m t at' (cut (widthAt m.ws at') v) w) := by
  unfold AccPost
  have c0 := h.c0
  have c2 := h.c2
  have f2 := h.f2
  have ch := h.ch at' hi
  have fh := h.fr (at' * 2 + 1)
  have WD := Lib.hid (memWidth h hl at')
  have nb := h.ne
  have FIN := Lib.hid (fun N y => (h.setN N).setH at' hi y)
  have FIN0 := Lib.hid (fun N => h.setN N)
  obtain ⟨k, hk⟩ : ∃ k, k = widthAt m.ws at' := ⟨_, rfl⟩
  rw [← hk] at WD hw hs
  try rw [← hk]
  rw [← hk] at hc
  obtain ⟨x, hx⟩ : ∃ x, x = m.hs.getD at' 0 := ⟨_, rfl⟩
  rw [← hx] at ch hh0 hh hs ⊢
  rw [← hx] at hc
  have CU := Lib.hid (fun W => cut_any k v hv0 hv W)
  obtain ⟨y, hy⟩ : ∃ y, y = cut k v := ⟨_, rfl⟩
  rw [← hy] at CU ⊢
  clear hy hs
  have CO := Lib.hid (fun W => cut_any k old ho0 ho W)
  obtain ⟨z, hz⟩ : ∃ z, z = cut k old := ⟨_, rfl⟩
  rw [← hz] at CO hc
  have tz : (x == z) = true := beq_iff_eq.2 hc
  clear hz hc
  obtain ⟨L, hL⟩ : ∃ L, L = m.ws.length := ⟨_, rfl⟩
  obtain ⟨N, hN⟩ : ∃ N, N = m.n := ⟨_, rfl⟩
  rw [← hL] at c0 hl hi
  rw [← hN] at c2 hn0 hn ⊢
  have tw : (k == 0) = false := beq_eq_false_iff_ne.2 hw
  have HX := Lib.hid hx
  clear hx hk hL hN hw h
  go_enter Tryd.func67, Tryd.ntmps67
  go_wp2_with (first | (go_at_call 90; refine WD.out.mono ?_; rintro e w' ⟨rfl, rfl⟩) | (go_at_call 92; first | ((with_reducible refine (CO.out _).mono ?_); rintro e w' ⟨rfl, rfl⟩) | ((with_reducible refine (CU.out _).mono ?_); rintro e w' ⟨rfl, rfl⟩)))
  go_ret2
  exact ⟨rfl, FIN.out _ _, ((Only.refl _ _).setCell (Or.inl (by simp)) _).setCell (Or.inl (by simp)) _⟩

set_option maxHeartbeats 1000000 in
set_option maxRecDepth 100000 in
theorem acc_casn {w : World} {b bc : Nat} {m : Cells} {t : Int} (h : MemAt w b bc m t) (hl : m.ws.length < 2147483648) (hn0 : 0 ≤ m.n) (hn : m.n < 9223372036854775807) (at' : Nat) (old v : Int) (hv0 : 0 ≤ v) (hv : v ≤ 18446744073709551615)
    (ho0 : 0 ≤ old) (ho : old ≤ 18446744073709551615) (hh0 : 0 ≤ m.hs.getD at' 0) (hh : m.hs.getD at' 0 ≤ 18446744073709551615) (hi : at' < m.ws.length) (hw : widthAt m.ws at' ≠ 0) (hs : cut (widthAt m.ws at') (m.hs.getD at' 0) = m.hs.getD at' 0) (hc : ¬ m.hs.getD at' 0 = cut (widthAt m.ws at') old) :
    Calls Tryd.prog 67 #[.pointer (some ⟨b, 0, none⟩), .int .i64 3, .int .u64 at', .int .u64 old, .int .u64 v] w (AccPost b bc m t at' (m.hs.getD at' 0) w) := by
  unfold AccPost
  have c0 := h.c0
  have c2 := h.c2
  have f2 := h.f2
  have ch := h.ch at' hi
  have fh := h.fr (at' * 2 + 1)
  have WD := Lib.hid (memWidth h hl at')
  have nb := h.ne
  have FIN := Lib.hid (fun N y => (h.setN N).setH at' hi y)
  have FIN0 := Lib.hid (fun N => h.setN N)
  obtain ⟨k, hk⟩ : ∃ k, k = widthAt m.ws at' := ⟨_, rfl⟩
  rw [← hk] at WD hw hs
  try rw [← hk]
  rw [← hk] at hc
  obtain ⟨x, hx⟩ : ∃ x, x = m.hs.getD at' 0 := ⟨_, rfl⟩
  rw [← hx] at ch hh0 hh hs ⊢
  rw [← hx] at hc
  clear hs
  have CO := Lib.hid (fun W => cut_any k old ho0 ho W)
  obtain ⟨z, hz⟩ : ∃ z, z = cut k old := ⟨_, rfl⟩
  rw [← hz] at CO hc
  have tz : (x == z) = false := beq_eq_false_iff_ne.2 hc
  clear hz hc
  obtain ⟨L, hL⟩ : ∃ L, L = m.ws.length := ⟨_, rfl⟩
  obtain ⟨N, hN⟩ : ∃ N, N = m.n := ⟨_, rfl⟩
  rw [← hL] at c0 hl hi
  rw [← hN] at c2 hn0 hn ⊢
  have tw : (k == 0) = false := beq_eq_false_iff_ne.2 hw
  have HX := Lib.hid hx
  clear hx hk hL hN hw h
  go_enter Tryd.func67, Tryd.ntmps67
  go_wp2_with (first | (go_at_call 90; refine WD.out.mono ?_; rintro e w' ⟨rfl, rfl⟩) | (go_at_call 92; refine (CO.out _).mono ?_; rintro e w' ⟨rfl, rfl⟩))
  go_ret2
  refine ⟨rfl, ?_, (Only.refl _ _).setCell (Or.inl (by simp)) _⟩
  have hs : m.hs.set at' x = m.hs := by rw [HX.out]; exact set_self _ _
  rw [hs]
  exact FIN0.out _
end Go.Proofs.YtobbmhboahognaaDoor
