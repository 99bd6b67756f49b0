/- The document's memory (layer 2): the contract of an access: what it returns, and how the memory lies behind it; nothing else that was there has turned. The conditions: it lies there, with fewer than 2^31 cells, and its count of accesses is below an int's greatest. -/
import Derived.Test.YtobbmhboahognaaDoorRefMemSet
import Derived.Test.YtobbmhboahognaaDoorRefMemWidth
import Derived.Test.YtobbmhboahognaaDoorArithR
import Derived.Deep.RegionWith
namespace Go.Proofs.YtobbmhboahognaaDoor
open Go.RowKit
set_option linter.unusedVariables false

/-- What a cell of width k, which held was, holds behind an access. -/
def newVal (kind k was old v : Int) : Int := if kind = 1 ∨ kind = 2 then cut k v else if kind = 3 then summ k was v else if kind = 4 then (if was = cut k old then cut k v else was) else was
set_option maxHeartbeats 1000000 in
set_option maxRecDepth 100000 in
theorem refDo0 {w : World} {b bw bh : Nat} {m : Cells} (h : RefMem w b bw bh m) (hl : m.ws.length < 2147483648) (hn0 : 0 ≤ m.n) (hn : m.n < 9223372036854775807) (at' : Nat) (old v : Int) (hv0 : 0 ≤ v) (hv : v ≤ 18446744073709551615)
    (ho0 : 0 ≤ old) (ho : old ≤ 18446744073709551615) (hh0 : 0 ≤ m.hs.getD at' 0) (hh : m.hs.getD at' 0 ≤ 18446744073709551615) (hi : at' < m.ws.length) (hw : widthAt m.ws at' ≠ 0) :
    Calls Tryd.prog 39 #[.pointer (some ⟨b, 0, none⟩), .int .i64 0, .int .u64 at', .int .u64 old, .int .u64 v] w fun e w' =>
      e = .returned (.tuple #[.int .u64 (m.hs.getD at' 0), .pointer none]) ∧ RefMem w' b bw bh { ws := m.ws, hs := m.hs.set at' (m.hs.getD at' 0), n := m.n + 1 } ∧ Only [b, bw, bh] w w' := by
  have c0 := h.c0
  have c1 := h.c1
  have c2 := h.c2
  have f2 := h.f2
  have ch := h.ch at' hi
  have fh := h.rh.free at' (by rw [List.length_map, h.len]; exact hi)
  have WD := Lib.hid (refWidth h hl at')
  have n2 := h.n2
  have FIN := Lib.hid (fun N y => (h.setN N).setH at' hi y)
  have FIN0 := Lib.hid (fun N => h.setN N)
  obtain ⟨k, hk⟩ : ∃ k, k = widthAt m.ws at' := ⟨_, rfl⟩
  rw [← hk] at WD hw
  try rw [← hk]
  obtain ⟨x, hx⟩ : ∃ x, x = m.hs.getD at' 0 := ⟨_, rfl⟩
  rw [← hx] at ch hh0 hh ⊢
  obtain ⟨L, hL⟩ : ∃ L, L = m.ws.length := ⟨_, rfl⟩
  obtain ⟨N, hN⟩ : ∃ N, N = m.n := ⟨_, rfl⟩
  rw [← hL] at c0 c1 hl hi
  rw [← hN] at c2 hn0 hn ⊢
  have tw : (k == 0) = false := beq_eq_false_iff_ne.2 hw
  have HX := Lib.hid hx
  clear hx hk hL hN hw h
  go_enter Tryd.func39, Tryd.ntmps39
  go_wp2_with (first | (go_at_call 68; refine WD.out.mono ?_; rintro e w' ⟨rfl, rfl⟩))
  go_ret2
  refine ⟨rfl, ?_, (Only.refl _ _).setCell (Or.inl (by simp)) _⟩
  have hs : m.hs.set at' x = m.hs := by rw [HX.out]; exact set_self _ _
  rw [hs]
  exact FIN0.out _

set_option maxHeartbeats 1000000 in
set_option maxRecDepth 100000 in
theorem refDo1 {w : World} {b bw bh : Nat} {m : Cells} (h : RefMem w b bw bh m) (hl : m.ws.length < 2147483648) (hn0 : 0 ≤ m.n) (hn : m.n < 9223372036854775807) (at' : Nat) (old v : Int) (hv0 : 0 ≤ v) (hv : v ≤ 18446744073709551615)
    (ho0 : 0 ≤ old) (ho : old ≤ 18446744073709551615) (hh0 : 0 ≤ m.hs.getD at' 0) (hh : m.hs.getD at' 0 ≤ 18446744073709551615) (hi : at' < m.ws.length) (hw : widthAt m.ws at' ≠ 0) :
    Calls Tryd.prog 39 #[.pointer (some ⟨b, 0, none⟩), .int .i64 1, .int .u64 at', .int .u64 old, .int .u64 v] w fun e w' =>
      e = .returned (.tuple #[.int .u64 (m.hs.getD at' 0), .pointer none]) ∧ RefMem w' b bw bh { ws := m.ws, hs := m.hs.set at' (cut (widthAt m.ws at') v), n := m.n + 1 } ∧ Only [b, bw, bh] w w' := by
  have c0 := h.c0
  have c1 := h.c1
  have c2 := h.c2
  have f2 := h.f2
  have ch := h.ch at' hi
  have fh := h.rh.free at' (by rw [List.length_map, h.len]; exact hi)
  have WD := Lib.hid (refWidth h hl at')
  have n2 := h.n2
  have FIN := Lib.hid (fun N y => (h.setN N).setH at' hi y)
  have FIN0 := Lib.hid (fun N => h.setN N)
  obtain ⟨k, hk⟩ : ∃ k, k = widthAt m.ws at' := ⟨_, rfl⟩
  rw [← hk] at WD hw
  try rw [← hk]
  obtain ⟨x, hx⟩ : ∃ x, x = m.hs.getD at' 0 := ⟨_, rfl⟩
  rw [← hx] at ch hh0 hh ⊢
  have CU := Lib.hid (fun W => rcut_any k v hv0 hv W)
  obtain ⟨y, hy⟩ : ∃ y, y = cut k v := ⟨_, rfl⟩
  rw [← hy] at CU ⊢
  clear hy
  obtain ⟨L, hL⟩ : ∃ L, L = m.ws.length := ⟨_, rfl⟩
  obtain ⟨N, hN⟩ : ∃ N, N = m.n := ⟨_, rfl⟩
  rw [← hL] at c0 c1 hl hi
  rw [← hN] at c2 hn0 hn ⊢
  have tw : (k == 0) = false := beq_eq_false_iff_ne.2 hw
  have HX := Lib.hid hx
  clear hx hk hL hN hw h
  go_enter Tryd.func39, Tryd.ntmps39
  go_wp2_with (first | (go_at_call 68; refine WD.out.mono ?_; rintro e w' ⟨rfl, rfl⟩))
  go_region_with (first | (go_at_call 69; refine (CU.out _).mono ?_; rintro e w' ⟨rfl, rfl⟩))
  all_goals go_wp2
  all_goals go_ret2
  all_goals exact ⟨rfl, (FIN.out _ _).drew, (((Only.refl _ _).setCell (Or.inl (by simp)) _).setCell (Or.inl (by simp)) _).drew⟩

set_option maxHeartbeats 1000000 in
set_option maxRecDepth 100000 in
theorem refDo2 {w : World} {b bw bh : Nat} {m : Cells} (h : RefMem w b bw bh m) (hl : m.ws.length < 2147483648) (hn0 : 0 ≤ m.n) (hn : m.n < 9223372036854775807) (at' : Nat) (old v : Int) (hv0 : 0 ≤ v) (hv : v ≤ 18446744073709551615)
    (ho0 : 0 ≤ old) (ho : old ≤ 18446744073709551615) (hh0 : 0 ≤ m.hs.getD at' 0) (hh : m.hs.getD at' 0 ≤ 18446744073709551615) (hi : at' < m.ws.length) (hw : widthAt m.ws at' ≠ 0) :
    Calls Tryd.prog 39 #[.pointer (some ⟨b, 0, none⟩), .int .i64 2, .int .u64 at', .int .u64 old, .int .u64 v] w fun e w' =>
      e = .returned (.tuple #[.int .u64 (m.hs.getD at' 0), .pointer none]) ∧ RefMem w' b bw bh { ws := m.ws, hs := m.hs.set at' (cut (widthAt m.ws at') v), n := m.n + 1 } ∧ Only [b, bw, bh] w w' := by
  have c0 := h.c0
  have c1 := h.c1
  have c2 := h.c2
  have f2 := h.f2
  have ch := h.ch at' hi
  have fh := h.rh.free at' (by rw [List.length_map, h.len]; exact hi)
  have WD := Lib.hid (refWidth h hl at')
  have n2 := h.n2
  have FIN := Lib.hid (fun N y => (h.setN N).setH at' hi y)
  have FIN0 := Lib.hid (fun N => h.setN N)
  obtain ⟨k, hk⟩ : ∃ k, k = widthAt m.ws at' := ⟨_, rfl⟩
  rw [← hk] at WD hw
  try rw [← hk]
  obtain ⟨x, hx⟩ : ∃ x, x = m.hs.getD at' 0 := ⟨_, rfl⟩
  rw [← hx] at ch hh0 hh ⊢
  have CU := Lib.hid (fun W => rcut_any k v hv0 hv W)
  obtain ⟨y, hy⟩ : ∃ y, y = cut k v := ⟨_, rfl⟩
  rw [← hy] at CU ⊢
  clear hy
  obtain ⟨L, hL⟩ : ∃ L, L = m.ws.length := ⟨_, rfl⟩
  obtain ⟨N, hN⟩ : ∃ N, N = m.n := ⟨_, rfl⟩
  rw [← hL] at c0 c1 hl hi
  rw [← hN] at c2 hn0 hn ⊢
  have tw : (k == 0) = false := beq_eq_false_iff_ne.2 hw
  have HX := Lib.hid hx
  clear hx hk hL hN hw h
  go_enter Tryd.func39, Tryd.ntmps39
  go_wp2_with (first | (go_at_call 68; refine WD.out.mono ?_; rintro e w' ⟨rfl, rfl⟩))
  go_region_with (first | (go_at_call 69; refine (CU.out _).mono ?_; rintro e w' ⟨rfl, rfl⟩))
  all_goals go_wp2
  all_goals go_ret2
  all_goals exact ⟨rfl, (FIN.out _ _).drew, (((Only.refl _ _).setCell (Or.inl (by simp)) _).setCell (Or.inl (by simp)) _).drew⟩

set_option maxHeartbeats 1000000 in
set_option maxRecDepth 100000 in
theorem refDo3 {w : World} {b bw bh : Nat} {m : Cells} (h : RefMem w b bw bh m) (hl : m.ws.length < 2147483648) (hn0 : 0 ≤ m.n) (hn : m.n < 9223372036854775807) (at' : Nat) (old v : Int) (hv0 : 0 ≤ v) (hv : v ≤ 18446744073709551615)
    (ho0 : 0 ≤ old) (ho : old ≤ 18446744073709551615) (hh0 : 0 ≤ m.hs.getD at' 0) (hh : m.hs.getD at' 0 ≤ 18446744073709551615) (hi : at' < m.ws.length) (hw : widthAt m.ws at' ≠ 0) :
    Calls Tryd.prog 39 #[.pointer (some ⟨b, 0, none⟩), .int .i64 3, .int .u64 at', .int .u64 old, .int .u64 v] w fun e w' =>
      e = .returned (.tuple #[.int .u64 (m.hs.getD at' 0), .pointer none]) ∧ RefMem w' b bw bh { ws := m.ws, hs := m.hs.set at' (summ (widthAt m.ws at') (m.hs.getD at' 0) v), n := m.n + 1 } ∧ Only [b, bw, bh] w w' := by
  have c0 := h.c0
  have c1 := h.c1
  have c2 := h.c2
  have f2 := h.f2
  have ch := h.ch at' hi
  have fh := h.rh.free at' (by rw [List.length_map, h.len]; exact hi)
  have WD := Lib.hid (refWidth h hl at')
  have n2 := h.n2
  have FIN := Lib.hid (fun N y => (h.setN N).setH at' hi y)
  have FIN0 := Lib.hid (fun N => h.setN N)
  obtain ⟨k, hk⟩ : ∃ k, k = widthAt m.ws at' := ⟨_, rfl⟩
  rw [← hk] at WD hw
  try rw [← hk]
  obtain ⟨x, hx⟩ : ∃ x, x = m.hs.getD at' 0 := ⟨_, rfl⟩
  rw [← hx] at ch hh0 hh ⊢
  have CU := Lib.hid (fun W => rsum_any k x v hh0 hh hv0 hv W)
  obtain ⟨y, hy⟩ : ∃ y, y = summ k x v := ⟨_, rfl⟩
  rw [← hy] at CU ⊢
  clear hy
  obtain ⟨L, hL⟩ : ∃ L, L = m.ws.length := ⟨_, rfl⟩
  obtain ⟨N, hN⟩ : ∃ N, N = m.n := ⟨_, rfl⟩
  rw [← hL] at c0 c1 hl hi
  rw [← hN] at c2 hn0 hn ⊢
  have tw : (k == 0) = false := beq_eq_false_iff_ne.2 hw
  have HX := Lib.hid hx
  clear hx hk hL hN hw h
  go_enter Tryd.func39, Tryd.ntmps39
  go_wp2_with (first | (go_at_call 68; refine WD.out.mono ?_; rintro e w' ⟨rfl, rfl⟩))
  go_region_with (first | (go_at_call 70; refine (CU.out _).mono ?_; rintro e w' ⟨rfl, rfl⟩))
  all_goals go_wp2
  all_goals go_ret2
  all_goals exact ⟨rfl, (FIN.out _ _).drew, (((Only.refl _ _).setCell (Or.inl (by simp)) _).setCell (Or.inl (by simp)) _).drew⟩

set_option maxHeartbeats 1000000 in
set_option maxRecDepth 100000 in
theorem refDo4y {w : World} {b bw bh : Nat} {m : Cells} (h : RefMem w b bw bh m) (hl : m.ws.length < 2147483648) (hn0 : 0 ≤ m.n) (hn : m.n < 9223372036854775807) (at' : Nat) (old v : Int) (hv0 : 0 ≤ v) (hv : v ≤ 18446744073709551615)
    (ho0 : 0 ≤ old) (ho : old ≤ 18446744073709551615) (hh0 : 0 ≤ m.hs.getD at' 0) (hh : m.hs.getD at' 0 ≤ 18446744073709551615) (hi : at' < m.ws.length) (hw : widthAt m.ws at' ≠ 0) (hc : m.hs.getD at' 0 = cut (widthAt m.ws at') old) :
    Calls Tryd.prog 39 #[.pointer (some ⟨b, 0, none⟩), .int .i64 4, .int .u64 at', .int .u64 old, .int .u64 v] w fun e w' =>
      e = .returned (.tuple #[.int .u64 (m.hs.getD at' 0), .pointer none]) ∧ RefMem w' b bw bh { ws := m.ws, hs := m.hs.set at' (cut (widthAt m.ws at') v), n := m.n + 1 } ∧ Only [b, bw, bh] w w' := by
  have c0 := h.c0
  have c1 := h.c1
  have c2 := h.c2
  have f2 := h.f2
  have ch := h.ch at' hi
  have fh := h.rh.free at' (by rw [List.length_map, h.len]; exact hi)
  have WD := Lib.hid (refWidth h hl at')
  have n2 := h.n2
  have FIN := Lib.hid (fun N y => (h.setN N).setH at' hi y)
  have FIN0 := Lib.hid (fun N => h.setN N)
  obtain ⟨k, hk⟩ : ∃ k, k = widthAt m.ws at' := ⟨_, rfl⟩
  rw [← hk] at WD hw
  try rw [← hk]
  rw [← hk] at hc
  obtain ⟨x, hx⟩ : ∃ x, x = m.hs.getD at' 0 := ⟨_, rfl⟩
  rw [← hx] at ch hh0 hh ⊢
  rw [← hx] at hc
  have CU := Lib.hid (fun W => rcut_any k v hv0 hv W)
  obtain ⟨y, hy⟩ : ∃ y, y = cut k v := ⟨_, rfl⟩
  rw [← hy] at CU ⊢
  clear hy
  have CO := Lib.hid (fun W => rcut_any k old ho0 ho W)
  obtain ⟨z, hz⟩ : ∃ z, z = cut k old := ⟨_, rfl⟩
  rw [← hz] at CO hc
  have tz : (x == z) = true := beq_iff_eq.2 hc
  clear hz hc
  obtain ⟨L, hL⟩ : ∃ L, L = m.ws.length := ⟨_, rfl⟩
  obtain ⟨N, hN⟩ : ∃ N, N = m.n := ⟨_, rfl⟩
  rw [← hL] at c0 c1 hl hi
  rw [← hN] at c2 hn0 hn ⊢
  have tw : (k == 0) = false := beq_eq_false_iff_ne.2 hw
  have HX := Lib.hid hx
  clear hx hk hL hN hw h
  go_enter Tryd.func39, Tryd.ntmps39
  go_wp2_with (first | (go_at_call 68; refine WD.out.mono ?_; rintro e w' ⟨rfl, rfl⟩) | (go_at_call 69; refine (CO.out _).mono ?_; rintro e w' ⟨rfl, rfl⟩))
  go_region_with (first | (go_at_call 69; refine (CU.out _).mono ?_; rintro e w' ⟨rfl, rfl⟩))
  all_goals go_wp2
  all_goals go_ret2
  all_goals exact ⟨rfl, (FIN.out _ _).drew, (((Only.refl _ _).setCell (Or.inl (by simp)) _).setCell (Or.inl (by simp)) _).drew⟩

set_option maxHeartbeats 1000000 in
set_option maxRecDepth 100000 in
theorem refDo4n {w : World} {b bw bh : Nat} {m : Cells} (h : RefMem w b bw bh m) (hl : m.ws.length < 2147483648) (hn0 : 0 ≤ m.n) (hn : m.n < 9223372036854775807) (at' : Nat) (old v : Int) (hv0 : 0 ≤ v) (hv : v ≤ 18446744073709551615)
    (ho0 : 0 ≤ old) (ho : old ≤ 18446744073709551615) (hh0 : 0 ≤ m.hs.getD at' 0) (hh : m.hs.getD at' 0 ≤ 18446744073709551615) (hi : at' < m.ws.length) (hw : widthAt m.ws at' ≠ 0) (hc : ¬ m.hs.getD at' 0 = cut (widthAt m.ws at') old) :
    Calls Tryd.prog 39 #[.pointer (some ⟨b, 0, none⟩), .int .i64 4, .int .u64 at', .int .u64 old, .int .u64 v] w fun e w' =>
      e = .returned (.tuple #[.int .u64 (m.hs.getD at' 0), .pointer none]) ∧ RefMem w' b bw bh { ws := m.ws, hs := m.hs.set at' (m.hs.getD at' 0), n := m.n + 1 } ∧ Only [b, bw, bh] w w' := by
  have c0 := h.c0
  have c1 := h.c1
  have c2 := h.c2
  have f2 := h.f2
  have ch := h.ch at' hi
  have fh := h.rh.free at' (by rw [List.length_map, h.len]; exact hi)
  have WD := Lib.hid (refWidth h hl at')
  have n2 := h.n2
  have FIN := Lib.hid (fun N y => (h.setN N).setH at' hi y)
  have FIN0 := Lib.hid (fun N => h.setN N)
  obtain ⟨k, hk⟩ : ∃ k, k = widthAt m.ws at' := ⟨_, rfl⟩
  rw [← hk] at WD hw
  try rw [← hk]
  rw [← hk] at hc
  obtain ⟨x, hx⟩ : ∃ x, x = m.hs.getD at' 0 := ⟨_, rfl⟩
  rw [← hx] at ch hh0 hh ⊢
  rw [← hx] at hc
  have CO := Lib.hid (fun W => rcut_any k old ho0 ho W)
  obtain ⟨z, hz⟩ : ∃ z, z = cut k old := ⟨_, rfl⟩
  rw [← hz] at CO hc
  have tz : (x == z) = false := beq_eq_false_iff_ne.2 hc
  clear hz hc
  obtain ⟨L, hL⟩ : ∃ L, L = m.ws.length := ⟨_, rfl⟩
  obtain ⟨N, hN⟩ : ∃ N, N = m.n := ⟨_, rfl⟩
  rw [← hL] at c0 c1 hl hi
  rw [← hN] at c2 hn0 hn ⊢
  have tw : (k == 0) = false := beq_eq_false_iff_ne.2 hw
  have HX := Lib.hid hx
  clear hx hk hL hN hw h
  go_enter Tryd.func39, Tryd.ntmps39
  go_wp2_with (first | (go_at_call 68; refine WD.out.mono ?_; rintro e w' ⟨rfl, rfl⟩) | (go_at_call 69; refine (CO.out _).mono ?_; rintro e w' ⟨rfl, rfl⟩))
  go_ret2
  refine ⟨rfl, ?_, (Only.refl _ _).setCell (Or.inl (by simp)) _⟩
  have hs : m.hs.set at' x = m.hs := by rw [HX.out]; exact set_self _ _
  rw [hs]
  exact FIN0.out _
end Go.Proofs.YtobbmhboahognaaDoor
