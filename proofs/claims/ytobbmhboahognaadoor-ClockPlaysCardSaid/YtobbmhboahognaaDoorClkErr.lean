/- The clock's Arm where it is refused or does nothing, Deadline and Disarm (layer 8). -/
import Derived.Test.YtobbmhboahognaaDoorClkArm
import Derived.Test.YtobbmhboahognaaDoorHeapSpecD
import Derived.Test.YtobbmhboahognaaDoorSameAt
namespace Go.Proofs.YtobbmhboahognaaDoor
open Go.RowKit
set_option linter.unusedVariables false

def clockS : ByteArray := ⟨#[99, 108, 111, 99, 107]⟩
/-- An error of the clock's, in a block of its own. -/
def CFault (k : Int) (W : World) (e : Ending) (w' : World) : Prop := ∃ q, e = .returned (.iface 108 (.pointer (some ⟨q, 0, none⟩))) ∧ W.heap.size ≤ q ∧ ErrBlk w' q clockS 0 k ∧ Below W.heap.size W w'
set_option maxHeartbeats 400000 in
theorem cfault_any (k : Int) (w : World) : Calls Tryd.prog 60 #[.int .i64 k] w (CFault k w) := by
  have FIN := Lib.hid (ErrBlk.new w clockS 0 k)
  have HB := Lib.hid (show Below w.heap.size w (w.alloc (.cells #[.string clockS, .int .i64 0, .iface 55 (.int .i64 k)] 112)) from (Below.refl _ _).alloc (Nat.le_refl _) _)
  go_enter Tryd.func60, Tryd.ntmps60
  go_wp2
  go_ret
  exact ⟨_, rfl, Nat.le_refl _, FIN.out, HB.out⟩
section
variable {W : World} {F : List Nat} {b : Nat} {now : Int} {S : List Itm} {last m : Nat}
set_option maxHeartbeats 1000000 in
set_option maxRecDepth 100000 in
theorem clkArm_zero (b : Nat) (d : Int) (W : World) : Calls Tryd.prog 29 #[.pointer (some ⟨b, 0, none⟩), .int .u64 0, .int .u64 d] W (CFault 1 W) := by
  have FA := Lib.hid (cfault_any 1)
  go_enter Tryd.func29, Tryd.ntmps29
  go_wp2_with (go_at_call 60; refine (FA.out _).mono ?_; rintro e w' ⟨q, rfl, h1, h2, h3⟩)
  go_ret
  exact ⟨_, rfl, h1, h2, h3⟩
set_option maxHeartbeats 2000000 in
set_option maxRecDepth 100000 in
theorem clkArm_state (h : ClockAt W F b now S last m) (id d : Int) (hid : (Lit.int .u64 id).wf = true) (h0 : id ≠ 0) {x : Itm} (hx : x ∈ S) (hxw : x.w = id) : Calls Tryd.prog 29 #[.pointer (some ⟨b, 0, none⟩), .int .u64 id, .int .u64 d] W (CFault 8 W) := by
  obtain ⟨qb, mb, N, mc, v, c, cc, k, rfl, hP, hwd, _⟩ := h
  have lk := hP.al.look id hid
  rw [← hxw, fOf_mem hwd hx, hxw] at lk
  have lk' : (Instr.lookup 120 (.map (some mc)) (.int .u64 id) true).run Tryd.prog W = .ok (.tuple #[.agg #[.int .i64 x.h, .int .u64 x.d], .bool true]) W := lk
  have c2 := hP.c2
  have hbl := hP.row.lt
  have hne : (id == 0) = false := by simpa using h0
  have FA := Lib.hid (cfault_any 8)
  have HB := Lib.hid (show Below W.heap.size W (W.alloc (.cells #[.int .i64 x.h, .int .u64 x.d] 124)) from (Below.refl _ _).alloc (Nat.le_refl _) _)
  clear hP hwd lk hid hx hxw h0
  go_enter Tryd.func29, Tryd.ntmps29
  go_wp2_with (go_at_call 60; refine (FA.out _).mono ?_; rintro e w' ⟨q, rfl, h1, h2, h3⟩)
  go_ret
  exact ⟨_, rfl, Nat.le_trans HB.out.size h1, h2, HB.out.trans (h3.mono HB.out.size)⟩
set_option maxHeartbeats 2000000 in
set_option maxRecDepth 100000 in
theorem clkArm_forever (h : ClockAt W F b now S last m) (id : Int) (hid : (Lit.int .u64 id).wf = true) (h0 : id ≠ 0) (hn : ∀ x ∈ S, x.w ≠ id) : Calls Tryd.prog 29 #[.pointer (some ⟨b, 0, none⟩), .int .u64 id, .int .u64 18446744073709551615] W fun e w' => e = .returned .nilIface ∧ Below W.heap.size W w' := by
  obtain ⟨qb, mb, N, mc, v, c, cc, k, rfl, hP, hwd, _⟩ := h
  have lk := hP.al.look id hid
  rw [fOf_none hn] at lk
  have lk' : (Instr.lookup 120 (.map (some mc)) (.int .u64 id) true).run Tryd.prog W = .ok (.tuple #[.agg #[.int .i64 0, .int .u64 0], .bool false]) W := lk
  have c2 := hP.c2
  have hbl := hP.row.lt
  have hne : (id == 0) = false := by simpa using h0
  have HB := Lib.hid (show Below W.heap.size W (W.alloc (.cells #[.int .i64 0, .int .u64 0] 124)) from (Below.refl _ _).alloc (Nat.le_refl _) _)
  clear hP hwd lk hid h0 hn
  go_enter Tryd.func29, Tryd.ntmps29
  go_wp2_with fail
  go_ret
  exact ⟨rfl, HB.out⟩
/-- What is said of an id. -/
def dlV (S : List Itm) (id : Int) : Value := .tuple #[.int .u64 ((fOf S id).getD (0, 0)).2, .bool (fOf S id).isSome]
set_option maxHeartbeats 2000000 in
set_option maxRecDepth 100000 in
theorem clkDeadline (h : ClockAt W F b now S last m) (id : Int) (hid : (Lit.int .u64 id).wf = true) : Calls Tryd.prog 24 #[.pointer (some ⟨b, 0, none⟩), .int .u64 id] W fun e w' => e = .returned (dlV S id) ∧ Below W.heap.size W w' := by
  obtain ⟨qb, mb, N, mc, v, c, cc, k, rfl, hP, hwd, _⟩ := h
  have lk := hP.al.look id hid
  unfold dlV
  obtain ⟨p, hp⟩ : ∃ p, p = (fOf S id).getD (0, 0) := ⟨_, rfl⟩
  obtain ⟨is, his⟩ : ∃ is, is = (fOf S id).isSome := ⟨_, rfl⟩
  rw [← hp, ← his] at lk ⊢
  obtain ⟨p1, p2⟩ := p
  dsimp only at lk ⊢
  have c2 := hP.c2
  have hbl := hP.row.lt
  have HB := Lib.hid (show Below W.heap.size W (W.alloc (.cells #[.int .i64 p1, .int .u64 p2] 124)) from (Below.refl _ _).alloc (Nat.le_refl _) _)
  clear hP hwd hid hp his
  go_enter Tryd.func24, Tryd.ntmps24
  go_wp2_with fail
  go_ret2
  exact ⟨rfl, HB.out⟩
set_option maxHeartbeats 2000000 in
set_option maxRecDepth 100000 in
theorem clkDisarm_no (h : ClockAt W F b now S last m) (id : Int) (hid : (Lit.int .u64 id).wf = true) (hn : ∀ x ∈ S, x.w ≠ id) : Calls Tryd.prog 22 #[.pointer (some ⟨b, 0, none⟩), .int .u64 id] W fun e w' => e = .returned (.bool false) ∧ Below W.heap.size W w' := by
  obtain ⟨qb, mb, N, mc, v, c, cc, k, rfl, hP, hwd, _⟩ := h
  have lk := hP.al.look id hid
  rw [fOf_none hn] at lk
  have lk' : (Instr.lookup 120 (.map (some mc)) (.int .u64 id) true).run Tryd.prog W = .ok (.tuple #[.agg #[.int .i64 0, .int .u64 0], .bool false]) W := lk
  have c2 := hP.c2
  have hbl := hP.row.lt
  have HB := Lib.hid (show Below W.heap.size W (W.alloc (.cells #[.int .i64 0, .int .u64 0] 124)) from (Below.refl _ _).alloc (Nat.le_refl _) _)
  clear hP hwd lk hid hn
  go_enter Tryd.func22, Tryd.ntmps22
  go_wp2_with fail
  go_ret
  exact ⟨rfl, HB.out⟩
end
end Go.Proofs.YtobbmhboahognaaDoor
