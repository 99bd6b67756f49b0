/- The program's memory (layer 2): contracts of Unmap: which error, or how the memory lies behind it. The conditions: the memory lies there, with fewer than 2^31 cells. -/
import Derived.Test.YtlodelcenejfhaaDoorMemSet
namespace Go.Proofs.YtlodelcenejfhaaDoor
open Go.RowKit
set_option linter.unusedVariables false

set_option maxHeartbeats 1000000 in
theorem memUnmap_arg (p : Value) (a n : Int) (h : n < 1) (w : World) :
    Calls Tryd.prog 20 #[p, .int .i64 a, .int .i64 n] w (FaultPost 0 1 w) := by
  have FA := Lib.hid (fun W => fault_any 1 0 W)
  go_enter Tryd.func20, Tryd.ntmps20
  go_wp2_with (go_at_call 34; refine (FA.out _).mono ?_; rintro e w' ⟨rfl, rfl⟩)
  go_ret
  exact ⟨rfl, rfl⟩

set_option maxHeartbeats 1000000 in
theorem memUnmap_addr {w : World} {b bc : Nat} {m : Cells} {t : Int} (h : MemAt w b bc m t) (hl : m.ws.length < 2147483648) (a n : Int) (h1 : 1 ≤ n) (hn : n ≤ 9223372036854775807) (ha : a ≤ 9223372036854775807) (hin : a < 0 ∨ (m.ws.length : Int) - a < n) :
    Calls Tryd.prog 20 #[.pointer (some ⟨b, 0, none⟩), .int .i64 a, .int .i64 n] w (FaultPost a 2 w) := by
  have CH := Lib.hid (check_addr h hl a n true hn ha hin)
  clear hin h hl
  go_enter Tryd.func20, Tryd.ntmps20
  go_wp2_with (go_at_call 41; refine CH.out.mono ?_; rintro e w' ⟨rfl, rfl⟩)
  go_ret
  exact ⟨rfl, rfl⟩
set_option maxHeartbeats 1000000 in
theorem memUnmap_block {w : World} {b bc : Nat} {m : Cells} {t : Int} (h : MemAt w b bc m t) (hl : m.ws.length < 2147483648) (a c : Nat) (hc : 1 ≤ c) (hac : a + c ≤ m.ws.length) (i0 : Nat) (hf : firstZ m.ws a c = some i0) :
    Calls Tryd.prog 20 #[.pointer (some ⟨b, 0, none⟩), .int .i64 a, .int .i64 c] w (FaultPost i0 4 w) := by
  have CH := Lib.hid (check_unmap h hl a c hac i0 hf)
  clear hf h hl hac
  go_enter Tryd.func20, Tryd.ntmps20
  go_wp2_with (go_at_call 41; refine CH.out.mono ?_; rintro e w' ⟨rfl, rfl⟩)
  go_ret
  exact ⟨rfl, rfl⟩

set_option maxHeartbeats 1000000 in
/-- Unmap where all of the cells are mapped. -/
theorem memUnmap_done {w : World} {b bc : Nat} {m : Cells} {t : Int} (h : MemAt w b bc m t) (hl : m.ws.length < 2147483648) (a c : Nat) (hc : 1 ≤ c) (hac : a + c ≤ m.ws.length) (hf : firstZ m.ws a c = none) (ht0 : 0 ≤ t) (ht1 : t ≤ 2147483648) :
    Calls Tryd.prog 20 #[.pointer (some ⟨b, 0, none⟩), .int .i64 a, .int .i64 c] w fun e w' => e = .returned .nilIface ∧
      MemAt w' b bc { ws := fillIn 0 m.ws a c, hs := fillIn 0 m.hs a c, n := m.n } (t - c) ∧ Only [b, bc] w w' := by
  have CH := Lib.hid (check_unmapped h hl a c hac hf)
  have SE := Lib.hid (setAll_any h hl a c 0 hac)
  have hcl : (c : Int) ≤ 2147483648 := by omega
  clear hf h hl hac
  go_enter Tryd.func20, Tryd.ntmps20
  go_wp2_with (first | (go_at_call 41; refine CH.out.mono ?_; rintro e w' ⟨rfl, rfl⟩) | (go_at_call 42; refine SE.out.mono ?_; rintro e w1 ⟨rfl, hm, ho⟩; have c1 := hm.c1; have f1 := hm.f1; have HM := Lib.hid hm; clear hm))
  go_ret
  exact ⟨rfl, HM.out.setT _, (ho.mono (by simp)).setCell (Or.inl (by simp)) _⟩

set_option maxHeartbeats 400000 in
theorem memThere {w : World} {b bc : Nat} {m : Cells} {t : Int} (h : MemAt w b bc m t) :
    Calls Tryd.prog 25 #[.pointer (some ⟨b, 0, none⟩)] w fun e w' => e = .returned (.int .i64 t) ∧ w = w' := by
  have c1 := h.c1
  clear h
  go_enter Tryd.func25, Tryd.ntmps25
  go_wp2
  go_ret
  exact ⟨rfl, rfl⟩
end Go.Proofs.YtlodelcenejfhaaDoor
