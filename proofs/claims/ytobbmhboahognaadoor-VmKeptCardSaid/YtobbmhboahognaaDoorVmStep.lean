/- A step (layer 6): contracts of Step where it goes wrong at once, where it only reckons, and where it jumps. The conditions: the frame and the code lie there; what they hold are words. -/
import Derived.Test.YtobbmhboahognaaDoorVmResult
import Derived.Test.YtobbmhboahognaaDoorVmValid
import Derived.Test.YtobbmhboahognaaDoorInsIn
import Derived.RegionTactic
import Derived.BigRegion
namespace Go.Proofs.YtobbmhboahognaaDoor
open Go.RowKit
set_option linter.unusedVariables false

/-- What a step wants: the frame's place is in the code. -/
structure StepIn (w : World) (b : Nat) (N : List Nat) (f : Frm) (A : Option Addr) (cap : Nat) (C : Option Addr) (l : List Inst) (k : Nat) (x : Inst) : Prop where
  fr : FrameIn w b N f A cap
  ok : FrmOk f
  code : InsIn w C l
  pc : f.pc = k
  lt : k < l.length
  ll : l.length ≤ 4611686018427387904
  at' : l.getD k inst0 = x
  cok : InsOk x
theorem StepIn.below {w w' : World} {b : Nat} {N : List Nat} {f : Frm} {A : Option Addr} {cap : Nat} {C : Option Addr} {l : List Inst} {k : Nat} {x : Inst} (h : StepIn w b N f A cap C l k x) (hb : Below w.heap.size w w') : StepIn w' b N f A cap C l k x :=
  ⟨h.fr.below hb, h.ok, h.code.below hb, h.pc, h.lt, h.ll, h.at', h.cok⟩
/-- The instruction's cells, as the call at its place asks for them. -/
theorem StepIn.cells {w : World} {b : Nat} {N : List Nat} {f : Frm} {A : Option Addr} {cap : Nat} {C : Option Addr} {l : List Inst} {k : Nat} {x : Inst} (h : StepIn w b N f A cap C l k x) : ∃ p, C = some p ∧ p.block < w.heap.size ∧ InsAt w (p.add (k * 7)) x := by
  have := h.code k h.lt; rw [h.at'] at this; exact this
/-- The box of the instruction, beside what the step wants. -/
structure SBox (w W : World) (X b : Nat) (N : List Nat) (f : Frm) (A : Option Addr) (cap : Nat) (C : Option Addr) (l : List Inst) (k : Nat) (x : Inst) : Prop where
  r : RBox w W X b N f A cap x.op x.a x.b x.c x.v x.m x.wh
  s : StepIn W b N f A cap C l k x
  bx : b < X
def WrongPost (how : Int) (w : World) (e : Ending) (w' : World) : Prop := e = .returned (.tuple #[.int .i64 how, .nilIface]) ∧ Below w.heap.size w w'

set_option maxHeartbeats 1000000 in
set_option maxRecDepth 100000 in
theorem step_nil (C : Option Addr) (n cap : Nat) (M : Value) (w : World) : Calls Tryd.prog 12 #[.pointer none, .slice C n cap, M] w (WrongPost 3 w) := by
  go_enter Tryd.func12, Tryd.ntmps12
  go_wp2_with fail
  go_ret2
  exact ⟨rfl, Below.refl _ _⟩
set_option maxHeartbeats 1000000 in
set_option maxRecDepth 100000 in
theorem step_out {w : World} {b : Nat} {N : List Nat} {f : Frm} {A : Option Addr} {cap : Nat} (h : FrameIn w b N f A cap) (C : Option Addr) (n capC : Nat) (M : Value) (ho : f.pc < 0 ∨ (n : Int) ≤ f.pc) :
    Calls Tryd.prog 12 #[.pointer (some ⟨b, 0, none⟩), .slice C n capC, M] w (WrongPost 3 w) := by
  have c := h.pc
  generalize f.pc = pc at c ho
  clear h
  by_cases h0 : pc < 0
  · clear ho
    go_enter Tryd.func12, Tryd.ntmps12
    go_wp2_with fail
    go_ret2
    exact ⟨rfl, Below.refl _ _⟩
  · have h1 : (n : Int) ≤ pc := by omega
    clear ho
    go_enter Tryd.func12, Tryd.ntmps12
    go_wp2_with fail
    go_ret2
    exact ⟨rfl, Below.refl _ _⟩
set_option maxHeartbeats 2000000 in
set_option maxRecDepth 100000 in
theorem step_bad {w : World} {b : Nat} {N : List Nat} {f : Frm} {A : Option Addr} {cap : Nat} {C : Option Addr} {l : List Inst} {k : Nat} {x : Inst} (h : StepIn w b N f A cap C l k x) (hx : okB x l.length = false) (capC : Nat) (M : Value) :
    Calls Tryd.prog 12 #[.pointer (some ⟨b, 0, none⟩), .slice C l.length capC, M] w (WrongPost 3 w) := by
  have c := h.fr.pc
  rw [h.pc] at c
  obtain ⟨p, rfl, hp, c0, c1, c2, c3, c4, c5, c6⟩ := h.cells
  have lt := h.lt
  have ll := h.ll
  have VA := Lib.hid (fun W => vvalid_any x.op x.a x.b x.c x.v x.m x.wh l.length (by omega) (by omega) h.cok.1 h.cok.2 W)
  rw [show (⟨x.op, x.a, x.b, x.c, x.v, x.m, x.wh⟩ : Inst) = x from rfl, hx] at VA
  obtain ⟨n, hn⟩ : ∃ n, n = l.length := ⟨_, rfl⟩
  rw [← hn] at VA lt ll ⊢
  clear h hp hx hn
  go_enter Tryd.func12, Tryd.ntmps12
  go_wp2_with fail
  go_at_call 41
  refine (VA.out _).mono ?_
  rintro e w1 ⟨rfl, hb⟩
  have HB := Lib.hid hb
  clear hb
  go_wp2_with fail
  go_ret2
  exact ⟨rfl, HB.out⟩
end Go.Proofs.YtobbmhboahognaaDoor
