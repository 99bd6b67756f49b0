/- The program's word on one instruction (layer 6): the contract of strike, over the box of an instruction. -/
import Derived.Test.YtobbmhboahognaaDoorVmPlain
import Derived.Test.YtobbmhboahognaaDoorProg
import Derived.WalkKit
import Derived.WalkSpells
import Derived.WalkLawsBesides
import Derived.Lib.Hide
namespace Go.Proofs.YtobbmhboahognaaDoor
open Go.RowKit
set_option linter.unusedVariables false

/-- The box X of an instruction, in a world of which nothing that was in w has turned. -/
structure IBox (w W : World) (X : Nat) (op a b c v m wh : Int) : Prop where
  r : Row W X [.int .i64 op, .int .i64 a, .int .i64 b, .int .i64 c, .int .u64 v, .int .i64 m, .int .i64 wh]
  b : Below w.heap.size w W
  x : w.heap.size ≤ X
theorem IBox.new (w : World) (op a b c v m wh : Int) : IBox w (w.alloc (.cells #[.int .i64 op, .int .i64 a, .int .i64 b, .int .i64 c, .int .u64 v, .int .i64 m, .int .i64 wh] 52)) w.heap.size op a b c v m wh :=
  ⟨Row.new w _ _, (Below.refl _ _).alloc (Nat.le_refl _) _, Nat.le_refl _⟩
theorem IBox.cells {w W : World} {X : Nat} {op a b c v m wh : Int} (h : IBox w W X op a b c v m wh) :
    W.cell? ⟨X, 0, none⟩ = some (.int .i64 op) ∧ W.cell? ⟨X, 1, none⟩ = some (.int .i64 a) ∧ W.cell? ⟨X, 2, none⟩ = some (.int .i64 b) ∧ W.cell? ⟨X, 3, none⟩ = some (.int .i64 c) ∧ W.cell? ⟨X, 4, none⟩ = some (.int .u64 v) ∧
    W.cell? ⟨X, 5, none⟩ = some (.int .i64 m) ∧ W.cell? ⟨X, 6, none⟩ = some (.int .i64 wh) :=
  ⟨h.r.cell 0 (by simp), h.r.cell 1 (by simp), h.r.cell 2 (by simp), h.r.cell 3 (by simp), h.r.cell 4 (by simp), h.r.cell 5 (by simp), h.r.cell 6 (by simp)⟩
theorem IBox.free {w W : World} {X : Nat} {op a b c v m wh : Int} (h : IBox w W X op a b c v m wh) (j : Nat) (hj : j < 7) : W.frozen? ⟨X, j, none⟩ = false := h.r.free j (by simpa using hj)
theorem IBox.setA {w W : World} {X : Nat} {op a b c v m wh : Int} (h : IBox w W X op a b c v m wh) (y : Int) : IBox w (W.setCell ⟨X, 1, none⟩ (.int .i64 y)) X op y b c v m wh :=
  ⟨h.r.set 1 (by simp) _, h.b.setCell h.x _, h.x⟩
theorem IBox.setB {w W : World} {X : Nat} {op a b c v m wh : Int} (h : IBox w W X op a b c v m wh) (y : Int) : IBox w (W.setCell ⟨X, 2, none⟩ (.int .i64 y)) X op a y c v m wh :=
  ⟨h.r.set 2 (by simp) _, h.b.setCell h.x _, h.x⟩
theorem IBox.setC {w W : World} {X : Nat} {op a b c v m wh : Int} (h : IBox w W X op a b c v m wh) (y : Int) : IBox w (W.setCell ⟨X, 3, none⟩ (.int .i64 y)) X op a b y v m wh :=
  ⟨h.r.set 3 (by simp) _, h.b.setCell h.x _, h.x⟩
theorem IBox.setV {w W : World} {X : Nat} {op a b c v m wh : Int} (h : IBox w W X op a b c v m wh) (y : Int) : IBox w (W.setCell ⟨X, 4, none⟩ (.int .u64 y)) X op a b c y m wh :=
  ⟨h.r.set 4 (by simp) _, h.b.setCell h.x _, h.x⟩

set_option maxHeartbeats 1000000 in
theorem strike_raw (p : Addr) (n : Int) (W : World) (hc : W.cell? p = some (.int .i64 n)) (hf : W.frozen? p = false) :
    Calls Tryd.prog 71 #[.pointer (some p)] W fun e W' => e = .returned (.tuple #[]) ∧ W' = if regB n then W.setCell p (.int .i64 0) else W := by
  by_cases h : regB n = true
  · rw [if_pos h]
    have h0 : 0 ≤ n := by simp [regB] at h; omega
    have h1 : n < 32 := by simp [regB] at h; omega
    clear h
    go_enter Tryd.func71, Tryd.ntmps71
    go_wp2
    go_end0
    exact ⟨rfl, rfl⟩
  · rw [if_neg h]
    by_cases h0 : 0 ≤ n
    · have h1 : ¬ n < 32 := by simp [regB] at h; omega
      clear h
      go_enter Tryd.func71, Tryd.ntmps71
      go_wp2
      go_end0
      exact ⟨rfl, rfl⟩
    · clear h
      go_enter Tryd.func71, Tryd.ntmps71
      go_wp2
      go_end0
      exact ⟨rfl, rfl⟩
end Go.Proofs.YtobbmhboahognaaDoor
