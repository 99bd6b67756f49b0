/- The program's word on one instruction (layer 4): the contract of valid. -/
import Derived.Test.YtneajiglkiffjaaGreatDoorCodeParts
import Derived.Test.YtneajiglkiffjaaGreatDoorCodeRow
import Derived.Deep.CutRange
import Derived.Deep.DeepCutAuto
import Derived.Deep.CutBlock
import Derived.Deep.Light
namespace Go.Proofs.YtneajiglkiffjaaGreatDoor
open Go.RowKit
set_option linter.unusedVariables false

/-- The boxes of an instruction and of its row, in a world of which nothing old has turned. -/
structure VBox (w W : World) (X Y : Nat) (xs rs : List Value) : Prop where
  b : Below w.heap.size w W
  x : Row W X xs
  r : Row W Y rs
theorem VBox.below {w W W' : World} {X Y : Nat} {xs rs : List Value} (h : VBox w W X Y xs rs) (hb : Below W.heap.size W W') : VBox w W' X Y xs rs := ⟨h.b.trans (hb.mono h.b.size), h.x.below hb h.x.lt, h.r.below hb h.r.lt⟩
theorem VBox.cells {w W : World} {X Y : Nat} {op a b c v m wh vk : Int} {A B C NoB NoC : Bool} (h : VBox w W X Y [.int .i64 op, .int .i64 a, .int .i64 b, .int .i64 c, .int .u64 v, .int .i64 m, .int .i64 wh] [.bool A, .bool B, .bool C, .bool NoB, .bool NoC, .int .i64 vk]) :
    (W.cell? ⟨X, 0, none⟩ = some (.int .i64 op) ∧ W.cell? ⟨X, 1, none⟩ = some (.int .i64 a) ∧ W.cell? ⟨X, 2, none⟩ = some (.int .i64 b) ∧ W.cell? ⟨X, 3, none⟩ = some (.int .i64 c) ∧ W.cell? ⟨X, 4, none⟩ = some (.int .u64 v) ∧ W.cell? ⟨X, 5, none⟩ = some (.int .i64 m) ∧ W.cell? ⟨X, 6, none⟩ = some (.int .i64 wh)) ∧
    W.cell? ⟨Y, 0, none⟩ = some (.bool A) ∧ W.cell? ⟨Y, 1, none⟩ = some (.bool B) ∧ W.cell? ⟨Y, 2, none⟩ = some (.bool C) ∧ W.cell? ⟨Y, 3, none⟩ = some (.bool NoB) ∧ W.cell? ⟨Y, 4, none⟩ = some (.bool NoC) ∧ W.cell? ⟨Y, 5, none⟩ = some (.int .i64 vk) :=
  ⟨⟨h.x.cell 0 (by simp), h.x.cell 1 (by simp), h.x.cell 2 (by simp), h.x.cell 3 (by simp), h.x.cell 4 (by simp), h.x.cell 5 (by simp), h.x.cell 6 (by simp)⟩, h.r.cell 0 (by simp), h.r.cell 1 (by simp), h.r.cell 2 (by simp), h.r.cell 3 (by simp), h.r.cell 4 (by simp), h.r.cell 5 (by simp)⟩

section
variable (op a b c v m wh vk n : Int) (A B C NoB NoC Is lib q1 q2 q3 q4 : Bool)
set_option maxHeartbeats 4000000 in
theorem valid_walk (w : World)
    (RW : ∀ W, Calls Tryz.prog 79 #[.int .i64 op] W fun e w' => e = .returned (.tuple #[rowV A B C NoB NoC vk, .bool Is]) ∧ Below W.heap.size W w')
    (MS : ∀ W, Calls Tryz.prog 80 #[insV op a b c v m wh, .bool lib] W fun e w' => e = .returned (.bool q1) ∧ Below W.heap.size W w')
    (HR : ∀ W, Calls Tryz.prog 81 #[rowV A B C NoB NoC vk, insV op a b c v m wh] W fun e w' => e = .returned (.bool q2) ∧ Below W.heap.size W w')
    (HN : ∀ W, Calls Tryz.prog 82 #[rowV A B C NoB NoC vk, insV op a b c v m wh, .int .i64 n] W fun e w' => e = .returned (.bool q3) ∧ Below W.heap.size W w')
    (HM : ∀ W, Calls Tryz.prog 83 #[rowV A B C NoB NoC vk, insV op a b c v m wh] W fun e w' => e = .returned (.bool q4) ∧ Below W.heap.size W w') :
    Calls Tryz.prog 58 #[insV op a b c v m wh, .int .i64 n, .bool lib] w fun e w' => e = .returned (.bool (Is && (q1 && q2 && q3 && q4))) ∧ Below w.heap.size w w' := by
  have RW' := Lib.hid RW
  have MS' := Lib.hid MS
  have HR' := Lib.hid HR
  have HN' := Lib.hid HN
  have HM' := Lib.hid HM
  have rx := Lib.hid (Row.new w [.int .i64 op, .int .i64 a, .int .i64 b, .int .i64 c, .int .u64 v, .int .i64 m, .int .i64 wh] 44)
  have hbx := Lib.hid (below_alloc1 w (.cells #[.int .i64 op, .int .i64 a, .int .i64 b, .int .i64 c, .int .u64 v, .int .i64 m, .int .i64 wh] 44))
  obtain ⟨R, hR⟩ : ∃ R, R = (Is && (q1 && q2 && q3 && q4)) := ⟨_, rfl⟩
  rw [← hR]
  clear RW MS HR HN HM
  go_enter Tryz.func58, Tryz.ntmps58
  go_wp2_with fail
  go_at_call 79
  refine (RW'.out _).mono ?_
  rintro e w1 ⟨rfl, hb⟩
  have VB := Lib.hid (show VBox w (w1.alloc (.cells #[.bool A, .bool B, .bool C, .bool NoB, .bool NoC, .int .i64 vk] 152)) w.heap.size w1.heap.size [.int .i64 op, .int .i64 a, .int .i64 b, .int .i64 c, .int .u64 v, .int .i64 m, .int .i64 wh] [.bool A, .bool B, .bool C, .bool NoB, .bool NoC, .int .i64 vk] from
    have hh := hbx.out.trans (hb.mono hbx.out.size)
    ⟨hh.alloc hh.size _, (rx.out.below hb rx.out.lt).alloc _, Row.new w1 _ _⟩)
  clear hb
  go_upto_region 2 with fail
  obtain ⟨W, hW⟩ : ∃ W, W = w1.alloc (.cells #[.bool A, .bool B, .bool C, .bool NoB, .bool NoC, .int .i64 vk] 152) := ⟨_, rfl⟩
  obtain ⟨X, hX⟩ : ∃ X, X = w.heap.size := ⟨_, rfl⟩
  obtain ⟨Y, hY⟩ : ∃ Y, Y = w1.heap.size := ⟨_, rfl⟩
  rw [← hW, ← hX, ← hY] at VB
  simp only [← hW, ← hX, ← hY]
  clear hW hX hY rx hbx
  obtain ⟨⟨x0, x1, x2, x3, x4, x5, x6⟩, y0, y1, y2, y3, y4, y5⟩ := VB.out.cells
  cases Is with
  | false =>
    obtain rfl : R = false := hR
    go_wp2_with fail
    go_ret
    exact ⟨rfl, VB.out.b⟩
  | true =>
  go_wp2_with fail
  go_at_call 80
  refine (MS'.out _).mono ?_
  rintro e w2 ⟨rfl, hb⟩
  have VB2 := Lib.hid (VB.out.below hb)
  clear x0 x1 x2 x3 x4 x5 x6 y0 y1 y2 y3 y4 y5 hb
  obtain ⟨⟨x0, x1, x2, x3, x4, x5, x6⟩, y0, y1, y2, y3, y4, y5⟩ := VB2.out.cells
  cases q1 with
  | false =>
    obtain rfl : R = false := hR
    go_wp2_with fail
    go_ret
    exact ⟨rfl, VB2.out.b⟩
  | true =>
  go_wp2_with fail
  go_at_call 81
  refine (HR'.out _).mono ?_
  rintro e w3 ⟨rfl, hb⟩
  have VB3 := Lib.hid (VB2.out.below hb)
  clear x0 x1 x2 x3 x4 x5 x6 y0 y1 y2 y3 y4 y5 hb
  obtain ⟨⟨x0, x1, x2, x3, x4, x5, x6⟩, y0, y1, y2, y3, y4, y5⟩ := VB3.out.cells
  cases q2 with
  | false =>
    obtain rfl : R = false := hR
    go_wp2_with fail
    go_ret
    exact ⟨rfl, VB3.out.b⟩
  | true =>
  go_wp2_with fail
  go_at_call 82
  refine (HN'.out _).mono ?_
  rintro e w4 ⟨rfl, hb⟩
  have VB4 := Lib.hid (VB3.out.below hb)
  clear x0 x1 x2 x3 x4 x5 x6 y0 y1 y2 y3 y4 y5 hb
  obtain ⟨⟨x0, x1, x2, x3, x4, x5, x6⟩, y0, y1, y2, y3, y4, y5⟩ := VB4.out.cells
  cases q3 with
  | false =>
    obtain rfl : R = false := hR
    go_wp2_with fail
    go_ret
    exact ⟨rfl, VB4.out.b⟩
  | true =>
  go_wp2_with fail
  go_at_call 83
  refine (HM'.out _).mono ?_
  rintro e w5 ⟨rfl, hb⟩
  have VB5 := Lib.hid (VB4.out.below hb)
  clear x0 x1 x2 x3 x4 x5 x6 y0 y1 y2 y3 y4 y5 hb
  go_wp2_with fail
  go_ret
  exact ⟨by rw [hR]; simp, VB5.out.b⟩
end

theorem vOf_range (op : Int) : vOf op = 0 ∨ vOf op = 1 ∨ vOf op = 2 ∨ vOf op = 3 ∨ vOf op = 4 := by
  unfold vOf
  split
  · simp
  split
  · simp
  split
  · simp
  split
  · simp
  split <;> simp
/-- May an instruction be, in a code of n? -/
theorem valid_any (op a b c v m wh n : Int) (hn : 1 ≤ n) (hn1 : n ≤ 9223372036854775807) (hv : 0 ≤ v ∧ v ≤ 18446744073709551615) (lib : Bool) (w : World) :
    Calls Tryz.prog 58 #[insV op a b c v m wh, .int .i64 n, .bool lib] w fun e w' => e = .returned (.bool (rightB ⟨op, a, b, c, v, m, wh⟩ n lib)) ∧ Below w.heap.size w w' := by
  have hq : ((shapeOf op).Is && (pSide ⟨op, a, b, c, v, m, wh⟩ lib && pRegs (shapeOf op) ⟨op, a, b, c, v, m, wh⟩ && pNum (vOf op) ⟨op, a, b, c, v, m, wh⟩ n && pMark (shapeOf op) ⟨op, a, b, c, v, m, wh⟩)) = rightB ⟨op, a, b, c, v, m, wh⟩ n lib := by
    cases hI : (shapeOf op).Is with
    | true => rw [Bool.true_and]; exact valid_eq ⟨op, a, b, c, v, m, wh⟩ n lib hn hv hI
    | false => rw [Bool.false_and]; exact (valid_is ⟨op, a, b, c, v, m, wh⟩ n lib hI).symm
  rw [← hq]
  exact valid_walk op a b c v m wh (vOf op) n _ _ _ _ _ _ lib _ _ _ _ w (fun W => row_any op W) (fun W => mayStand_any op a b c v m wh lib W)
    (fun W => hasRegisters_any op a b c v m wh _ _ _ _ _ _ W) (fun W => hasNumber_any op a b c v m wh _ _ _ _ _ _ n hn hn1 (vOf_range op) W) (fun W => hasMark_any op a b c v m wh _ _ _ _ _ _ (shapeOf op) rfl W)
end Go.Proofs.YtneajiglkiffjaaGreatDoor
