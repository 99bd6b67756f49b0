/- A client's code and a library's: the walk of CodeSides. The condition: the library's variable errors.errorType holds the type error. -/
import Derived.Test.YtncgkhgjclodaaaDoorCodeAwake
import Derived.Test.YtncgkhgjclodaaaDoorCodeFill
import Derived.Test.YtncgkhgjclodaaaDoorKeepWithin
import Derived.Deep.RegionHeld3
namespace Go.Proofs.YtncgkhgjclodaaaDoor
open Go.RowKit
set_option linter.unusedVariables false

theorem side_call (x : Inst) (n : Int) (h : x.op = 22) : rightB x n true = false := by
  unfold rightB sideB; simp [h]
theorem side_client (x : Inst) (n : Int) (h : x.op ≠ 22) : rightB x n false = (rightB x n true && (decide (x.op ≤ 22) && decide (x.m = 0))) := by
  unfold rightB sideB
  simp only [Bool.false_or, Bool.true_or, Bool.and_true, Bool.false_and, Bool.not_false, Bool.true_and, decide_eq_false h]
  cases (shapeOf x.op).Is <;> cases (decide (x.op ≤ 22) && decide (x.m = 0)) <;> simp
theorem seven_cells {W : World} {X : Nat} {v0 v1 v2 v3 v4 v5 v6 : Value} (h : Row W X [v0, v1, v2, v3, v4, v5, v6]) : W.cell? ⟨X, 0, none⟩ = some v0 ∧ W.cell? ⟨X, 1, none⟩ = some v1 ∧ W.cell? ⟨X, 2, none⟩ = some v2 ∧ W.cell? ⟨X, 3, none⟩ = some v3 ∧ W.cell? ⟨X, 4, none⟩ = some v4 ∧ W.cell? ⟨X, 5, none⟩ = some v5 ∧ W.cell? ⟨X, 6, none⟩ = some v6 :=
  ⟨h.cell 0 (by simp), h.cell 1 (by simp), h.cell 2 (by simp), h.cell 3 (by simp), h.cell 4 (by simp), h.cell 5 (by simp), h.cell 6 (by simp)⟩
/-- The box of an instruction, in a world of which nothing old has turned. -/
structure Box1 (w W : World) (X : Nat) (xs : List Value) : Prop where
  b : Below w.heap.size w W
  x : Row W X xs
  e : ErrType W
theorem Box1.below {w W W' : World} {X : Nat} {xs : List Value} (h : Box1 w W X xs) (hb : Below W.heap.size W W') : Box1 w W' X xs := ⟨h.b.trans (hb.mono h.b.size), h.x.below hb h.x.lt, errType_below hb h.e (cell_lt h.e)⟩
theorem Box1.drew {w W : World} {X : Nat} {xs : List Value} (h : Box1 w W X xs) : Box1 w W.drew X xs := h.below ⟨rfl, rfl, rfl, Nat.le_refl _, fun _ _ => rfl⟩
section
variable {w W : World} {X : Nat} {xs : List Value} {op a b c v m wh : Int}
theorem Box1.right (h : Box1 w W X xs) (hv : 0 ≤ v ∧ v ≤ 18446744073709551615) (n : Nat) (h1 : 1 ≤ n) (h2 : n ≤ 2048) (lib : Bool) :
    Calls Tryd.prog 25 #[insV op a b c v m wh, .int .i64 n, .bool lib] W fun e w' => e = .returned (.bool (rightB ⟨op, a, b, c, v, m, wh⟩ n lib)) ∧ Box1 w w' X xs :=
  (right_law op a b c v m wh hv n h1 h2 lib W).mono fun e w' ⟨h3, h4⟩ => ⟨h3, h.below h4⟩
theorem Box1.awake (h : Box1 w W X xs) : Calls Tryd.prog 16 #[] W fun e w' => e = .returned (.bool true) ∧ Box1 w w' X xs :=
  (awake_any W h.e).mono fun e w' ⟨h3, h4⟩ => ⟨h3, h.below h4⟩
end

/-- The two calls, one behind the other. -/
def SidesChain (w W : World) (X : Nat) (xs : List Value) (x : Value) (k : Int) (q1 q2 : Bool) : Prop :=
  Calls Tryd.prog 25 #[x, .int .i64 k, .bool false] W fun e w1 => e = .returned (.bool q1) ∧ Box1 w w1 X xs ∧ Hid (Calls Tryd.prog 25 #[x, .int .i64 k, .bool true] w1 fun e w2 => e = .returned (.bool q2) ∧ Box1 w w2 X xs)
theorem SidesChain.calls {w W : World} {X : Nat} {xs : List Value} {x : Value} {k : Int} {q1 q2 : Bool} (h : SidesChain w W X xs x k q1 q2) :
  Calls Tryd.prog 25 #[x, .int .i64 k, .bool false] W fun e w1 => e = .returned (.bool q1) ∧ Box1 w w1 X xs ∧ Hid (Calls Tryd.prog 25 #[x, .int .i64 k, .bool true] w1 fun e w2 => e = .returned (.bool q2) ∧ Box1 w w2 X xs) := h
/-- What the walk begins with. -/
structure SidesAt (w W : World) (X : Nat) (op a b c v m wh n : Int) (s : Nat) (q1 q2 : Bool) : Prop where
  hW : W = w.alloc (.cells #[.int .i64 op, .int .i64 a, .int .i64 b, .int .i64 c, .int .u64 v, .int .i64 m, .int .i64 wh] 55)
  hX : X = w.heap.size
  box : Box1 w W X [.int .i64 op, .int .i64 a, .int .i64 b, .int .i64 c, .int .u64 v, .int .i64 m, .int .i64 wh]
  wi : ∀ w, Calls Tryd.prog 27 #[.int .i64 n, .int .i64 20] w fun e w' => e = .returned (.int .i64 s) ∧ w = w'
  ch : SidesChain w W.drew X [.int .i64 op, .int .i64 a, .int .i64 b, .int .i64 c, .int .u64 v, .int .i64 m, .int .i64 wh] (insV op a b c v m wh) (1 + (s : Int)) q1 q2
  hs : s < 20
section
variable (w W : World) (X : Nat) (op a b c v m wh n : Int) (s : Nat)
set_option maxHeartbeats 4000000 in
set_option maxRecDepth 100000 in
theorem sides_call (q1 : Bool) (h : (op == 22) = true) (H : SidesAt w W X op a b c v m wh n s q1 false) : Calls Tryd.prog 9 #[insV op a b c v m wh, .int .i64 n] w fun e w' => e = .returned (.bool true) ∧ Below w.heap.size w w' := by
  have WI := Lib.hid H.wi
  have C1 := Lib.hid H.ch.calls
  have BX := Lib.hid H.box
  have hs := H.hs
  have hW := H.hW
  have hX := H.hX
  obtain ⟨x0, x1, x2, x3, x4, x5, x6⟩ := seven_cells H.box.x
  clear H
  go_enter Tryd.func9, Tryd.ntmps9
  go_wp2_with (go_at_call 27; refine (WI.out _).mono ?_; rintro e w' ⟨rfl, rfl⟩)
  rw [← hW, ← hX]
  clear hW hX
  go_region_held3 (fun w' => w'.cell? ⟨X, 0, none⟩ = some (.int .i64 op) ∧ w'.cell? ⟨X, 1, none⟩ = some (.int .i64 a) ∧ w'.cell? ⟨X, 2, none⟩ = some (.int .i64 b) ∧ w'.cell? ⟨X, 3, none⟩ = some (.int .i64 c) ∧ w'.cell? ⟨X, 4, none⟩ = some (.int .u64 v) ∧ w'.cell? ⟨X, 5, none⟩ = some (.int .i64 m) ∧ w'.cell? ⟨X, 6, none⟩ = some (.int .i64 wh)) (go_keep)
    (first
      | (go_at_call 25; ((with_reducible refine C1.out.mono ?_); rintro e w1 ⟨rfl, T1, C2⟩; obtain ⟨x0, x1, x2, x3, x4, x5, x6⟩ := seven_cells T1.x))
      | (go_at_call 25; ((with_reducible refine C2.out.mono ?_); rintro e w1 ⟨rfl, T2⟩; obtain ⟨x0, x1, x2, x3, x4, x5, x6⟩ := seven_cells T2.x)))
  all_goals (
    go_wp2_with fail
    go_at_call 16
    refine T2.awake.mono ?_
    rintro e w6 ⟨rfl, T6⟩
    have B6 := Lib.hid T6.b
    clear T6
    go_wp2_with fail
    go_ret
    exact ⟨rfl, B6.out⟩)
set_option maxHeartbeats 4000000 in
set_option maxRecDepth 100000 in
theorem sides_none (h : (op == 22) = false) (H : SidesAt w W X op a b c v m wh n s false false) : Calls Tryd.prog 9 #[insV op a b c v m wh, .int .i64 n] w fun e w' => e = .returned (.bool true) ∧ Below w.heap.size w w' := by
  have WI := Lib.hid H.wi
  have C1 := Lib.hid H.ch.calls
  have BX := Lib.hid H.box
  have hs := H.hs
  have hW := H.hW
  have hX := H.hX
  obtain ⟨x0, x1, x2, x3, x4, x5, x6⟩ := seven_cells H.box.x
  clear H
  go_enter Tryd.func9, Tryd.ntmps9
  go_wp2_with (go_at_call 27; refine (WI.out _).mono ?_; rintro e w' ⟨rfl, rfl⟩)
  rw [← hW, ← hX]
  clear hW hX
  go_region_held3 (fun w' => w'.cell? ⟨X, 0, none⟩ = some (.int .i64 op) ∧ w'.cell? ⟨X, 1, none⟩ = some (.int .i64 a) ∧ w'.cell? ⟨X, 2, none⟩ = some (.int .i64 b) ∧ w'.cell? ⟨X, 3, none⟩ = some (.int .i64 c) ∧ w'.cell? ⟨X, 4, none⟩ = some (.int .u64 v) ∧ w'.cell? ⟨X, 5, none⟩ = some (.int .i64 m) ∧ w'.cell? ⟨X, 6, none⟩ = some (.int .i64 wh)) (go_keep)
    (first
      | (go_at_call 25; ((with_reducible refine C1.out.mono ?_); rintro e w1 ⟨rfl, T1, C2⟩; obtain ⟨x0, x1, x2, x3, x4, x5, x6⟩ := seven_cells T1.x))
      | (go_at_call 25; ((with_reducible refine C2.out.mono ?_); rintro e w1 ⟨rfl, T2⟩; obtain ⟨x0, x1, x2, x3, x4, x5, x6⟩ := seven_cells T2.x)))
  all_goals (
    go_wp2_with fail
    go_at_call 16
    refine T2.awake.mono ?_
    rintro e w6 ⟨rfl, T6⟩
    have B6 := Lib.hid T6.b
    clear T6
    go_wp2_with fail
    go_ret
    exact ⟨rfl, B6.out⟩)
set_option maxHeartbeats 4000000 in
set_option maxRecDepth 100000 in
theorem sides_both (h : (op == 22) = false) (h1 : ¬ 22 < op) (h2 : (m != 0) = false) (H : SidesAt w W X op a b c v m wh n s true true) : Calls Tryd.prog 9 #[insV op a b c v m wh, .int .i64 n] w fun e w' => e = .returned (.bool true) ∧ Below w.heap.size w w' := by
  have WI := Lib.hid H.wi
  have C1 := Lib.hid H.ch.calls
  have BX := Lib.hid H.box
  have hs := H.hs
  have hW := H.hW
  have hX := H.hX
  obtain ⟨x0, x1, x2, x3, x4, x5, x6⟩ := seven_cells H.box.x
  clear H
  go_enter Tryd.func9, Tryd.ntmps9
  go_wp2_with (go_at_call 27; refine (WI.out _).mono ?_; rintro e w' ⟨rfl, rfl⟩)
  rw [← hW, ← hX]
  clear hW hX
  go_region_held3 (fun w' => w'.cell? ⟨X, 0, none⟩ = some (.int .i64 op) ∧ w'.cell? ⟨X, 1, none⟩ = some (.int .i64 a) ∧ w'.cell? ⟨X, 2, none⟩ = some (.int .i64 b) ∧ w'.cell? ⟨X, 3, none⟩ = some (.int .i64 c) ∧ w'.cell? ⟨X, 4, none⟩ = some (.int .u64 v) ∧ w'.cell? ⟨X, 5, none⟩ = some (.int .i64 m) ∧ w'.cell? ⟨X, 6, none⟩ = some (.int .i64 wh)) (go_keep)
    (first
      | (go_at_call 25; ((with_reducible refine C1.out.mono ?_); rintro e w1 ⟨rfl, T1, C2⟩; obtain ⟨x0, x1, x2, x3, x4, x5, x6⟩ := seven_cells T1.x))
      | (go_at_call 25; ((with_reducible refine C2.out.mono ?_); rintro e w1 ⟨rfl, T2⟩; obtain ⟨x0, x1, x2, x3, x4, x5, x6⟩ := seven_cells T2.x)))
  all_goals (
    go_wp2_with fail
    go_at_call 16
    refine T2.awake.mono ?_
    rintro e w6 ⟨rfl, T6⟩
    have B6 := Lib.hid T6.b
    clear T6
    go_wp2_with fail
    go_ret
    exact ⟨rfl, B6.out⟩)
set_option maxHeartbeats 4000000 in
set_option maxRecDepth 100000 in
theorem sides_mark (h : (op == 22) = false) (h2 : (m != 0) = true) (H : SidesAt w W X op a b c v m wh n s false true) : Calls Tryd.prog 9 #[insV op a b c v m wh, .int .i64 n] w fun e w' => e = .returned (.bool true) ∧ Below w.heap.size w w' := by
  have WI := Lib.hid H.wi
  have C1 := Lib.hid H.ch.calls
  have BX := Lib.hid H.box
  have hs := H.hs
  have hW := H.hW
  have hX := H.hX
  obtain ⟨x0, x1, x2, x3, x4, x5, x6⟩ := seven_cells H.box.x
  clear H
  go_enter Tryd.func9, Tryd.ntmps9
  go_wp2_with (go_at_call 27; refine (WI.out _).mono ?_; rintro e w' ⟨rfl, rfl⟩)
  rw [← hW, ← hX]
  clear hW hX
  go_region_held3 (fun w' => w'.cell? ⟨X, 0, none⟩ = some (.int .i64 op) ∧ w'.cell? ⟨X, 1, none⟩ = some (.int .i64 a) ∧ w'.cell? ⟨X, 2, none⟩ = some (.int .i64 b) ∧ w'.cell? ⟨X, 3, none⟩ = some (.int .i64 c) ∧ w'.cell? ⟨X, 4, none⟩ = some (.int .u64 v) ∧ w'.cell? ⟨X, 5, none⟩ = some (.int .i64 m) ∧ w'.cell? ⟨X, 6, none⟩ = some (.int .i64 wh)) (go_keep)
    (first
      | (go_at_call 25; ((with_reducible refine C1.out.mono ?_); rintro e w1 ⟨rfl, T1, C2⟩; obtain ⟨x0, x1, x2, x3, x4, x5, x6⟩ := seven_cells T1.x))
      | (go_at_call 25; ((with_reducible refine C2.out.mono ?_); rintro e w1 ⟨rfl, T2⟩; obtain ⟨x0, x1, x2, x3, x4, x5, x6⟩ := seven_cells T2.x)))
  all_goals (
    go_wp2_with fail
    go_at_call 16
    refine T2.awake.mono ?_
    rintro e w6 ⟨rfl, T6⟩
    have B6 := Lib.hid T6.b
    clear T6
    go_wp2_with fail
    go_ret
    exact ⟨rfl, B6.out⟩)
set_option maxHeartbeats 4000000 in
set_option maxRecDepth 100000 in
theorem sides_own (h : (op == 22) = false) (h1 : 22 < op) (h2 : (m != 0) = false) (H : SidesAt w W X op a b c v m wh n s false true) : Calls Tryd.prog 9 #[insV op a b c v m wh, .int .i64 n] w fun e w' => e = .returned (.bool true) ∧ Below w.heap.size w w' := by
  have WI := Lib.hid H.wi
  have C1 := Lib.hid H.ch.calls
  have BX := Lib.hid H.box
  have hs := H.hs
  have hW := H.hW
  have hX := H.hX
  obtain ⟨x0, x1, x2, x3, x4, x5, x6⟩ := seven_cells H.box.x
  clear H
  go_enter Tryd.func9, Tryd.ntmps9
  go_wp2_with (go_at_call 27; refine (WI.out _).mono ?_; rintro e w' ⟨rfl, rfl⟩)
  rw [← hW, ← hX]
  clear hW hX
  go_region_held3 (fun w' => w'.cell? ⟨X, 0, none⟩ = some (.int .i64 op) ∧ w'.cell? ⟨X, 1, none⟩ = some (.int .i64 a) ∧ w'.cell? ⟨X, 2, none⟩ = some (.int .i64 b) ∧ w'.cell? ⟨X, 3, none⟩ = some (.int .i64 c) ∧ w'.cell? ⟨X, 4, none⟩ = some (.int .u64 v) ∧ w'.cell? ⟨X, 5, none⟩ = some (.int .i64 m) ∧ w'.cell? ⟨X, 6, none⟩ = some (.int .i64 wh)) (go_keep)
    (first
      | (go_at_call 25; ((with_reducible refine C1.out.mono ?_); rintro e w1 ⟨rfl, T1, C2⟩; obtain ⟨x0, x1, x2, x3, x4, x5, x6⟩ := seven_cells T1.x))
      | (go_at_call 25; ((with_reducible refine C2.out.mono ?_); rintro e w1 ⟨rfl, T2⟩; obtain ⟨x0, x1, x2, x3, x4, x5, x6⟩ := seven_cells T2.x)))
  all_goals (
    go_wp2_with fail
    go_at_call 16
    refine T2.awake.mono ?_
    rintro e w6 ⟨rfl, T6⟩
    have B6 := Lib.hid T6.b
    clear T6
    go_wp2_with fail
    go_ret
    exact ⟨rfl, B6.out⟩)
end
theorem codeSides_walk (op a b c v m wh n : Int) (w0 : (Lit.int .i64 op).wf = true) (w1 : (Lit.int .i64 a).wf = true) (w2 : (Lit.int .i64 b).wf = true) (w3 : (Lit.int .i64 c).wf = true) (w4 : (Lit.int .u64 v).wf = true) (w5 : (Lit.int .i64 m).wf = true) (w6 : (Lit.int .i64 wh).wf = true) (w7 : (Lit.int .i64 n).wf = true) (w : World) (hE : ErrType w) :
    Calls Tryd.prog 9 #[insV op a b c v m wh, .int .i64 n] w fun e w' => e = .returned (.bool true) ∧ Below w.heap.size w w' := by
  have hv := u64_wf w4
  obtain ⟨s, hs⟩ : ∃ s : Nat, n % 20 = s := ⟨(n % 20).toNat, by omega⟩
  have hs20 : s < 20 := by omega
  obtain ⟨W, hW⟩ : ∃ W, W = w.alloc (.cells #[.int .i64 op, .int .i64 a, .int .i64 b, .int .i64 c, .int .u64 v, .int .i64 m, .int .i64 wh] 55) := ⟨_, rfl⟩
  obtain ⟨X, hX⟩ : ∃ X, X = w.heap.size := ⟨_, rfl⟩
  have hb0 : Below w.heap.size w W := by rw [hW]; exact (Below.refl _ _).alloc (Nat.le_refl _) _
  have r0 : Row W X [.int .i64 op, .int .i64 a, .int .i64 b, .int .i64 c, .int .u64 v, .int .i64 m, .int .i64 wh] := by rw [hW, hX]; exact Row.new w _ _
  have T0 : Box1 w W X [.int .i64 op, .int .i64 a, .int .i64 b, .int .i64 c, .int .u64 v, .int .i64 m, .int .i64 wh] := ⟨hb0, r0, errType_below hb0 hE (cell_lt hE)⟩
  have RR : ∀ (lib : Bool) (W' : World), Box1 w W' X [.int .i64 op, .int .i64 a, .int .i64 b, .int .i64 c, .int .u64 v, .int .i64 m, .int .i64 wh] → Calls Tryd.prog 25 #[insV op a b c v m wh, .int .i64 (1 + (s : Int)), .bool lib] W' fun e w' => e = .returned (.bool (rightB ⟨op, a, b, c, v, m, wh⟩ (1 + (s : Int)) lib)) ∧ Box1 w w' X [.int .i64 op, .int .i64 a, .int .i64 b, .int .i64 c, .int .u64 v, .int .i64 m, .int .i64 wh] := fun lib W' h => by
    have := h.right (op := op) (a := a) (b := b) (c := c) (v := v) (m := m) (wh := wh) hv (1 + s) (by omega) (by omega) lib
    rwa [show (((1 + s : Nat)) : Int) = 1 + (s : Int) by omega] at this
  obtain ⟨q1, h1⟩ : ∃ q, q = rightB ⟨op, a, b, c, v, m, wh⟩ (1 + (s : Int)) false := ⟨_, rfl⟩
  obtain ⟨q2, h2⟩ : ∃ q, q = rightB ⟨op, a, b, c, v, m, wh⟩ (1 + (s : Int)) true := ⟨_, rfl⟩
  have CH : SidesChain w W.drew X [.int .i64 op, .int .i64 a, .int .i64 b, .int .i64 c, .int .u64 v, .int .i64 m, .int .i64 wh] (insV op a b c v m wh) (1 + (s : Int)) q1 q2 := by
    rw [h1, h2]
    exact (RR false _ T0.drew).mono fun e w1 ⟨g1, g2⟩ => ⟨g1, g2, Lib.hid (RR true _ g2)⟩
  have H : SidesAt w W X op a b c v m wh n s q1 q2 := ⟨hW, hX, T0, fun W' => by rw [← hs]; exact within_any n 20 (by omega) (by omega) W', CH, hs20⟩
  by_cases h : op = 22
  · obtain rfl : q2 = false := by rw [h2]; exact side_call _ _ h
    exact sides_call w W X op a b c v m wh n s q1 (by simp [h]) H
  · have e22 : (op == 22) = false := by simp [h]
    have hc := side_client ⟨op, a, b, c, v, m, wh⟩ (1 + (s : Int)) h
    rw [← h1, ← h2] at hc
    cases q2 with
    | false =>
      obtain rfl : q1 = false := hc
      exact sides_none w W X op a b c v m wh n s e22 H
    | true =>
      rw [Bool.true_and] at hc
      by_cases hm : m = 0
      · by_cases ho : 22 < op
        · obtain rfl : q1 = false := by rw [hc]; simp; omega
          exact sides_own w W X op a b c v m wh n s e22 ho (by simp [hm]) H
        · obtain rfl : q1 = true := by rw [hc]; simp; omega
          exact sides_both w W X op a b c v m wh n s e22 ho (by simp [hm]) H
      · obtain rfl : q1 = false := by rw [hc]; simp [hm]
        exact sides_mark w W X op a b c v m wh n s e22 (by simp [hm]) H
end Go.Proofs.YtncgkhgjclodaaaDoor
