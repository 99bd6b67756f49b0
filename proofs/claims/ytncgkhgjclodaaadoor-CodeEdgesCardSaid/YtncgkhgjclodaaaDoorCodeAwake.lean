/- The statements' helps of layer 4: awake (the document's example: it answers true); Same of an error of the program's and the document's word. The condition: the library's variable errors.errorType holds the type error. -/
import Derived.Test.YtncgkhgjclodaaaDoorCodeCheck
import Derived.Test.YtncgkhgjclodaaaDoorRefPost
import Derived.Deep.CutRange
import Derived.Deep.DeepCutAuto
import Derived.Deep.CutBlock
import Derived.Deep.Light
namespace Go.Proofs.YtncgkhgjclodaaaDoor
open Go.RowKit
set_option linter.unusedVariables false

/-- The kinds that layer 4 tells, and at how few places. -/
def Told (r : Option (List (ByteArray × Int) × Int)) : Prop := ∀ l k, r = some (l, k) → 1 ≤ k ∧ k ≤ 10 ∧ l.length ≤ 2
theorem EPost.returned {r : Option (List (ByteArray × Int) × Int)} {w w' : World} {e : Ending} (h : EPost r w e w') : ∃ v, e = .returned v ∧ EPost r w (.returned v) w' ∧ Below w.heap.size w w' := by
  cases r with
  | none => obtain ⟨rfl, hb⟩ := h; exact ⟨_, rfl, ⟨rfl, hb⟩, hb⟩
  | some p => obtain ⟨l, k⟩ := p; obtain ⟨x, rfl, hE, hb⟩ := h; exact ⟨_, rfl, ⟨x, rfl, hE, hb⟩, hb⟩
theorem FPost.returned {r : Option (List (ByteArray × Int) × Int)} {w w' : World} {e : Ending} (h : FPost r w e w') : ∃ v, e = .returned v ∧ FPost r w (.returned v) w' ∧ Below w.heap.size w w' := by
  cases r with
  | none => obtain ⟨rfl, hb⟩ := h; exact ⟨_, rfl, ⟨rfl, hb⟩, hb⟩
  | some p => obtain ⟨l, k⟩ := p; obtain ⟨x, rfl, hE, hb⟩ := h; exact ⟨_, rfl, ⟨x, rfl, hE, hb⟩, hb⟩
/-- Same of an error and the Fail of the same. -/
theorem same_ef {r : Option (List (ByteArray × Int) × Int)} {w0 w1 w2 : World} {v f : Value} (hr : Told r) (he : EPost r w0 (.returned v) w1) (hf : FPost r w1 (.returned f) w2) (hg : ErrType w2) :
    Calls Tryd.prog 12 #[v, f] w2 fun e w' => e = .returned (.bool true) ∧ Below w2.heap.size w2 w' := by
  cases r with
  | none =>
    obtain ⟨hv, _⟩ := he
    obtain ⟨hf', _⟩ := hf
    cases hv
    cases hf'
    refine (same_nil w2).mono ?_
    rintro e w' ⟨rfl, rfl⟩
    exact ⟨rfl, Below.refl _ _⟩
  | some p =>
    obtain ⟨l, k⟩ := p
    obtain ⟨x, hv, hE, _⟩ := he
    obtain ⟨z, hf', hF, hb⟩ := hf
    cases hv
    cases hf'
    obtain ⟨k1, k10, hl⟩ := hr l k rfl
    exact same_any _ _ l k (errAt_below hb (Nat.le_refl _) hE) hF (by omega) k1 k10 hg
theorem told_check (l : List Inst) (lib : Bool) : Told ((checkRes l lib).map fun x => ([(codeS, x.1)], x.2)) := by
  intro ps k h
  unfold checkRes at h
  split at h
  · simp at h; obtain ⟨rfl, rfl⟩ := h; simp
  · revert h
    cases firstBad l.length lib l 0 with
    | none => intro h; cases h
    | some i => intro h; cases h; simp
/-- A Fail of one place is a Check's. -/
theorem chk_f {r : Option (Int × Int)} {w w' : World} {e : Ending} (h : ChkPost r w e w') : FPost (r.map fun x => ([(codeS, x.1)], x.2)) w e w' := by
  cases r with
  | none => exact h
  | some p => obtain ⟨n, k⟩ := p; obtain ⟨z, rfl, hF, hb⟩ := h; exact ⟨_, rfl, hF.failAt, hb⟩
theorem no_f (n k : Int) (w : World) : Calls Tryd.prog 26 #[.string codeS, .int .i64 n, .int .i64 k] w (FPost (some ([(codeS, n)], k)) w) := by
  refine (no_any codeS n k w).mono ?_
  rintro e w' ⟨rfl, rfl⟩
  exact f_no n k (Below.refl _ _)

theorem insIn_row {W : World} {g : Nat} {x : Inst} (h : Row W g [.int .i64 x.op, .int .i64 x.a, .int .i64 x.b, .int .i64 x.c, .int .u64 x.v, .int .i64 x.m, .int .i64 x.wh]) : InsIn W (some ⟨g, 0, none⟩) [x] := by
  intro i hi
  obtain rfl : i = 0 := by simpa using hi
  have e0 : (⟨g, 0, none⟩ : Addr).add (0 * 7) = ⟨g, 0, none⟩ := by unfold Addr.add; simp
  refine ⟨_, rfl, h.lt, ?_⟩
  rw [e0]
  exact ⟨h.cell 0 (by simp), h.cell 1 (by simp), h.cell 2 (by simp), h.cell 3 (by simp), h.cell 4 (by simp), h.cell 5 (by simp), h.cell 6 (by simp)⟩
abbrev exAdd : Inst := ⟨3, 1, 2, -1, 5, 0, 0⟩
abbrev exSet : Inst := ⟨1, 32, 0, 0, 0, 0, 0⟩
theorem ok_one {x : Inst} (h : InsOk x) : ∀ i, i < [x].length → InsOk ([x].getD i inst0) := by
  intro i hi
  obtain rfl : i = 0 := by simpa using hi
  exact h

set_option maxHeartbeats 2000000 in
set_option maxRecDepth 100000 in
theorem awake_any (w : World) (hE : ErrType w) : Calls Tryd.prog 16 #[] w fun e w' => e = .returned (.bool true) ∧ Below w.heap.size w w' := by
  obtain ⟨w1, hw1⟩ : ∃ w1, w1 = (w.alloc (.cells #[.int .i64 3, .int .i64 1, .int .i64 2, .int .i64 (-1), .int .u64 5, .int .i64 0, .int .i64 0] 55)).alloc (.cells #[.int .i64 1, .int .i64 32, .int .i64 0, .int .i64 0, .int .u64 0, .int .i64 0, .int .i64 0] 55) := ⟨_, rfl⟩
  have hb : Below w.heap.size w w1 := by rw [hw1]; exact ((Below.refl _ _).alloc (Nat.le_refl _) _).alloc (by simp) _
  have r1 : Row w1 w.heap.size [.int .i64 3, .int .i64 1, .int .i64 2, .int .i64 (-1), .int .u64 5, .int .i64 0, .int .i64 0] := by
    rw [hw1]; exact (Row.new w _ _).alloc _
  have r2 : Row w1 (w.heap.size + 1) [.int .i64 1, .int .i64 32, .int .i64 0, .int .i64 0, .int .u64 0, .int .i64 0, .int .i64 0] := by
    rw [hw1]
    have h := Row.new (w.alloc (.cells #[.int .i64 3, .int .i64 1, .int .i64 2, .int .i64 (-1), .int .u64 5, .int .i64 0, .int .i64 0] 55)) [.int .i64 1, .int .i64 32, .int .i64 0, .int .i64 0, .int .u64 0, .int .i64 0, .int .i64 0] 55
    rw [World.size_alloc] at h
    exact h
  have I1 : InsIn w1 (some ⟨w.heap.size, 0, none⟩) [exAdd] := insIn_row r1
  have I2 : InsIn w1 (some ⟨w.heap.size + 1, 0, none⟩) [exSet] := insIn_row r2
  have C1 := Lib.hid (fun W (h : Below w1.heap.size w1 W) => check_any _ 1 [exAdd] true W (by simp) (I1.below h) (ok_one ⟨by decide, by decide⟩))
  have C2 := Lib.hid (fun W (h : Below w1.heap.size w1 W) => check_any _ 1 [exAdd] false W (by simp) (I1.below h) (ok_one ⟨by decide, by decide⟩))
  have C3 := Lib.hid (fun W (h : Below w1.heap.size w1 W) => check_any _ 1 [exSet] true W (by simp) (I2.below h) (ok_one ⟨by decide, by decide⟩))
  rw [show checkRes [exAdd] true = none from rfl] at C1
  rw [show checkRes [exAdd] false = none from rfl] at C2
  rw [show checkRes [exSet] true = some (0, 5) from rfl] at C3
  have HB := Lib.hid hb
  have HE := Lib.hid hE
  clear r1 r2 I1 I2 hb hE
  go_enter Tryd.func16, Tryd.ntmps16
  go_upto_region 3 with fail
  rw [← hw1]
  clear hw1
  go_wp2_with fail
  go_at_call 13
  refine (C1.out _ (Below.refl _ _)).mono ?_
  rintro e w2 ⟨rfl, hb2⟩
  have B2 := Lib.hid hb2
  clear hb2
  go_wp2_with fail
  go_at_call 13
  refine (C2.out _ B2.out).mono ?_
  rintro e w3 ⟨rfl, hb3⟩
  have B3 := Lib.hid (B2.out.trans (hb3.mono B2.out.size))
  clear hb3
  go_wp2_with fail
  go_at_call 13
  refine (C3.out _ B3.out).mono ?_
  intro e w4 h4
  obtain ⟨v, rfl, h4, hb4⟩ := h4.returned
  have B4 := Lib.hid (B3.out.trans (hb4.mono B3.out.size))
  have P4 := Lib.hid h4
  clear h4 hb4
  go_wp2_with fail
  go_at_call 26
  refine (no_f 0 5 w4).mono ?_
  intro e w5 h5
  obtain ⟨f, rfl, h5, hb5⟩ := h5.returned
  have B5 := Lib.hid (HB.out.trans ((B4.out.trans (hb5.mono B4.out.size)).mono HB.out.size))
  have SM := Lib.hid (same_ef (by intro l k h; cases h; simp) P4.out h5 (errType_below B5.out HE.out (cell_lt HE.out)))
  clear h5 hb5
  go_wp2_with fail
  go_at_call 12
  refine SM.out.mono ?_
  rintro e w6 ⟨rfl, hb6⟩
  have B6 := Lib.hid (B5.out.trans (hb6.mono B5.out.size))
  clear hb6
  go_wp2_with fail
  go_ret
  exact ⟨rfl, B6.out⟩
end Go.Proofs.YtncgkhgjclodaaaDoor
