/- The order of items (layer 7): the contract of compare, and of the library's Compare and Or that it calls. No condition but that the numbers are the machine's. -/
import Derived.Test.YtobbmhboahognaaDoorHeapPlain
import Derived.Test.YtobbmhboahognaaDoorProg
import Derived.WalkSpells
import Derived.WalkLawsBesides
import Derived.Test.YtobbmhboahognaaDoorRoundTail
import Derived.Deep.Light
import Derived.KernelRfl
import Derived.Outline
namespace Go.Proofs.YtobbmhboahognaaDoor
open Go.RowKit
set_option linter.unusedVariables false

set_option maxHeartbeats 1000000 in
theorem cmpU_any (x y : Int) (w : World) : Calls Tryd.prog 104 #[.int .u64 x, .int .u64 y] w fun e w' => e = .returned (.int .i64 (cmpD x y)) ∧ w' = w := by
  unfold cmpD
  by_cases h1 : x < y
  · rw [if_pos h1]
    go_enter Tryd.func104, Tryd.ntmps104
    go_wp2
    go_ret
    exact ⟨rfl, rfl⟩
  · rw [if_neg h1]
    by_cases h2 : y < x
    · rw [if_pos h2]
      go_enter Tryd.func104, Tryd.ntmps104
      go_wp2
      go_ret
      exact ⟨rfl, rfl⟩
    · rw [if_neg h2]
      go_enter Tryd.func104, Tryd.ntmps104
      go_wp2
      go_ret
      exact ⟨rfl, rfl⟩
set_option maxHeartbeats 1000000 in
theorem cmpS_any (x y : Int) (w : World) : Calls Tryd.prog 105 #[.int .i64 x, .int .i64 y] w fun e w' => e = .returned (.int .i64 (cmpD x y)) ∧ w' = w := by
  unfold cmpD
  by_cases h1 : x < y
  · rw [if_pos h1]
    go_enter Tryd.func105, Tryd.ntmps105
    go_wp2
    go_ret
    exact ⟨rfl, rfl⟩
  · rw [if_neg h1]
    by_cases h2 : y < x
    · rw [if_pos h2]
      go_enter Tryd.func105, Tryd.ntmps105
      go_wp2
      go_ret
      exact ⟨rfl, rfl⟩
    · rw [if_neg h2]
      go_enter Tryd.func105, Tryd.ntmps105
      go_wp2
      go_ret
      exact ⟨rfl, rfl⟩

set_option maxHeartbeats 1000000 in
theorem or_a (a b : Int) (ha : a ≠ 0) (q : Nat) (w : World) (h0 : w.cell? ⟨q, 0, none⟩ = some (.int .i64 a)) :
    Calls Tryd.prog 103 #[.slice (some ⟨q, 0, none⟩) 2 2] w fun e w' => e = .returned (.int .i64 a) ∧ w = w' := by
  have hn : ((a : Int) == 0) = false := by simpa using ha
  have hm : ((a : Int) != 0) = true := by simpa using ha
  go_enter Tryd.func103, Tryd.ntmps103
  go_wp2
  go_loop [8] (fun vi => vi = .int .i64 0) (fun _ => 0)
  case atStart => exact rfl
  case round =>
    obtain rfl := hrel
    go_wp2
    go_ret
    exact ⟨rfl, rfl⟩
set_option maxHeartbeats 1000000 in
theorem or_b (b : Int) (hb : b ≠ 0) (q : Nat) (w : World) (h0 : w.cell? ⟨q, 0, none⟩ = some (.int .i64 0)) (h1 : w.cell? ⟨q, 1, none⟩ = some (.int .i64 b)) :
    Calls Tryd.prog 103 #[.slice (some ⟨q, 0, none⟩) 2 2] w fun e w' => e = .returned (.int .i64 b) ∧ w = w' := by
  have hn : ((b : Int) == 0) = false := by simpa using hb
  have hm : ((b : Int) != 0) = true := by simpa using hb
  go_enter Tryd.func103, Tryd.ntmps103
  go_wp2
  go_loop [8] (fun vi => vi = .int .i64 0 ∨ vi = .int .i64 1) (fun vi => 2 - (intOf vi).toNat)
  case atStart => exact .inl rfl
  case round =>
    rcases hrel with rfl | rfl
    · go_wp2
      go_round
      case rel => exact .inr rfl
      case measure => simp [intOf]
    · go_wp2
      go_ret
      exact ⟨rfl, rfl⟩
set_option maxHeartbeats 1000000 in
theorem or_0 (q : Nat) (w : World) (h0 : w.cell? ⟨q, 0, none⟩ = some (.int .i64 0)) (h1 : w.cell? ⟨q, 1, none⟩ = some (.int .i64 0)) :
    Calls Tryd.prog 103 #[.slice (some ⟨q, 0, none⟩) 2 2] w fun e w' => e = .returned (.int .i64 0) ∧ w = w' := by
  go_enter Tryd.func103, Tryd.ntmps103
  go_wp2
  go_loop [8] (fun vi => vi = .int .i64 0 ∨ vi = .int .i64 1 ∨ vi = .int .i64 2) (fun vi => 2 - (intOf vi).toNat)
  case atStart => exact .inl rfl
  case round =>
    rcases hrel with rfl | rfl | rfl
    · go_wp2
      go_round
      case rel => exact .inr (.inl rfl)
      case measure => simp [intOf]
    · go_wp2
      go_round
      case rel => exact .inr (.inr rfl)
      case measure => simp [intOf]
    · go_wp2
      go_ret
      exact ⟨rfl, rfl⟩
/-- Or at two numbers: the first if it is none of 0, else the second (which may be 0). -/
theorem or_any (a b r : Int) (hr : r = if a = 0 then b else a) (q : Nat) (w : World) (h0 : w.cell? ⟨q, 0, none⟩ = some (.int .i64 a)) (h1 : w.cell? ⟨q, 1, none⟩ = some (.int .i64 b)) :
    Calls Tryd.prog 103 #[.slice (some ⟨q, 0, none⟩) 2 2] w fun e w' => e = .returned (.int .i64 r) ∧ w = w' := by
  by_cases ha : a = 0
  · rw [if_pos ha] at hr
    subst ha; subst hr
    by_cases hb : r = 0
    · subst hb; exact or_0 q w h0 h1
    · exact or_b r hb q w h0 h1
  · rw [if_neg ha] at hr
    subst hr
    exact or_a r b ha q w h0

/-- An item as a value. -/
abbrev Itm.agg (x : Itm) : Value := .agg #[.int .u64 x.d, .int .u64 x.w, .int .i64 x.h]
set_option maxHeartbeats 2000000 in
set_option maxRecDepth 100000 in
theorem compare_any (x y : Itm) (w : World) : Calls Tryd.prog 98 #[.agg #[.int .u64 x.d, .int .u64 x.w, .int .i64 x.h], .agg #[.int .u64 y.d, .int .u64 y.w, .int .i64 y.h]] w fun e w' => e = .returned (.int .i64 (cmpI x y)) ∧ Below w.heap.size w w' := by
  obtain ⟨a, ea⟩ : ∃ a, a = cmpD x.d y.d := ⟨_, rfl⟩
  obtain ⟨b, eb⟩ : ∃ b, b = cmpD x.h y.h := ⟨_, rfl⟩
  have CU := Lib.hid (cmpU_any x.d y.d)
  have CS := Lib.hid (cmpS_any x.h y.h)
  obtain ⟨r, er⟩ : ∃ r, r = cmpI x y := ⟨_, rfl⟩
  rw [← er]
  have FIN := Lib.hid (show r = if a = 0 then b else a by rw [er]; unfold cmpI; rw [← ea, ← eb])
  rw [← ea] at CU
  rw [← eb] at CS
  obtain ⟨x0, x1, x2⟩ := x
  obtain ⟨y0, y1, y2⟩ := y
  clear ea eb er
  go_enter Tryd.func98, Tryd.ntmps98
  go_wp2
  refine region_tail 10 (by kernel_rfl) (by kernel_rfl) ?_
  simp only [List.take_succ_cons, List.take_zero, List.drop_succ_cons, List.drop_zero]
  iterate 4 still_step
  still_call (CU.out _)
  iterate 4 still_step
  still_call (CS.out _)
  refine wpStill_nil ?_
  go_wp2_with fail
  go_at_call 103
  refine (or_any a b r FIN.out _ _ (by rw [World.cell?_drew, World.cell?_alloc_at _ _ _ _ (by simp)]; simp) (by rw [World.cell?_drew, World.cell?_alloc_at _ _ _ _ (by simp)]; simp)).mono ?_
  rintro e w' ⟨rfl, rfl⟩
  go_wp2_with fail
  go_ret
  exact ⟨rfl, ((((Below.refl _ w).alloc (Nat.le_refl _) _).alloc (by simp) _).alloc (by simp; omega) _).drew⟩
end Go.Proofs.YtobbmhboahognaaDoor
