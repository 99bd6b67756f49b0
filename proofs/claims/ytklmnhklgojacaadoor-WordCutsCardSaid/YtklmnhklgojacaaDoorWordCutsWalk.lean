/- The walk of WordCuts: it returns true; of what was there nothing has turned. -/
import Derived.Test.YtklmnhklgojacaaDoorAwake
namespace Go.Proofs.YtklmnhklgojacaaDoor
open Go.RowKit

set_option maxHeartbeats 4000000 in
set_option maxRecDepth 100000 in
theorem wordCuts_walk (a0 a1 a2 : Int) (_w0 : (Lit.int .i64 a0).wf = true) (w1 : (Lit.int .u64 a1).wf = true) (w2 : (Lit.int .u64 a2).wf = true) (w : World) (hg : ErrType w) (ht : Pow10 w) :
    Calls Tryd.prog 3 #[.int .i64 a0, .int .u64 a1, .int .u64 a2] w fun e w' => e = .returned (.bool true) ∧ Below w.heap.size w w' := by
  have h1 : 0 ≤ a1 ∧ a1 ≤ 18446744073709551615 := by
    simp [Lit.wf, IntKind.min, IntKind.max, IntKind.signed, IntKind.bits] at w1
    exact ⟨by omega, by omega⟩
  have h2 : 0 ≤ a2 ∧ a2 ≤ 18446744073709551615 := by
    simp [Lit.wf, IntKind.min, IntKind.max, IntKind.signed, IntKind.bits] at w2
    exact ⟨by omega, by omega⟩
  have hb1 : Below w.heap.size w (w.alloc (.cells #[.int .i64 64, .int .i64 32, .int .i64 a0] 3)) := (Below.refl _ _).alloc (Nat.le_refl _) _
  have AW := Lib.hid (awake_any _ (errType_below hb1 hg (cell_lt hg)) (pow10_below hb1 ht))
  have C1 := Lib.hid (fun k w => cut_any k a1 h1.1 h1.2 w)
  have C2 := Lib.hid (fun k w => rcut_any k a1 h1.1 h1.2 w)
  have C3 := Lib.hid (fun k w => fits_any k a1 h1.1 h1.2 w)
  have C4 := Lib.hid (fun k w => rfits_any k a1 h1.1 h1.2 w)
  have C5 := Lib.hid (fun k w => sum_any k a1 a2 h1.1 h1.2 h2.1 h2.2 w)
  have C6 := Lib.hid (fun k w => rsum_any k a1 a2 h1.1 h1.2 h2.1 h2.2 w)
  have C7 := Lib.hid (fun k w => less_any k a1 a2 h1.1 h1.2 h2.1 h2.2 w)
  have C8 := Lib.hid (fun k w => rless_any k a1 a2 h1.1 h1.2 h2.1 h2.2 w)
  have mt : ∀ w, Calls Tryd.prog 18 #[.int .u64 a1, .int .u64 a2] w fun e w' => e = .returned (.bool (bits BinOp.and IntKind.u64 a1 a2 != 0)) ∧ w = w' := meet_any a1 a2
  have MT := Lib.hid mt
  clear w1 w2 h1 h2 hg ht mt hb1
  go_enter Tryd.func3, Tryd.ntmps3
  go_wp2_with fail
  refine wp_loop_rounds 4 ?_
  rw [rounds_succ]
  go_wp2_with (first
      | (go_at_call 10; refine (C1.out _ _).mono ?_; rintro e w' ⟨rfl, rfl⟩)
      | (go_at_call 11; refine (C2.out _ _).mono ?_; rintro e w' ⟨rfl, rfl⟩)
      | (go_at_call 12; refine (C3.out _ _).mono ?_; rintro e w' ⟨rfl, rfl⟩)
      | (go_at_call 13; refine (C4.out _ _).mono ?_; rintro e w' ⟨rfl, rfl⟩)
      | (go_at_call 14; refine (C5.out _ _).mono ?_; rintro e w' ⟨rfl, rfl⟩)
      | (go_at_call 15; refine (C6.out _ _).mono ?_; rintro e w' ⟨rfl, rfl⟩)
      | (go_at_call 16; refine (C7.out _ _).mono ?_; rintro e w' ⟨rfl, rfl⟩)
      | (go_at_call 17; refine (C8.out _ _).mono ?_; rintro e w' ⟨rfl, rfl⟩))
  rw [rounds_succ]
  go_wp2_with (first
      | (go_at_call 10; refine (C1.out _ _).mono ?_; rintro e w' ⟨rfl, rfl⟩)
      | (go_at_call 11; refine (C2.out _ _).mono ?_; rintro e w' ⟨rfl, rfl⟩)
      | (go_at_call 12; refine (C3.out _ _).mono ?_; rintro e w' ⟨rfl, rfl⟩)
      | (go_at_call 13; refine (C4.out _ _).mono ?_; rintro e w' ⟨rfl, rfl⟩)
      | (go_at_call 14; refine (C5.out _ _).mono ?_; rintro e w' ⟨rfl, rfl⟩)
      | (go_at_call 15; refine (C6.out _ _).mono ?_; rintro e w' ⟨rfl, rfl⟩)
      | (go_at_call 16; refine (C7.out _ _).mono ?_; rintro e w' ⟨rfl, rfl⟩)
      | (go_at_call 17; refine (C8.out _ _).mono ?_; rintro e w' ⟨rfl, rfl⟩))
  rw [rounds_succ]
  go_wp2_with (first
      | (go_at_call 10; refine (C1.out _ _).mono ?_; rintro e w' ⟨rfl, rfl⟩)
      | (go_at_call 11; refine (C2.out _ _).mono ?_; rintro e w' ⟨rfl, rfl⟩)
      | (go_at_call 12; refine (C3.out _ _).mono ?_; rintro e w' ⟨rfl, rfl⟩)
      | (go_at_call 13; refine (C4.out _ _).mono ?_; rintro e w' ⟨rfl, rfl⟩)
      | (go_at_call 14; refine (C5.out _ _).mono ?_; rintro e w' ⟨rfl, rfl⟩)
      | (go_at_call 15; refine (C6.out _ _).mono ?_; rintro e w' ⟨rfl, rfl⟩)
      | (go_at_call 16; refine (C7.out _ _).mono ?_; rintro e w' ⟨rfl, rfl⟩)
      | (go_at_call 17; refine (C8.out _ _).mono ?_; rintro e w' ⟨rfl, rfl⟩))
  rw [rounds_succ]
  go_wp2_with (first
      | (go_at_call 18; refine (MT.out _).mono ?_; rintro e w' ⟨rfl, rfl⟩)
      | (go_at_call 19; refine AW.out.mono ?_; rintro e w2 ⟨rfl, hb2⟩))
  go_ret
  exact ⟨rfl, ((Below.refl _ _).alloc (Nat.le_refl _) _).trans (hb2.mono (by simp))⟩
end Go.Proofs.YtklmnhklgojacaaDoor
