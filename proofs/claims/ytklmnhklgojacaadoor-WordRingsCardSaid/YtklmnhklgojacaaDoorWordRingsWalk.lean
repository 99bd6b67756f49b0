/- The walk of WordRings: it returns true; of what was there nothing has turned. -/
import Derived.Test.YtklmnhklgojacaaDoorAwake
namespace Go.Proofs.YtklmnhklgojacaaDoor
open Go.RowKit

theorem ring_comm (k a b : Int) : summ k a b = summ k b a := by unfold summ; rw [Int.add_comm]
theorem ring_assoc (k a b c : Int) (hk : k = 64 ∨ k = 32) : summ k (summ k a b) c = summ k a (summ k b c) := by
  rcases hk with rfl | rfl
  · simp only [summ, cut64]; omega
  · simp only [summ, cut32]; omega
theorem ring_less (k a b : Int) (hk : k = 64 ∨ k = 32) (ha : 0 ≤ a) (ha' : a ≤ 18446744073709551615) : lss k (summ k a b) b = cut k a := by
  rcases hk with rfl | rfl
  · simp only [summ, lss, cut64]; omega
  · simp only [summ, lss, cut32]; omega
theorem ring_sum (k a b : Int) (hk : k = 64 ∨ k = 32) (ha : 0 ≤ a) (ha' : a ≤ 18446744073709551615) : summ k (lss k a b) b = cut k a := by
  rcases hk with rfl | rfl
  · simp only [summ, lss, cut64]; omega
  · simp only [summ, lss, cut32]; omega
theorem ring_fits (k a b : Int) (hk : k = 64 ∨ k = 32) : fits k (summ k a b) = true := by
  rcases hk with rfl | rfl
  · simp [fits, isW, cut64]
  · simp only [fits, isW, summ, cut32]; simp
theorem ring_cut (a : Int) : cut 32 (cut 64 a) = cut 32 a := by rw [cut64]

set_option maxHeartbeats 4000000 in
set_option maxRecDepth 100000 in
theorem wordRings_walk (a0 a1 a2 : Int) (w0 : (Lit.int .u64 a0).wf = true) (w1 : (Lit.int .u64 a1).wf = true) (w2 : (Lit.int .u64 a2).wf = true) (w : World) (hg : ErrType w) (ht : Pow10 w) :
    Calls Tryd.prog 8 #[.int .u64 a0, .int .u64 a1, .int .u64 a2] w fun e w' => e = .returned (.bool true) ∧ Below w.heap.size w w' := by
  have h0 : 0 ≤ a0 ∧ a0 ≤ 18446744073709551615 := by
    simp [Lit.wf, IntKind.min, IntKind.max, IntKind.signed, IntKind.bits] at w0
    exact ⟨by omega, by omega⟩
  have h1 : 0 ≤ a1 ∧ a1 ≤ 18446744073709551615 := by
    simp [Lit.wf, IntKind.min, IntKind.max, IntKind.signed, IntKind.bits] at w1
    exact ⟨by omega, by omega⟩
  have h2 : 0 ≤ a2 ∧ a2 ≤ 18446744073709551615 := by
    simp [Lit.wf, IntKind.min, IntKind.max, IntKind.signed, IntKind.bits] at w2
    exact ⟨by omega, by omega⟩
  have hb1 : Below w.heap.size w (w.alloc (.cells #[.int .i64 64, .int .i64 32] 3)) := (Below.refl _ _).alloc (Nat.le_refl _) _
  have AW := Lib.hid (awake_any _ (errType_below hb1 hg (cell_lt hg)) (pow10_below hb1 ht))
  obtain ⟨l0, g0⟩ := h0
  obtain ⟨l1, g1⟩ := h1
  obtain ⟨l2, g2⟩ := h2
  have b1_64 : (summ 64 a0 a1 != summ 64 a1 a0) = false := by rw [ring_comm]; simp
  have b2_64 : (summ 64 (summ 64 a0 a1) a2 != summ 64 a0 (summ 64 a1 a2)) = false := by rw [ring_assoc 64 a0 a1 a2 (by omega)]; simp
  have b3_64 : (lss 64 (summ 64 a0 a1) a1 != cut 64 a0) = false := by rw [ring_less 64 a0 a1 (by omega) l0 g0]; simp
  have b4_64 : (summ 64 (lss 64 a0 a1) a1 != cut 64 a0) = false := by rw [ring_sum 64 a0 a1 (by omega) l0 g0]; simp
  have b5_64 : fits 64 (summ 64 a0 a1) = true := ring_fits 64 a0 a1 (by omega)
  have b1_32 : (summ 32 a0 a1 != summ 32 a1 a0) = false := by rw [ring_comm]; simp
  have b2_32 : (summ 32 (summ 32 a0 a1) a2 != summ 32 a0 (summ 32 a1 a2)) = false := by rw [ring_assoc 32 a0 a1 a2 (by omega)]; simp
  have b3_32 : (lss 32 (summ 32 a0 a1) a1 != cut 32 a0) = false := by rw [ring_less 32 a0 a1 (by omega) l0 g0]; simp
  have b4_32 : (summ 32 (lss 32 a0 a1) a1 != cut 32 a0) = false := by rw [ring_sum 32 a0 a1 (by omega) l0 g0]; simp
  have b5_32 : fits 32 (summ 32 a0 a1) = true := ring_fits 32 a0 a1 (by omega)
  have b6 : (cut 32 (cut 64 a0) == cut 32 a0) = true := by rw [ring_cut]; simp
  clear w0 w1 w2 hg ht hb1
  go_enter Tryd.func8, Tryd.ntmps8
  go_wp2_with fail
  refine wp_loop_rounds 3 ?_
  rw [rounds_succ]
  go_wp2_with (first
      | (go_at_call 14
         refine (sum_any _ _ _ ?_ ?_ ?_ ?_ _).mono ?_
         · (first | assumption | exact (summ_range _ _ _).1 | exact (summ_range _ _ _).2 | exact (lss_range _ _ _).1 | exact (lss_range _ _ _).2 | exact (cut_range _ _ ‹_› ‹_›).1 | exact (cut_range _ _ ‹_› ‹_›).2)
         · (first | assumption | exact (summ_range _ _ _).1 | exact (summ_range _ _ _).2 | exact (lss_range _ _ _).1 | exact (lss_range _ _ _).2 | exact (cut_range _ _ ‹_› ‹_›).1 | exact (cut_range _ _ ‹_› ‹_›).2)
         · (first | assumption | exact (summ_range _ _ _).1 | exact (summ_range _ _ _).2 | exact (lss_range _ _ _).1 | exact (lss_range _ _ _).2 | exact (cut_range _ _ ‹_› ‹_›).1 | exact (cut_range _ _ ‹_› ‹_›).2)
         · (first | assumption | exact (summ_range _ _ _).1 | exact (summ_range _ _ _).2 | exact (lss_range _ _ _).1 | exact (lss_range _ _ _).2 | exact (cut_range _ _ ‹_› ‹_›).1 | exact (cut_range _ _ ‹_› ‹_›).2)
         rintro e w' ⟨rfl, rfl⟩)
      | (go_at_call 16
         refine (less_any _ _ _ ?_ ?_ ?_ ?_ _).mono ?_
         · (first | assumption | exact (summ_range _ _ _).1 | exact (summ_range _ _ _).2 | exact (lss_range _ _ _).1 | exact (lss_range _ _ _).2 | exact (cut_range _ _ ‹_› ‹_›).1 | exact (cut_range _ _ ‹_› ‹_›).2)
         · (first | assumption | exact (summ_range _ _ _).1 | exact (summ_range _ _ _).2 | exact (lss_range _ _ _).1 | exact (lss_range _ _ _).2 | exact (cut_range _ _ ‹_› ‹_›).1 | exact (cut_range _ _ ‹_› ‹_›).2)
         · (first | assumption | exact (summ_range _ _ _).1 | exact (summ_range _ _ _).2 | exact (lss_range _ _ _).1 | exact (lss_range _ _ _).2 | exact (cut_range _ _ ‹_› ‹_›).1 | exact (cut_range _ _ ‹_› ‹_›).2)
         · (first | assumption | exact (summ_range _ _ _).1 | exact (summ_range _ _ _).2 | exact (lss_range _ _ _).1 | exact (lss_range _ _ _).2 | exact (cut_range _ _ ‹_› ‹_›).1 | exact (cut_range _ _ ‹_› ‹_›).2)
         rintro e w' ⟨rfl, rfl⟩)
      | (go_at_call 10
         refine (cut_any _ _ ?_ ?_ _).mono ?_
         · (first | assumption | exact (summ_range _ _ _).1 | exact (summ_range _ _ _).2 | exact (lss_range _ _ _).1 | exact (lss_range _ _ _).2 | exact (cut_range _ _ ‹_› ‹_›).1 | exact (cut_range _ _ ‹_› ‹_›).2)
         · (first | assumption | exact (summ_range _ _ _).1 | exact (summ_range _ _ _).2 | exact (lss_range _ _ _).1 | exact (lss_range _ _ _).2 | exact (cut_range _ _ ‹_› ‹_›).1 | exact (cut_range _ _ ‹_› ‹_›).2)
         rintro e w' ⟨rfl, rfl⟩)
      | (go_at_call 12
         refine (fits_any _ _ ?_ ?_ _).mono ?_
         · (first | assumption | exact (summ_range _ _ _).1 | exact (summ_range _ _ _).2 | exact (lss_range _ _ _).1 | exact (lss_range _ _ _).2 | exact (cut_range _ _ ‹_› ‹_›).1 | exact (cut_range _ _ ‹_› ‹_›).2)
         · (first | assumption | exact (summ_range _ _ _).1 | exact (summ_range _ _ _).2 | exact (lss_range _ _ _).1 | exact (lss_range _ _ _).2 | exact (cut_range _ _ ‹_› ‹_›).1 | exact (cut_range _ _ ‹_› ‹_›).2)
         rintro e w' ⟨rfl, rfl⟩))
  rw [rounds_succ]
  go_wp2_with (first
      | (go_at_call 14
         refine (sum_any _ _ _ ?_ ?_ ?_ ?_ _).mono ?_
         · (first | assumption | exact (summ_range _ _ _).1 | exact (summ_range _ _ _).2 | exact (lss_range _ _ _).1 | exact (lss_range _ _ _).2 | exact (cut_range _ _ ‹_› ‹_›).1 | exact (cut_range _ _ ‹_› ‹_›).2)
         · (first | assumption | exact (summ_range _ _ _).1 | exact (summ_range _ _ _).2 | exact (lss_range _ _ _).1 | exact (lss_range _ _ _).2 | exact (cut_range _ _ ‹_› ‹_›).1 | exact (cut_range _ _ ‹_› ‹_›).2)
         · (first | assumption | exact (summ_range _ _ _).1 | exact (summ_range _ _ _).2 | exact (lss_range _ _ _).1 | exact (lss_range _ _ _).2 | exact (cut_range _ _ ‹_› ‹_›).1 | exact (cut_range _ _ ‹_› ‹_›).2)
         · (first | assumption | exact (summ_range _ _ _).1 | exact (summ_range _ _ _).2 | exact (lss_range _ _ _).1 | exact (lss_range _ _ _).2 | exact (cut_range _ _ ‹_› ‹_›).1 | exact (cut_range _ _ ‹_› ‹_›).2)
         rintro e w' ⟨rfl, rfl⟩)
      | (go_at_call 16
         refine (less_any _ _ _ ?_ ?_ ?_ ?_ _).mono ?_
         · (first | assumption | exact (summ_range _ _ _).1 | exact (summ_range _ _ _).2 | exact (lss_range _ _ _).1 | exact (lss_range _ _ _).2 | exact (cut_range _ _ ‹_› ‹_›).1 | exact (cut_range _ _ ‹_› ‹_›).2)
         · (first | assumption | exact (summ_range _ _ _).1 | exact (summ_range _ _ _).2 | exact (lss_range _ _ _).1 | exact (lss_range _ _ _).2 | exact (cut_range _ _ ‹_› ‹_›).1 | exact (cut_range _ _ ‹_› ‹_›).2)
         · (first | assumption | exact (summ_range _ _ _).1 | exact (summ_range _ _ _).2 | exact (lss_range _ _ _).1 | exact (lss_range _ _ _).2 | exact (cut_range _ _ ‹_› ‹_›).1 | exact (cut_range _ _ ‹_› ‹_›).2)
         · (first | assumption | exact (summ_range _ _ _).1 | exact (summ_range _ _ _).2 | exact (lss_range _ _ _).1 | exact (lss_range _ _ _).2 | exact (cut_range _ _ ‹_› ‹_›).1 | exact (cut_range _ _ ‹_› ‹_›).2)
         rintro e w' ⟨rfl, rfl⟩)
      | (go_at_call 10
         refine (cut_any _ _ ?_ ?_ _).mono ?_
         · (first | assumption | exact (summ_range _ _ _).1 | exact (summ_range _ _ _).2 | exact (lss_range _ _ _).1 | exact (lss_range _ _ _).2 | exact (cut_range _ _ ‹_› ‹_›).1 | exact (cut_range _ _ ‹_› ‹_›).2)
         · (first | assumption | exact (summ_range _ _ _).1 | exact (summ_range _ _ _).2 | exact (lss_range _ _ _).1 | exact (lss_range _ _ _).2 | exact (cut_range _ _ ‹_› ‹_›).1 | exact (cut_range _ _ ‹_› ‹_›).2)
         rintro e w' ⟨rfl, rfl⟩)
      | (go_at_call 12
         refine (fits_any _ _ ?_ ?_ _).mono ?_
         · (first | assumption | exact (summ_range _ _ _).1 | exact (summ_range _ _ _).2 | exact (lss_range _ _ _).1 | exact (lss_range _ _ _).2 | exact (cut_range _ _ ‹_› ‹_›).1 | exact (cut_range _ _ ‹_› ‹_›).2)
         · (first | assumption | exact (summ_range _ _ _).1 | exact (summ_range _ _ _).2 | exact (lss_range _ _ _).1 | exact (lss_range _ _ _).2 | exact (cut_range _ _ ‹_› ‹_›).1 | exact (cut_range _ _ ‹_› ‹_›).2)
         rintro e w' ⟨rfl, rfl⟩))
  rw [rounds_succ]
  go_wp2_with (first
      | (go_at_call 10
         refine (cut_any _ _ ?_ ?_ _).mono ?_
         · (first | assumption | exact (summ_range _ _ _).1 | exact (summ_range _ _ _).2 | exact (lss_range _ _ _).1 | exact (lss_range _ _ _).2 | exact (cut_range _ _ ‹_› ‹_›).1 | exact (cut_range _ _ ‹_› ‹_›).2)
         · (first | assumption | exact (summ_range _ _ _).1 | exact (summ_range _ _ _).2 | exact (lss_range _ _ _).1 | exact (lss_range _ _ _).2 | exact (cut_range _ _ ‹_› ‹_›).1 | exact (cut_range _ _ ‹_› ‹_›).2)
         rintro e w' ⟨rfl, rfl⟩)
      | (go_at_call 19; refine AW.out.mono ?_; rintro e w2 ⟨rfl, hb2⟩))
  go_ret
  exact ⟨rfl, ((Below.refl _ _).alloc (Nat.le_refl _) _).trans (hb2.mono (by simp))⟩
end Go.Proofs.YtklmnhklgojacaaDoor
