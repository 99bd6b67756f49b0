/- Contract of the statements' help Within: what it returns, the world as it was. -/
import Derived.Test.YtobbmhboahognaaDoorProg
import Derived.WalkKit
import Derived.WalkSpells
import Derived.WalkLawsBesides
import Derived.Lib.Hide
namespace Go.Proofs.YtobbmhboahognaaDoor
open Go.RowKit

set_option maxHeartbeats 400000 in
theorem within_any (v n : Int) (hn : 1 ≤ n) (hn' : n ≤ 9223372036854775807) (w : World) :
    Calls Tryd.prog 11 #[.int .i64 v, .int .i64 n] w fun e w' => e = .returned (.int .i64 (v % n)) ∧ w = w' := by
  have b1 := Int.emod_nonneg v (show n ≠ 0 by omega)
  have b2 := Int.emod_lt_of_pos v (show 0 < n by omega)
  by_cases h : 0 ≤ v
  · have e : v.tmod n = v % n := Int.tmod_eq_emod_of_nonneg h
    go_enter Tryd.func11, Tryd.ntmps11
    go_wp2
    go_ret
    exact ⟨rfl, rfl⟩
  · obtain ⟨t, et⟩ : ∃ t, t = v.tmod n := ⟨_, rfl⟩
    by_cases h0 : v % n = 0
    · have e : t = 0 := by rw [et, Int.tmod_eq_emod, if_pos (Or.inr (Int.dvd_of_emod_eq_zero h0)), h0]; rfl
      rw [h0]
      have E : v.tmod n = 0 := by rw [← et, e]
      clear et h0 b1 b2 e
      go_enter Tryd.func11, Tryd.ntmps11
      go_wp2
      go_ret
      exact ⟨rfl, rfl⟩
    · have e : t = v % n - n := by
        rw [et, Int.tmod_eq_emod, if_neg (by intro hh; rcases hh with hh | hh; · omega
                                             exact h0 (Int.emod_eq_zero_of_dvd hh))]
        omega
      obtain ⟨x, ex⟩ : ∃ x, x = v % n := ⟨_, rfl⟩
      rw [← ex] at b1 b2 e h0 ⊢
      have E : v.tmod n = x - n := by rw [← et, e]
      clear et e ex
      go_enter Tryd.func11, Tryd.ntmps11
      go_wp2
      go_ret
      exact ⟨rfl, rfl⟩
end Go.Proofs.YtobbmhboahognaaDoor
