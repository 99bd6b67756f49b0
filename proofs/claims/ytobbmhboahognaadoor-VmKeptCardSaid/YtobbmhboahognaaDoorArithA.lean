/- Contracts of package word's Cut and Sum: what each returns, the world as it was; no condition but the arguments' own ranges. -/
import Derived.Test.YtobbmhboahognaaDoorProg
import Derived.Test.YtobbmhboahognaaDoorCut
import Derived.WalkKit
import Derived.WalkSpells
import Derived.WalkLawsBesides
namespace Go.Proofs.YtobbmhboahognaaDoor
open Go.RowKit

set_option maxHeartbeats 400000 in
theorem reduce_any (k v : Int) (h0 : 0 ≤ v) (h1 : v ≤ 18446744073709551615) (w : World) :
    Calls Tryd.prog 101 #[.int .i64 k, .int .u64 v] w fun e w' => e = .returned (.tuple #[.int .u64 (cut k v), .bool (isW k)]) ∧ w = w' := by
  by_cases h64 : k = 64
  · subst h64
    rw [cut64, show isW 64 = true from rfl]
    go_enter Tryd.func101, Tryd.ntmps101
    go_wp2
    go_ret2
    exact ⟨rfl, rfl⟩
  · by_cases h32 : k = 32
    · subst h32
      rw [cut32, show isW 32 = true from rfl, ← mask32 v h0 h1]
      clear h0 h1
      go_enter Tryd.func101, Tryd.ntmps101
      go_wp2
      go_ret2
      exact ⟨rfl, rfl⟩
    · rw [cut_no v h64 h32, show isW k = false by simp [isW, h64, h32]]
      go_enter Tryd.func101, Tryd.ntmps101
      go_wp2
      go_ret2
      exact ⟨rfl, rfl⟩

set_option maxHeartbeats 400000 in
theorem cut_any (k v : Int) (h0 : 0 ≤ v) (h1 : v ≤ 18446744073709551615) (w : World) :
    Calls Tryd.prog 92 #[.int .i64 k, .int .u64 v] w fun e w' => e = .returned (.int .u64 (cut k v)) ∧ w = w' := by
  go_enter Tryd.func92, Tryd.ntmps92
  go_wp2_with (go_at_call 101; refine (reduce_any k v h0 h1 _).mono ?_; rintro e w' ⟨rfl, rfl⟩)
  go_ret
  exact ⟨rfl, rfl⟩

set_option maxHeartbeats 400000 in
theorem sum_any (k a b : Int) (h0 : 0 ≤ a) (h1 : a ≤ 18446744073709551615) (h2 : 0 ≤ b) (h3 : b ≤ 18446744073709551615) (w : World) :
    Calls Tryd.prog 76 #[.int .i64 k, .int .u64 a, .int .u64 b] w fun e w' => e = .returned (.int .u64 (summ k a b)) ∧ w = w' := by
  go_enter Tryd.func76, Tryd.ntmps76
  go_wp2_with fail
  refine (cut_any k a h0 h1 _).mono ?_
  rintro e w' ⟨rfl, rfl⟩
  go_wp2_with fail
  refine (cut_any k b h2 h3 _).mono ?_
  rintro e w' ⟨rfl, rfl⟩
  go_wp2_with fail
  refine (cut_any k _ ?_ ?_ _).mono ?_
  · rw [IntKind.wrap_u64]; omega
  · rw [IntKind.wrap_u64]; omega
  rintro e w' ⟨rfl, rfl⟩
  go_wp2_with fail
  go_ret
  exact ⟨by rw [summ, ← IntKind.wrap_u64]; rfl, rfl⟩

end Go.Proofs.YtobbmhboahognaaDoor
