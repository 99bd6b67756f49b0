/- Contracts of package word's Cut and Sum: what each returns, the world as it was; no condition but the arguments' own ranges. -/
import Derived.Test.YtdnamjlknmcdjaaProg
import Derived.WalkKit
import Derived.WalkSpells
import Derived.WalkLawsBesides
namespace Go.Proofs.Ytdnamjlknmcdjaa
open Go.RowKit

/-- v modulo 2^width, 0 of no width. -/
def cut (k v : Int) : Int := if k = 64 then v else if k = 32 then v % 4294967296 else 0
theorem cut64 (v : Int) : cut 64 v = v := by simp [cut]
theorem cut32 (v : Int) : cut 32 v = v % 4294967296 := by simp [cut]
theorem cut_no {k : Int} (v : Int) (h1 : ¬ k = 64) (h2 : ¬ k = 32) : cut k v = 0 := by simp [cut, h1, h2]
theorem cut_range (k v : Int) (h0 : 0 ≤ v) (h1 : v ≤ 18446744073709551615) : 0 ≤ cut k v ∧ cut k v ≤ 18446744073709551615 := by
  unfold cut; split
  · omega
  · split <;> omega
/-- Is it a width? -/
def isW (k : Int) : Bool := decide (k = 64 ∨ k = 32)
/-- Is v a word of that width? -/
def fits (k v : Int) : Bool := isW k && (cut k v == v)
/-- a + b, a - b in words of that width. -/
def summ (k a b : Int) : Int := cut k ((cut k a + cut k b) % 18446744073709551616)
def lss (k a b : Int) : Int := cut k ((cut k a - cut k b) % 18446744073709551616)
theorem summ_range (k a b : Int) : 0 ≤ summ k a b ∧ summ k a b ≤ 18446744073709551615 := cut_range _ _ (by omega) (by omega)
theorem lss_range (k a b : Int) : 0 ≤ lss k a b ∧ lss k a b ≤ 18446744073709551615 := cut_range _ _ (by omega) (by omega)

theorem mask32 (v : Int) (h0 : 0 ≤ v) (h1 : v ≤ 18446744073709551615) : bits BinOp.and IntKind.u64 v 4294967295 = v % 4294967296 := by
  obtain ⟨n, rfl⟩ : ∃ n : Nat, v = n := ⟨v.toNat, by omega⟩
  have := bits_and_u64_nat n 4294967295 (by omega) (by omega)
  rw [show ((4294967295 : Nat) : Int) = 4294967295 from rfl] at this
  rw [this, show (4294967295 : Nat) = 2 ^ 32 - 1 from rfl, Nat.and_two_pow_sub_one_eq_mod]
  omega

set_option maxHeartbeats 400000 in
theorem reduce_any (k v : Int) (h0 : 0 ≤ v) (h1 : v ≤ 18446744073709551615) (w : World) :
    Calls Try.prog 25 #[.int .i64 k, .int .u64 v] w fun e w' => e = .returned (.tuple #[.int .u64 (cut k v), .bool (isW k)]) ∧ w = w' := by
  by_cases h64 : k = 64
  · subst h64
    rw [cut64, show isW 64 = true from rfl]
    go_enter Try.func25, Try.ntmps25
    go_wp2
    go_ret2
    exact ⟨rfl, rfl⟩
  · by_cases h32 : k = 32
    · subst h32
      rw [cut32, show isW 32 = true from rfl, ← mask32 v h0 h1]
      clear h0 h1
      go_enter Try.func25, Try.ntmps25
      go_wp2
      go_ret2
      exact ⟨rfl, rfl⟩
    · rw [cut_no v h64 h32, show isW k = false by simp [isW, h64, h32]]
      go_enter Try.func25, Try.ntmps25
      go_wp2
      go_ret2
      exact ⟨rfl, rfl⟩

set_option maxHeartbeats 400000 in
theorem cut_any (k v : Int) (h0 : 0 ≤ v) (h1 : v ≤ 18446744073709551615) (w : World) :
    Calls Try.prog 24 #[.int .i64 k, .int .u64 v] w fun e w' => e = .returned (.int .u64 (cut k v)) ∧ w = w' := by
  go_enter Try.func24, Try.ntmps24
  go_wp2_with (go_at_call 25; refine (reduce_any k v h0 h1 _).mono ?_; rintro e w' ⟨rfl, rfl⟩)
  go_ret
  exact ⟨rfl, rfl⟩

set_option maxHeartbeats 400000 in
theorem sum_any (k a b : Int) (h0 : 0 ≤ a) (h1 : a ≤ 18446744073709551615) (h2 : 0 ≤ b) (h3 : b ≤ 18446744073709551615) (w : World) :
    Calls Try.prog 23 #[.int .i64 k, .int .u64 a, .int .u64 b] w fun e w' => e = .returned (.int .u64 (summ k a b)) ∧ w = w' := by
  go_enter Try.func23, Try.ntmps23
  go_wp2_with fail
  refine (cut_any k a h0 h1 _).mono ?_
  rintro e w' ⟨rfl, rfl⟩
  go_wp2_with fail
  refine (cut_any k b h2 h3 _).mono ?_
  rintro e w' ⟨rfl, rfl⟩
  go_wp2_with fail
  refine (cut_any k _ ?_ ?_ _).mono ?_
  · rw [IntKind.wrap_u64]; omega
  · rw [IntKind.wrap_u64]; omega
  rintro e w' ⟨rfl, rfl⟩
  go_wp2_with fail
  go_ret
  exact ⟨by rw [summ, ← IntKind.wrap_u64]; rfl, rfl⟩

end Go.Proofs.Ytdnamjlknmcdjaa
