/- Plain words on numbers of two widths (layer 1): what is cut, summed, taken away, nothing of the program. -/
import Derived.WalkKit
import Derived.WalkSpells
import Derived.WalkLawsBesides
namespace Go.Proofs.YtobbmhboahognaaDoor
open Go.RowKit

/-- v modulo 2^width, 0 of no width. -/
def cut (k v : Int) : Int := if k = 64 then v else if k = 32 then v % 4294967296 else 0
theorem cut64 (v : Int) : cut 64 v = v := by simp [cut]
theorem cut32 (v : Int) : cut 32 v = v % 4294967296 := by simp [cut]
theorem cut_no {k : Int} (v : Int) (h1 : ¬ k = 64) (h2 : ¬ k = 32) : cut k v = 0 := by simp [cut, h1, h2]
theorem cut_range (k v : Int) (h0 : 0 ≤ v) (h1 : v ≤ 18446744073709551615) : 0 ≤ cut k v ∧ cut k v ≤ 18446744073709551615 := by
  unfold cut; split
  · omega
  · split <;> omega
/-- Is it a width? -/
def isW (k : Int) : Bool := decide (k = 64 ∨ k = 32)
/-- Is v a word of that width? -/
def fits (k v : Int) : Bool := isW k && (cut k v == v)
/-- a + b, a - b in words of that width. -/
def summ (k a b : Int) : Int := cut k ((cut k a + cut k b) % 18446744073709551616)
def lss (k a b : Int) : Int := cut k ((cut k a - cut k b) % 18446744073709551616)
theorem summ_range (k a b : Int) : 0 ≤ summ k a b ∧ summ k a b ≤ 18446744073709551615 := cut_range _ _ (by omega) (by omega)
theorem lss_range (k a b : Int) : 0 ≤ lss k a b ∧ lss k a b ≤ 18446744073709551615 := cut_range _ _ (by omega) (by omega)

theorem mask32 (v : Int) (h0 : 0 ≤ v) (h1 : v ≤ 18446744073709551615) : bits BinOp.and IntKind.u64 v 4294967295 = v % 4294967296 := by
  obtain ⟨n, rfl⟩ : ∃ n : Nat, v = n := ⟨v.toNat, by omega⟩
  have := bits_and_u64_nat n 4294967295 (by omega) (by omega)
  rw [show ((4294967295 : Nat) : Int) = 4294967295 from rfl] at this
  rw [this, show (4294967295 : Nat) = 2 ^ 32 - 1 from rfl, Nat.and_two_pow_sub_one_eq_mod]
  omega

theorem cut_cut (k v : Int) : cut k (cut k v) = cut k v := by
  unfold cut; split
  · rfl
  · split
    · omega
    · rfl
theorem cut_summ (k a b : Int) : cut k (summ k a b) = summ k a b := cut_cut _ _

end Go.Proofs.YtobbmhboahognaaDoor
