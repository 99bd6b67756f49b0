/- Plain words on what instructions reckon (layer 6), nothing of the program: words stay words; sums are taken back, bits turned twice are as they were, of two numbers one is less or they are the same. -/
import Derived.Test.YtlodkgbmojgmnaaVmFrame
import Derived.Test.YtlodkgbmojgmnaaVmResult
namespace Go.Proofs.Ytlodkgbmojgmnaa
open Go.RowKit
set_option linter.unusedVariables false

theorem nat_of {a : Int} (h0 : 0 ≤ a) (h1 : a ≤ 18446744073709551615) : ∃ n : Nat, a = n ∧ n < 18446744073709551616 := ⟨a.toNat, by omega, by omega⟩
theorem bit_range (op : BinOp) (hop : op = .and ∨ op = .or ∨ op = .xor) (a b : Int) (a0 : 0 ≤ a) (a1 : a ≤ 18446744073709551615) (b0 : 0 ≤ b) (b1 : b ≤ 18446744073709551615) : 0 ≤ bits op .u64 a b ∧ bits op .u64 a b ≤ 18446744073709551615 := by
  obtain ⟨m, rfl, hm⟩ := nat_of a0 a1
  obtain ⟨n, rfl, hn⟩ := nat_of b0 b1
  have e : (18446744073709551616 : Nat) = 2 ^ 64 := by decide
  rcases hop with rfl | rfl | rfl
  · rw [u64_and_nat m n hm hn]
    have : m &&& n < 2 ^ 64 := Nat.and_lt_two_pow m (by rw [← e]; exact hn)
    omega
  · rw [u64_or_nat m n hm hn]
    have : m ||| n < 2 ^ 64 := Nat.or_lt_two_pow (by rw [← e]; exact hm) (by rw [← e]; exact hn)
    omega
  · rw [u64_xor_nat m n hm hn]
    have : m ^^^ n < 2 ^ 64 := Nat.xor_lt_two_pow (by rw [← e]; exact hm) (by rw [← e]; exact hn)
    omega
theorem truthP_range (q : Bool) : 0 ≤ truthP q ∧ truthP q ≤ 1 := by cases q <;> decide
theorem resP_range (op v y z : Int) (hop : 1 ≤ op ∧ op ≤ 11) (v0 : 0 ≤ v) (v1 : v ≤ 18446744073709551615) (y0 : 0 ≤ y) (y1 : y ≤ 18446744073709551615) (z0 : 0 ≤ z) (z1 : z ≤ 18446744073709551615) : 0 ≤ resP op v y z ∧ resP op v y z ≤ 18446744073709551615 := by
  have hc : op = 1 ∨ op = 2 ∨ op = 3 ∨ op = 4 ∨ op = 5 ∨ op = 6 ∨ op = 7 ∨ op = 8 ∨ op = 9 ∨ op = 10 ∨ op = 11 := by omega
  rcases hc with rfl | rfl | rfl | rfl | rfl | rfl | rfl | rfl | rfl | rfl | rfl
  · rw [res1]; omega
  · rw [res2]; omega
  · rw [res3, summ_wide]; omega
  · rw [res4, lss_wide, sub_wide]; omega
  · rw [res5]; exact bit_range _ (Or.inl rfl) y z y0 y1 z0 z1
  · rw [res6]; exact bit_range _ (Or.inr (Or.inl rfl)) y z y0 y1 z0 z1
  · rw [res7]; exact bit_range _ (Or.inr (Or.inr rfl)) y z y0 y1 z0 z1
  · rw [res8, IntKind.wrap_u64]; omega
  · rw [res9]
    have hp : (0 : Int) < 2 ^ min (six z).toNat 64 := Int.pow_pos (by decide)
    exact ⟨Int.ediv_nonneg y0 (Int.le_of_lt hp), Int.le_trans (Int.ediv_le_self _ y0) y1⟩
  · rw [res10]; have := truthP_range (y == z); omega
  · rw [res11]; have := truthP_range (decide (y < z)); omega
theorem and_or_sum : ∀ k m n : Nat, m < k → (m &&& n) + (m ||| n) = m + n
  | 0, m, n, h => by omega
  | k + 1, m, n, h => by
    by_cases hm : m = 0
    · subst hm; simp
    have ih := and_or_sum k (m / 2) (n / 2) (by omega)
    have e1 : (m &&& n) / 2 = m / 2 &&& n / 2 := Nat.and_div_two
    have e2 : (m ||| n) / 2 = m / 2 ||| n / 2 := Nat.or_div_two
    have a1 : (m &&& n) % 2 = 1 ↔ m % 2 = 1 ∧ n % 2 = 1 := Nat.and_mod_two_eq_one
    have o1 : (m ||| n) % 2 = 1 ↔ m % 2 = 1 ∨ n % 2 = 1 := Nat.or_mod_two_eq_one
    rw [← e1, ← e2] at ih
    generalize m &&& n = x at *
    generalize m ||| n = y at *
    rcases Nat.mod_two_eq_zero_or_one m with h0 | h0 <;> rcases Nat.mod_two_eq_zero_or_one n with h2 | h2 <;> simp [h0, h2] at a1 o1 <;> omega
/-! The facts that the statement asks. -/
theorem re_sum (a b : Int) (a0 : 0 ≤ a) (a1 : a ≤ 18446744073709551615) : resP 4 0 (resP 3 0 a b) b = a := by rw [res4, res3, lss_wide, sub_wide, summ_wide]; omega
theorem re_xor (a b : Int) (a0 : 0 ≤ a) (a1 : a ≤ 18446744073709551615) (b0 : 0 ≤ b) (b1 : b ≤ 18446744073709551615) : resP 7 0 (resP 7 0 a b) b = a := by
  rw [res7, res7]
  obtain ⟨m, rfl, hm⟩ := nat_of a0 a1
  obtain ⟨n, rfl, hn⟩ := nat_of b0 b1
  have e : (18446744073709551616 : Nat) = 2 ^ 64 := by decide
  rw [u64_xor_nat m n hm hn, u64_xor_nat _ n (by rw [e]; exact Nat.xor_lt_two_pow (by rw [← e]; exact hm) (by rw [← e]; exact hn)) hn, Nat.xor_assoc, Nat.xor_self, Nat.xor_zero]
theorem re_less (a b : Int) : resP 11 0 a b + resP 11 0 b a + resP 10 0 a b = 1 := by
  rw [res11, res11, res10]
  unfold truthP
  rcases Int.lt_trichotomy a b with h | h | h
  · have h1 : ¬ b < a := by omega
    have h2 : ¬ a = b := by omega
    simp [h, h1, h2]
  · subst h; simp
  · have h1 : ¬ a < b := by omega
    have h2 : ¬ a = b := by omega
    simp [h, h1, h2]
theorem re_bits (a b : Int) (a0 : 0 ≤ a) (a1 : a ≤ 18446744073709551615) (b0 : 0 ≤ b) (b1 : b ≤ 18446744073709551615) : resP 5 0 a b + resP 6 0 a b = a + b := by
  rw [res5, res6]
  obtain ⟨m, rfl, hm⟩ := nat_of a0 a1
  obtain ⟨n, rfl, hn⟩ := nat_of b0 b1
  rw [u64_and_nat m n hm hn, u64_or_nat m n hm hn]
  have := and_or_sum (m + 1) m n (by omega)
  omega
theorem six_mod (b : Int) (b0 : 0 ≤ b) (b1 : b ≤ 18446744073709551615) : six b = b % 64 := by
  obtain ⟨n, rfl, hn⟩ := nat_of b0 b1
  unfold six
  rw [show (63 : Int) = ((63 : Nat) : Int) from rfl, u64_and_nat n 63 hn (by decide), show (63 : Nat) = 2 ^ 6 - 1 from rfl, Nat.and_two_pow_sub_one_eq_mod]
  omega
theorem re_shl (a b v : Int) (b0 : 0 ≤ b) (b1 : b ≤ 18446744073709551615) : resP 8 v a (b % 64) = resP 8 0 a b := by
  rw [res8, res8, six_mod b b0 b1, six_mod (b % 64) (by omega) (by omega)]
  rw [show b % 64 % 64 = b % 64 by omega]
theorem re_shr (a b : Int) (b0 : 0 ≤ b) (b1 : b ≤ 18446744073709551615) : resP 9 0 a b = a / 2 ^ (b % 64).toNat := by
  rw [res9, six_mod b b0 b1, Nat.min_eq_left (by omega)]
end Go.Proofs.Ytlodkgbmojgmnaa
