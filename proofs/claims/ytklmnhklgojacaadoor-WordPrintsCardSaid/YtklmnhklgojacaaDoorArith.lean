/- Contracts of package word's arithmetic (Cut, Fits, Sum, Less, Meet, Bucket) and of the document's answers to the same: what each returns, the world as it was; no condition but the arguments' own ranges. -/
import Derived.Test.YtklmnhklgojacaaDoorProg
import Derived.WalkKit
import Derived.WalkSpells
import Derived.WalkLawsBesides
namespace Go.Proofs.YtklmnhklgojacaaDoor
open Go.RowKit

/-- v modulo 2^width, 0 of no width. -/
def cut (k v : Int) : Int := if k = 64 then v else if k = 32 then v % 4294967296 else 0
theorem cut64 (v : Int) : cut 64 v = v := by simp [cut]
theorem cut32 (v : Int) : cut 32 v = v % 4294967296 := by simp [cut]
theorem cut_no {k : Int} (v : Int) (h1 : ¬ k = 64) (h2 : ¬ k = 32) : cut k v = 0 := by simp [cut, h1, h2]
theorem cut_range (k v : Int) (h0 : 0 ≤ v) (h1 : v ≤ 18446744073709551615) : 0 ≤ cut k v ∧ cut k v ≤ 18446744073709551615 := by
  unfold cut; split
  · omega
  · split <;> omega
/-- Is it a width? -/
def isW (k : Int) : Bool := decide (k = 64 ∨ k = 32)
/-- Is v a word of that width? -/
def fits (k v : Int) : Bool := isW k && (cut k v == v)
/-- a + b, a - b in words of that width. -/
def summ (k a b : Int) : Int := cut k ((cut k a + cut k b) % 18446744073709551616)
def lss (k a b : Int) : Int := cut k ((cut k a - cut k b) % 18446744073709551616)
theorem summ_range (k a b : Int) : 0 ≤ summ k a b ∧ summ k a b ≤ 18446744073709551615 := cut_range _ _ (by omega) (by omega)
theorem lss_range (k a b : Int) : 0 ≤ lss k a b ∧ lss k a b ≤ 18446744073709551615 := cut_range _ _ (by omega) (by omega)

theorem mask32 (v : Int) (h0 : 0 ≤ v) (h1 : v ≤ 18446744073709551615) : bits BinOp.and IntKind.u64 v 4294967295 = v % 4294967296 := by
  obtain ⟨n, rfl⟩ : ∃ n : Nat, v = n := ⟨v.toNat, by omega⟩
  have := bits_and_u64_nat n 4294967295 (by omega) (by omega)
  rw [show ((4294967295 : Nat) : Int) = 4294967295 from rfl] at this
  rw [this, show (4294967295 : Nat) = 2 ^ 32 - 1 from rfl, Nat.and_two_pow_sub_one_eq_mod]
  omega

set_option maxHeartbeats 400000 in
theorem reduce_any (k v : Int) (h0 : 0 ≤ v) (h1 : v ≤ 18446744073709551615) (w : World) :
    Calls Tryd.prog 29 #[.int .i64 k, .int .u64 v] w fun e w' => e = .returned (.tuple #[.int .u64 (cut k v), .bool (isW k)]) ∧ w = w' := by
  by_cases h64 : k = 64
  · subst h64
    rw [cut64, show isW 64 = true from rfl]
    go_enter Tryd.func29, Tryd.ntmps29
    go_wp2
    go_ret2
    exact ⟨rfl, rfl⟩
  · by_cases h32 : k = 32
    · subst h32
      rw [cut32, show isW 32 = true from rfl, ← mask32 v h0 h1]
      clear h0 h1
      go_enter Tryd.func29, Tryd.ntmps29
      go_wp2
      go_ret2
      exact ⟨rfl, rfl⟩
    · rw [cut_no v h64 h32, show isW k = false by simp [isW, h64, h32]]
      go_enter Tryd.func29, Tryd.ntmps29
      go_wp2
      go_ret2
      exact ⟨rfl, rfl⟩

set_option maxHeartbeats 400000 in
theorem cut_any (k v : Int) (h0 : 0 ≤ v) (h1 : v ≤ 18446744073709551615) (w : World) :
    Calls Tryd.prog 10 #[.int .i64 k, .int .u64 v] w fun e w' => e = .returned (.int .u64 (cut k v)) ∧ w = w' := by
  go_enter Tryd.func10, Tryd.ntmps10
  go_wp2_with (go_at_call 29; refine (reduce_any k v h0 h1 _).mono ?_; rintro e w' ⟨rfl, rfl⟩)
  go_ret
  exact ⟨rfl, rfl⟩

set_option maxHeartbeats 400000 in
theorem fits_any (k v : Int) (h0 : 0 ≤ v) (h1 : v ≤ 18446744073709551615) (w : World) :
    Calls Tryd.prog 12 #[.int .i64 k, .int .u64 v] w fun e w' => e = .returned (.bool (fits k v)) ∧ w = w' := by
  by_cases hw : isW k = true
  · go_enter Tryd.func12, Tryd.ntmps12
    go_wp2_with (go_at_call 29; refine (reduce_any k v h0 h1 _).mono ?_; rintro e w' ⟨rfl, rfl⟩)
    go_ret
    exact ⟨by simp [fits, hw], rfl⟩
  · have hw' : isW k = false := by simpa using hw
    go_enter Tryd.func12, Tryd.ntmps12
    go_wp2_with (go_at_call 29; refine (reduce_any k v h0 h1 _).mono ?_; rintro e w' ⟨rfl, rfl⟩)
    go_ret
    exact ⟨by simp [fits, hw'], rfl⟩

set_option maxHeartbeats 400000 in
theorem sum_any (k a b : Int) (h0 : 0 ≤ a) (h1 : a ≤ 18446744073709551615) (h2 : 0 ≤ b) (h3 : b ≤ 18446744073709551615) (w : World) :
    Calls Tryd.prog 14 #[.int .i64 k, .int .u64 a, .int .u64 b] w fun e w' => e = .returned (.int .u64 (summ k a b)) ∧ w = w' := by
  go_enter Tryd.func14, Tryd.ntmps14
  go_wp2_with fail
  refine (cut_any k a h0 h1 _).mono ?_
  rintro e w' ⟨rfl, rfl⟩
  go_wp2_with fail
  refine (cut_any k b h2 h3 _).mono ?_
  rintro e w' ⟨rfl, rfl⟩
  go_wp2_with fail
  refine (cut_any k _ ?_ ?_ _).mono ?_
  · rw [IntKind.wrap_u64]; omega
  · rw [IntKind.wrap_u64]; omega
  rintro e w' ⟨rfl, rfl⟩
  go_wp2_with fail
  go_ret
  exact ⟨by rw [summ, ← IntKind.wrap_u64]; rfl, rfl⟩

set_option maxHeartbeats 400000 in
theorem less_any (k a b : Int) (h0 : 0 ≤ a) (h1 : a ≤ 18446744073709551615) (h2 : 0 ≤ b) (h3 : b ≤ 18446744073709551615) (w : World) :
    Calls Tryd.prog 16 #[.int .i64 k, .int .u64 a, .int .u64 b] w fun e w' => e = .returned (.int .u64 (lss k a b)) ∧ w = w' := by
  go_enter Tryd.func16, Tryd.ntmps16
  go_wp2_with fail
  refine (cut_any k a h0 h1 _).mono ?_
  rintro e w' ⟨rfl, rfl⟩
  go_wp2_with fail
  refine (cut_any k b h2 h3 _).mono ?_
  rintro e w' ⟨rfl, rfl⟩
  go_wp2_with fail
  refine (cut_any k _ ?_ ?_ _).mono ?_
  · rw [IntKind.wrap_u64]; omega
  · rw [IntKind.wrap_u64]; omega
  rintro e w' ⟨rfl, rfl⟩
  go_wp2_with fail
  go_ret
  exact ⟨by rw [lss, ← IntKind.wrap_u64]; rfl, rfl⟩

set_option maxHeartbeats 400000 in
theorem rcut_any (k v : Int) (h0 : 0 ≤ v) (h1 : v ≤ 18446744073709551615) (w : World) :
    Calls Tryd.prog 11 #[.int .i64 k, .int .u64 v] w fun e w' => e = .returned (.int .u64 (cut k v)) ∧ w = w' := by
  by_cases h64 : k = 64
  · subst h64
    rw [cut64]
    go_enter Tryd.func11, Tryd.ntmps11
    go_wp2
    go_ret
    exact ⟨rfl, rfl⟩
  · by_cases h32 : k = 32
    · subst h32
      rw [cut32]
      go_enter Tryd.func11, Tryd.ntmps11
      go_wp2
      go_ret
      exact ⟨rfl, rfl⟩
    · rw [cut_no v h64 h32]
      go_enter Tryd.func11, Tryd.ntmps11
      go_wp2
      go_ret
      exact ⟨rfl, rfl⟩

set_option maxHeartbeats 400000 in
theorem rsum_any (k a b : Int) (h0 : 0 ≤ a) (h1 : a ≤ 18446744073709551615) (h2 : 0 ≤ b) (h3 : b ≤ 18446744073709551615) (w : World) :
    Calls Tryd.prog 15 #[.int .i64 k, .int .u64 a, .int .u64 b] w fun e w' => e = .returned (.int .u64 (summ k a b)) ∧ w = w' := by
  go_enter Tryd.func15, Tryd.ntmps15
  go_wp2_with fail
  refine (rcut_any k a h0 h1 _).mono ?_
  rintro e w' ⟨rfl, rfl⟩
  go_wp2_with fail
  refine (rcut_any k b h2 h3 _).mono ?_
  rintro e w' ⟨rfl, rfl⟩
  go_wp2_with fail
  refine (rcut_any k _ ?_ ?_ _).mono ?_
  · rw [IntKind.wrap_u64]; omega
  · rw [IntKind.wrap_u64]; omega
  rintro e w' ⟨rfl, rfl⟩
  go_wp2_with fail
  go_ret
  exact ⟨by rw [summ, ← IntKind.wrap_u64]; rfl, rfl⟩

set_option maxHeartbeats 400000 in
theorem rless_any (k a b : Int) (h0 : 0 ≤ a) (h1 : a ≤ 18446744073709551615) (h2 : 0 ≤ b) (h3 : b ≤ 18446744073709551615) (w : World) :
    Calls Tryd.prog 17 #[.int .i64 k, .int .u64 a, .int .u64 b] w fun e w' => e = .returned (.int .u64 (lss k a b)) ∧ w = w' := by
  go_enter Tryd.func17, Tryd.ntmps17
  go_wp2_with fail
  refine (rcut_any k a h0 h1 _).mono ?_
  rintro e w' ⟨rfl, rfl⟩
  go_wp2_with fail
  refine (rcut_any k b h2 h3 _).mono ?_
  rintro e w' ⟨rfl, rfl⟩
  go_wp2_with fail
  refine (rcut_any k _ ?_ ?_ _).mono ?_
  · rw [IntKind.wrap_u64]; omega
  · rw [IntKind.wrap_u64]; omega
  rintro e w' ⟨rfl, rfl⟩
  go_wp2_with fail
  go_ret
  exact ⟨by rw [lss, ← IntKind.wrap_u64]; rfl, rfl⟩

set_option maxHeartbeats 400000 in
theorem rfits_any (k v : Int) (h0 : 0 ≤ v) (h1 : v ≤ 18446744073709551615) (w : World) :
    Calls Tryd.prog 13 #[.int .i64 k, .int .u64 v] w fun e w' => e = .returned (.bool (fits k v)) ∧ w = w' := by
  by_cases h64 : k = 64
  · subst h64
    go_enter Tryd.func13, Tryd.ntmps13
    go_wp2_with (go_at_call 11; refine (rcut_any 64 v h0 h1 _).mono ?_; rintro e w' ⟨rfl, rfl⟩)
    go_ret
    exact ⟨by simp [fits, isW], rfl⟩
  · by_cases h32 : k = 32
    · subst h32
      go_enter Tryd.func13, Tryd.ntmps13
      go_wp2_with (go_at_call 11; refine (rcut_any 32 v h0 h1 _).mono ?_; rintro e w' ⟨rfl, rfl⟩)
      go_ret
      exact ⟨by simp [fits, isW], rfl⟩
    · go_enter Tryd.func13, Tryd.ntmps13
      go_wp2_with fail
      go_ret
      exact ⟨by simp [fits, isW, h64, h32], rfl⟩

/-- The numbers' common bits. -/
def meets (a b : Int) : Bool := bits BinOp.and IntKind.u64 a b != 0
set_option maxHeartbeats 400000 in
theorem meet_any (a b : Int) (w : World) :
    Calls Tryd.prog 18 #[.int .u64 a, .int .u64 b] w fun e w' => e = .returned (.bool (meets a b)) ∧ w = w' := by
  go_enter Tryd.func18, Tryd.ntmps18
  go_wp2
  go_ret
  exact ⟨rfl, rfl⟩

/-- The bucket, of n, of an address. -/
def bucket (a n : Int) : Int := if n < 1 then 0 else (a * 11400714819323198485 % 18446744073709551616) / 4294967296 % n
set_option maxHeartbeats 400000 in
theorem bucket_no (a n : Int) (hn : n < 1) (w : World) :
    Calls Tryd.prog 20 #[.int .u64 a, .int .i64 n] w fun e w' => e = .returned (.int .i64 (bucket a n)) ∧ w = w' := by
  rw [bucket, if_pos hn]
  go_enter Tryd.func20, Tryd.ntmps20
  go_wp2
  go_ret
  exact ⟨rfl, rfl⟩
theorem bucket_eq (a n : Int) (hn : 1 ≤ n) (hn' : n ≤ 9223372036854775807) : wrap64 ((IntKind.u64.wrap (a * 11400714819323198485) / 4294967296).tmod n) = bucket a n := by
  rw [bucket, if_neg (by omega), IntKind.wrap_u64]
  have h0 : 0 ≤ a * 11400714819323198485 % 18446744073709551616 := Int.emod_nonneg _ (by omega)
  generalize a * 11400714819323198485 % 18446744073709551616 = x at h0
  rw [Int.tmod_eq_emod_of_nonneg (by omega)]
  have h1 := Int.emod_nonneg (x / 4294967296) (show n ≠ 0 by omega)
  have h2 := Int.emod_lt_of_pos (x / 4294967296) (show 0 < n by omega)
  exact IntWalk.wrap64_in _ ⟨by omega, by omega⟩
theorem bucket_range (a n : Int) (hn : 1 ≤ n) : 0 ≤ bucket a n ∧ bucket a n < n := by
  rw [bucket, if_neg (by omega)]
  exact ⟨Int.emod_nonneg _ (by omega), Int.emod_lt_of_pos _ (by omega)⟩
set_option maxHeartbeats 400000 in
theorem bucket_yes (a n : Int) (hn : 1 ≤ n) (hn' : n ≤ 9223372036854775807) (w : World) :
    Calls Tryd.prog 20 #[.int .u64 a, .int .i64 n] w fun e w' => e = .returned (.int .i64 (bucket a n)) ∧ w = w' := by
  rw [← bucket_eq a n hn hn']
  go_enter Tryd.func20, Tryd.ntmps20
  go_wp2
  go_ret
  exact ⟨rfl, rfl⟩
theorem bucket_any (a n : Int) (hn' : n ≤ 9223372036854775807) (w : World) :
    Calls Tryd.prog 20 #[.int .u64 a, .int .i64 n] w fun e w' => e = .returned (.int .i64 (bucket a n)) ∧ w = w' := by
  by_cases hn : n < 1
  · exact bucket_no a n hn w
  · exact bucket_yes a n (by omega) hn' w
set_option maxHeartbeats 400000 in
theorem rbucket_no (a n : Int) (hn : n < 1) (w : World) :
    Calls Tryd.prog 21 #[.int .u64 a, .int .i64 n] w fun e w' => e = .returned (.int .i64 (bucket a n)) ∧ w = w' := by
  rw [bucket, if_pos hn]
  go_enter Tryd.func21, Tryd.ntmps21
  go_wp2
  go_ret
  exact ⟨rfl, rfl⟩
set_option maxHeartbeats 400000 in
theorem rbucket_yes (a n : Int) (hn : 1 ≤ n) (hn' : n ≤ 9223372036854775807) (w : World) :
    Calls Tryd.prog 21 #[.int .u64 a, .int .i64 n] w fun e w' => e = .returned (.int .i64 (bucket a n)) ∧ w = w' := by
  rw [← bucket_eq a n hn hn']
  go_enter Tryd.func21, Tryd.ntmps21
  go_wp2
  go_ret
  exact ⟨rfl, rfl⟩
theorem rbucket_any (a n : Int) (hn' : n ≤ 9223372036854775807) (w : World) :
    Calls Tryd.prog 21 #[.int .u64 a, .int .i64 n] w fun e w' => e = .returned (.int .i64 (bucket a n)) ∧ w = w' := by
  by_cases hn : n < 1
  · exact rbucket_no a n hn w
  · exact rbucket_yes a n (by omega) hn' w
end Go.Proofs.YtklmnhklgojacaaDoor
