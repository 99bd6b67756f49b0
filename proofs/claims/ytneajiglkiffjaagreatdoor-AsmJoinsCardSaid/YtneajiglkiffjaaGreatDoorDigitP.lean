/- Contracts of package word's digit, withDigit and noNumeral, and of the document's answers' digit: what each returns; the world as it was, or one new cell block for the error. -/
import Derived.Test.YtneajiglkiffjaaGreatDoorPlain
import Derived.Test.YtneajiglkiffjaaGreatDoorShelf
import Derived.WalkKit
import Derived.WalkSpells
import Derived.WalkLawsBesides
import Derived.Lib.Hide
import Derived.Laws.Externs
namespace Go.Proofs.YtneajiglkiffjaaGreatDoor
open Go.RowKit

set_option maxHeartbeats 400000 in
theorem digit_any (c : Nat) (hc : c < 256) (w : World) :
    Calls Tryz.prog 110 #[.int .u8 c] w fun e w' => e = .returned (.int .u64 (dig c)) ∧ w = w' := by
  by_cases h1 : 48 ≤ c ∧ c ≤ 57
  · obtain ⟨a, b⟩ := h1
    have e : ((dig c : Nat) : Int) = (c : Int) - 48 := by simp only [dig, if_pos (And.intro a b)]; omega
    rw [e]; clear e
    go_enter Tryz.func110, Tryz.ntmps110
    go_wp2
    go_ret
    exact ⟨rfl, rfl⟩
  · by_cases h2 : 97 ≤ c ∧ c ≤ 102
    · obtain ⟨a, b⟩ := h2
      have e : ((dig c : Nat) : Int) = (c : Int) - 97 + 10 := by simp only [dig, if_neg h1, if_pos (And.intro a b)]; omega
      rw [e]; clear e h1
      go_enter Tryz.func110, Tryz.ntmps110
      go_wp2
      go_ret
      exact ⟨rfl, rfl⟩
    · by_cases h3 : 65 ≤ c ∧ c ≤ 70
      · obtain ⟨a, b⟩ := h3
        have e : ((dig c : Nat) : Int) = (c : Int) + 32 - 97 + 10 := by simp only [dig, if_neg h1, if_neg h2, if_pos (And.intro a b)]; omega
        rw [e]; clear e h1 h2
        go_enter Tryz.func110, Tryz.ntmps110
        go_wp2
        go_ret
        exact ⟨rfl, rfl⟩
      · have e : dig c = 16 := by simp only [dig, if_neg h1, if_neg h2, if_neg h3]
        rw [e]; clear e
        go_enter Tryz.func110, Tryz.ntmps110
        go_wp2
        all_goals go_ret
        all_goals exact ⟨rfl, rfl⟩


theorem add64_0 (x y : Int) (hx : 0 ≤ x) (hy : 0 ≤ y) (w : World) : (callFunc 122 #[.int .u64 x, .int .u64 y, .int .u64 0]).run Tryz.prog w =
    .ok (.value (.tuple #[.int .u64 ((x + y) % 18446744073709551616), .int .u64 ((x + y) / 18446744073709551616)])) w := by
  rw [run_callFunc_extern Tryz.func122 (by kernel_rfl) (by kernel_rfl) (by kernel_rfl) (e := add64Entry) (by kernel_rfl), run_add64 x y 0 (by omega) (by omega) (by omega) (by omega)]
  simp only [Result.andThen, Int.add_zero]

set_option maxHeartbeats 400000 in
/-- withDigit where the number still is a word. -/
theorem withDigit_ok (v b d : Nat) (hv : v < 18446744073709551616) (hb : b < 18446744073709551616) (hs : v * b + d < 18446744073709551616) (w : World) :
    Calls Tryz.prog 112 #[.int .u64 v, .int .u64 b, .int .u64 d] w fun e w' => e = .returned (.tuple #[.int .u64 ((v * b + d : Nat) : Int), .bool true]) ∧ w = w' := by
  have c := Tryz.bits_Mul64 v b hv hb
  rw [Nat.div_eq_of_lt (show v * b < _ by omega), Nat.mod_eq_of_lt (show v * b < _ by omega)] at c
  generalize v * b = p at hs c
  have a := add64_0 p d (by omega) (by omega)
  rw [Int.emod_eq_of_lt (show 0 ≤ (p : Int) + d by omega) (show (p : Int) + d < 18446744073709551616 by omega), Int.ediv_eq_zero_of_lt (show 0 ≤ (p : Int) + d by omega) (show (p : Int) + d < 18446744073709551616 by omega)] at a
  have C := Lib.hid c
  clear c
  go_enter Tryz.func112, Tryz.ntmps112
  go_wp2_with (go_at_call 121; refine (C.out _).mono ?_; rintro e w' ⟨rfl, rfl⟩)
  go_ret2
  exact ⟨rfl, rfl⟩
set_option maxHeartbeats 400000 in
/-- withDigit where it is one no longer. -/
theorem withDigit_no (v b d : Nat) (hv : v < 18446744073709551616) (hb : b < 18446744073709551616) (hd : d < 18446744073709551616) (hs : 18446744073709551616 ≤ v * b + d) (w : World) :
    Calls Tryz.prog 112 #[.int .u64 v, .int .u64 b, .int .u64 d] w fun e w' => e = .returned (.tuple #[.int .u64 0, .bool false]) ∧ w = w' := by
  have c := Tryz.bits_Mul64 v b hv hb
  generalize v * b = p at hs c
  obtain ⟨hi, ehi⟩ : ∃ hi, hi = p / 18446744073709551616 := ⟨_, rfl⟩
  obtain ⟨lo, elo⟩ : ∃ lo, lo = p % 18446744073709551616 := ⟨_, rfl⟩
  rw [← ehi, ← elo] at c
  have l1 : lo < 18446744073709551616 := by omega
  have a := add64_0 lo d (by omega) (by omega)
  obtain ⟨s1, es1⟩ : ∃ s1, s1 = ((lo : Int) + d) % 18446744073709551616 := ⟨_, rfl⟩
  obtain ⟨s2, es2⟩ : ∃ s2, s2 = ((lo : Int) + d) / 18446744073709551616 := ⟨_, rfl⟩
  rw [← es1, ← es2] at a
  have C := Lib.hid c
  clear c
  by_cases h0 : hi = 0
  · have h2 : (s2 != 0) = true := by simp; omega
    have h3 : ((hi : Int) != 0) = false := by simp [h0]
    clear hs ehi elo es1 es2 h0
    go_enter Tryz.func112, Tryz.ntmps112
    go_wp2_with (go_at_call 121; refine (C.out _).mono ?_; rintro e w' ⟨rfl, rfl⟩)
    go_ret2
    exact ⟨rfl, rfl⟩
  · have h3 : ((hi : Int) != 0) = true := by simp [h0]
    clear hs ehi elo es1 es2 h0
    go_enter Tryz.func112, Tryz.ntmps112
    go_wp2_with (go_at_call 121; refine (C.out _).mono ?_; rintro e w' ⟨rfl, rfl⟩)
    go_ret2
    exact ⟨rfl, rfl⟩

set_option maxHeartbeats 400000 in
theorem noNumeral_any (n : Int) (w : World) :
    Calls Tryz.prog 111 #[.int .i64 n] w fun e w' => e = .returned (.iface 69 (.pointer (some ⟨w.heap.size, 0, none⟩))) ∧ w' = w.alloc (.cells #[.string ⟨#[119, 111, 114, 100]⟩, .int .i64 n, .iface 49 (.int .i64 6)] 73) := by
  go_enter Tryz.func111, Tryz.ntmps111
  go_wp2
  go_ret
  exact ⟨rfl, rfl⟩
end Go.Proofs.YtneajiglkiffjaaGreatDoor
