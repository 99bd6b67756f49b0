/- Contract of the document's answer to Print: the number's decimal digits; the world as it was. -/
import Derived.Test.YtklmnhklgojacaaDoorProg
import Derived.Lib.ItoaNum
import Derived.Lib.ItoaLen
import Derived.WalkKit
import Derived.WalkSpells
import Derived.WalkLawsBesides
import Derived.Lib.Hide
namespace Go.Proofs.YtklmnhklgojacaaDoor
open Go.RowKit

/-- "0123456789". -/
def digits10 : ByteArray := ⟨#[48, 49, 50, 51, 52, 53, 54, 55, 56, 57]⟩
theorem digits10_size : digits10.size = 10 := by decide +kernel
theorem digits10_one (d : Nat) (h : d < 10) : digits10.extract d (d + 1) = ⟨#[UInt8.ofNat (48 + d)]⟩ := by
  have : d = 0 ∨ d = 1 ∨ d = 2 ∨ d = 3 ∨ d = 4 ∨ d = 5 ∨ d = 6 ∨ d = 7 ∨ d = 8 ∨ d = 9 := by omega
  rcases this with rfl | rfl | rfl | rfl | rfl | rfl | rfl | rfl | rfl | rfl <;> decide +kernel
theorem decDigits_last (v : Nat) (h : v / 10 = 0) : Lib.decDigits v = [UInt8.ofNat (48 + v % 10)] := by
  rw [Lib.decDigits_one (show v < 10 by omega), Nat.mod_eq_of_lt (show v < 10 by omega)]
theorem decDigits_more (v : Nat) (h : ¬ v / 10 = 0) : Lib.decDigits v = Lib.decDigits (v / 10) ++ [UInt8.ofNat (48 + v % 10)] := by
  rw [Lib.decDigits, dif_neg (show ¬ v < 10 by omega)]

theorem glue (c : UInt8) (t : List UInt8) : (⟨#[c]⟩ : ByteArray) ++ (⟨t.toArray⟩ : ByteArray) = ⟨(c :: t).toArray⟩ := by
  apply ByteArray.ext
  simp [ByteArray.data_append]

set_option maxHeartbeats 1000000 in
set_option maxRecDepth 100000 in
theorem refprint_any (u : Nat) (hu : u < 18446744073709551616) (w : World) :
    Calls Tryd.prog 23 #[.int .u64 u] w fun e w' => e = .returned (.string ⟨(Lib.decDigits u).toArray⟩) ∧ w = w' := by
  have h20 : (Lib.decDigits u).length ≤ 20 := by rw [Lib.decDigits_length]; exact Lib.nDigits_le20 u hu
  obtain ⟨U, hU⟩ : ∃ U, U = Lib.decDigits u := ⟨_, rfl⟩
  rw [← hU] at h20 ⊢
  have HU := Lib.hid hU
  clear hU
  go_enter Tryd.func23, Tryd.ntmps23
  go_wp2
  go_loop [0, 3] (fun vv vs => ∃ (v : Nat) (t : List UInt8), v < 18446744073709551616 ∧ vv = .int .u64 v ∧ vs = .string ⟨t.toArray⟩ ∧ t.length ≤ 20 ∧ Hid (U = Lib.decDigits v ++ t)) (fun v _ => (intOf v).toNat)
  case atStart => exact ⟨u, [], hu, rfl, rfl, by simp, Lib.hid (by rw [HU.out, List.append_nil])⟩
  case round =>
    obtain ⟨v, t, hv, rfl, rfl, ht, hs⟩ := hrel
    obtain ⟨c, hc⟩ : ∃ c : UInt8, c = UInt8.ofNat (48 + v % 10) := ⟨_, rfl⟩
    have hsl : ∀ w, (Instr.slice 9 (.string ⟨#[48, 49, 50, 51, 52, 53, 54, 55, 56, 57]⟩) (some (.int .u64 ((v : Int) % 10))) (some (.int .u64 ((v : Int) % 10 + 1))) none).run Tryd.prog w = .ok (.string ⟨#[c]⟩) w := fun w => by
      show (Instr.slice 9 (.string digits10) (some (.int .u64 ((v : Int) % 10))) (some (.int .u64 ((v : Int) % 10 + 1))) none).run Tryd.prog w = _
      rw [run_slice_string w 9 digits10 .u64 .u64 _ _ Tryd.underlying9 (by omega) (by omega) (by rw [digits10_size]; omega), show ((v : Int) % 10).toNat = v % 10 by omega, show ((v : Int) % 10 + 1).toNat = v % 10 + 1 by omega, digits10_one _ (by omega), hc]
    have HC := Lib.hid hc
    clear hc
    by_cases h0 : v / 10 = 0
    · have fin : U = c :: t := by rw [hs.out, decDigits_last v h0, HC.out]; rfl
      have FIN := Lib.hid fin
      have t0 : ((v : Int) / 10 == 0) = true := beq_iff_eq.2 (by omega)
      clear fin hs h0
      go_wp2
      go_ret
      rw [FIN.out]
      exact ⟨congrArg (fun x => Ending.returned (Value.string x)) (glue c t), rfl⟩
    · have fin : U = Lib.decDigits (v / 10) ++ c :: t := by rw [hs.out, decDigits_more v h0, HC.out, List.append_assoc]; rfl
      have FIN := Lib.hid fin
      have t0 : ((v : Int) / 10 == 0) = false := beq_eq_false_iff_ne.2 (by omega)
      have hl : (c :: t).length ≤ 20 := by rw [fin, List.length_append] at h20; omega
      have h0' : 10 ≤ v := by omega
      clear fin hs h0
      go_wp2
      go_round
      case rel => exact ⟨v / 10, c :: t, by omega, by go_num, congrArg Value.string (glue c t), hl, FIN⟩
      case measure => simp [intOf]; omega
end Go.Proofs.YtklmnhklgojacaaDoor
