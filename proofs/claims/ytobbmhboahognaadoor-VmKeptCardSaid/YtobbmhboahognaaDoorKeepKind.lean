/- Contract of the statements' help kind: of an error that bears a kind of the ten it returns that kind; the world as it was. -/
import Derived.Test.YtobbmhboahognaaDoorErrs
namespace Go.Proofs.YtobbmhboahognaaDoor
open Go.RowKit

set_option maxHeartbeats 1000000 in
set_option maxRecDepth 100000 in
theorem kind_any {W : World} (E : Value) (l : List (ByteArray × Int)) (kk : Int) (hE : ErrAt W E l kk) (h1 : 1 ≤ kk) (h10 : kk ≤ 10) :
    Calls Tryd.prog 52 #[E] W fun e w' => e = .returned (.int .i64 kk) ∧ W = w' := by
  have IE := Lib.hid (fun t => is_err E l kk t hE)
  obtain ⟨u1, v1, rfl⟩ := hE.iface
  clear hE
  go_enter Tryd.func52, Tryd.ntmps52
  go_wp2
  go_loop [3, 4] (fun vf vk => ∃ i F : Int, 1 ≤ i ∧ i ≤ 11 ∧ vk = .int .i64 i ∧ vf = .int .i64 F ∧ Hid (F = if kk < i then kk else 0)) (fun _ i => (11 - intOf i).toNat)
  case atStart => exact ⟨1, 0, by omega, by omega, rfl, rfl, Lib.hid (by rw [if_neg (by omega)])⟩
  case round =>
    obtain ⟨i, F, hi1, hi2, rfl, rfl, hF⟩ := hrel
    by_cases hlt : i ≤ 10
    · by_cases he : kk = i
      · have c := IE.out i
        rw [show (kk == i) = true from beq_iff_eq.2 he] at c
        have C := Lib.hid c
        have hF0 : F = 0 := by rw [hF.out, if_neg (by omega)]
        subst hF0
        have hF' : i = if kk < i + 1 then kk else 0 := by rw [if_pos (by omega), he]
        have HF := Lib.hid hF'
        clear c he hF hF'
        go_wp2_with (go_at_call 82; refine C.out.mono ?_; rintro e w' ⟨rfl, rfl⟩)
        go_round
        case rel => exact ⟨i + 1, i, by omega, by omega, rfl, rfl, HF⟩
        case measure => simp [intOf]; omega
      · have c := IE.out i
        rw [show (kk == i) = false from beq_eq_false_iff_ne.2 he] at c
        have C := Lib.hid c
        have hF' : F = if kk < i + 1 then kk else 0 := by
          rw [hF.out]
          by_cases h : kk < i
          · rw [if_pos h, if_pos (by omega)]
          · rw [if_neg h, if_neg (by omega)]
        have HF := Lib.hid hF'
        clear c he hF hF'
        go_wp2_with (go_at_call 82; refine C.out.mono ?_; rintro e w' ⟨rfl, rfl⟩)
        go_round
        case rel => exact ⟨i + 1, F, by omega, by omega, rfl, rfl, HF⟩
        case measure => simp [intOf]; omega
    · have hFk : F = kk := by rw [hF.out, if_pos (by omega)]
      subst hFk
      clear hF
      go_wp2
      go_ret
      exact ⟨rfl, rfl⟩
end Go.Proofs.YtobbmhboahognaaDoor
