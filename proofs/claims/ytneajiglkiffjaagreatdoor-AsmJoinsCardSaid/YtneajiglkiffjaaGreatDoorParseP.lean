/- Contract of word.Parse: of every text it returns the number, or 0 and an error of one place in one new block, as readAll says; nothing that was there has changed. No condition but the text's length, an int. -/
import Derived.Test.YtneajiglkiffjaaGreatDoorDigitP
namespace Go.Proofs.YtneajiglkiffjaaGreatDoor
open Go.RowKit

/-- What Parse leaves. -/
def ParsePost (r : Read) (w : World) (e : Ending) (w' : World) : Prop := match r with
  | .ok v => e = .returned (.tuple #[.int .u64 v, .nilIface]) ∧ w = w'
  | .bad n => e = .returned (.tuple #[.int .u64 0, .iface 69 (.pointer (some ⟨w.heap.size, 0, none⟩))]) ∧ w' = w.alloc (.cells #[.string ⟨#[119, 111, 114, 100]⟩, .int .i64 n, .iface 49 (.int .i64 6)] 73)

theorem readOn_nil (b f m k v : Nat) (h : k = f) : readOn b f m [] k v = .bad f := by rw [readOn, if_pos h]
theorem readOn_end (b f m k v : Nat) (h : ¬ k = f) : readOn b f m [] k v = .ok v := by rw [readOn, if_neg h]
theorem readOn_bad (b f m k v : Nat) (c : UInt8) (r : List UInt8) (h : b ≤ dig c.toNat ∨ k = f + m ∨ 18446744073709551616 ≤ v * b + dig c.toNat) : readOn b f m (c :: r) k v = .bad k := by rw [readOn, if_pos h]
theorem readOn_on (b f m k v : Nat) (c : UInt8) (r : List UInt8) (h : ¬ (b ≤ dig c.toNat ∨ k = f + m ∨ 18446744073709551616 ≤ v * b + dig c.toNat)) : readOn b f m (c :: r) k v = readOn b f m r (k + 1) (v * b + dig c.toNat) := by rw [readOn, if_neg h]
theorem drop_at (s : ByteArray) (k : Nat) (h : k < s.size) : s.data.toList.drop k = s[k] :: s.data.toList.drop (k + 1) := by
  rw [List.drop_eq_getElem_cons (by simpa using h)]; rfl
theorem drop_end (s : ByteArray) (k : Nat) (h : ¬ k < s.size) : s.data.toList.drop k = [] := List.drop_of_length_le (by simpa using h)

set_option maxHeartbeats 1000000 in
set_option maxRecDepth 100000 in
theorem parse10 (s : ByteArray) (hp : Lib.hasPrefix s.data.toList [48, 120] = false) (hf : 0 ≤ s.size) (w : World) :
    Calls Tryz.prog 98 #[.string s] w (ParsePost (readOn 10 0 20 (s.data.toList.drop 0) 0 0) w) := by
  have HP := Lib.hid hp
  clear hp
  obtain ⟨R, hR⟩ : ∃ R, R = readOn 10 0 20 (s.data.toList.drop 0) 0 0 := ⟨_, rfl⟩
  rw [← hR]
  have hR0 := Lib.hid hR
  clear hR
  go_enter Tryz.func98, Tryz.ntmps98
  go_wp2_with (go_at_call 76; refine (Tryz.strings_HasPrefix s ⟨#[48, 120]⟩ _).mono ?_; rintro e w' ⟨rfl, rfl⟩; rw [show ((⟨#[48, 120]⟩ : ByteArray)).data.toList = [48, 120] from rfl, HP.out])
  go_loop [7, 8] (fun vv vi => ∃ k v : Nat, 0 ≤ k ∧ k ≤ s.size ∧ k ≤ 20 ∧ v < 18446744073709551616 ∧ vi = .int .i64 k ∧ vv = .int .u64 v ∧ Hid (R = readOn 10 0 20 (s.data.toList.drop k) k v)) (fun _ i => s.size - (intOf i).toNat)
  case atStart => exact ⟨0, 0, by omega, hf, by omega, by omega, rfl, rfl, hR0⟩
  case round =>
    obtain ⟨k, v, hk1, hk2, hk3, hv, rfl, rfl, hr⟩ := hrel
    by_cases hlt : k < s.size
    · have hd := drop_at s k hlt
      have cd := digit_any s[k].toNat (by have := s[k].toNat_lt; omega)
      have hdl := dig_le s[k].toNat
      have r1 := hr.out
      rw [hd] at r1
      have r2 := Lib.hid r1
      clear r1 hr hd
      obtain ⟨d, ed⟩ : ∃ d, d = dig s[k].toNat := ⟨_, rfl⟩
      rw [← ed] at cd hdl
      have CD := Lib.hid cd
      have ED := Lib.hid ed
      clear cd ed
      have nn := fun W => noNumeral_any (k : Int) W
      have NN := Lib.hid nn
      clear nn
      by_cases hb : 10 ≤ d
      · have fin : R = .bad k := by rw [r2.out, readOn_bad _ _ _ _ _ _ _ (Or.inl (by rw [← ED.out]; exact hb))]
        have FIN := Lib.hid fin
        clear fin r2
        go_wp2_with (first | (go_at_call 110; refine (CD.out _).mono ?_; rintro e w' ⟨rfl, rfl⟩) | (go_at_call 111; refine (NN.out _).mono ?_; rintro e w' ⟨rfl, rfl⟩))
        go_ret2
        rw [FIN.out]
        exact ⟨rfl, rfl⟩
      · by_cases hm : k = 20
        · have fin : R = .bad k := by rw [r2.out, readOn_bad _ _ _ _ _ _ _ (Or.inr (Or.inl hm))]
          have FIN := Lib.hid fin
          clear fin r2
          have tm : ((k : Int) == 20) = true := beq_iff_eq.2 (by omega)
          clear hm
          go_wp2_with (first | (go_at_call 110; refine (CD.out _).mono ?_; rintro e w' ⟨rfl, rfl⟩) | (go_at_call 111; refine (NN.out _).mono ?_; rintro e w' ⟨rfl, rfl⟩))
          go_ret2
          rw [FIN.out]
          exact ⟨rfl, rfl⟩
        · have tm : ((k : Int) == 20) = false := beq_eq_false_iff_ne.2 (by omega)
          by_cases ho : 18446744073709551616 ≤ v * 10 + d
          · have fin : R = .bad k := by rw [r2.out, readOn_bad _ _ _ _ _ _ _ (Or.inr (Or.inr (by rw [← ED.out]; exact ho)))]
            have FIN := Lib.hid fin
            have WD := Lib.hid (fun W => withDigit_no v 10 d hv (by omega) (by omega) ho W)
            clear fin r2 ho hm
            go_wp2_with (first | (go_at_call 110; refine (CD.out _).mono ?_; rintro e w' ⟨rfl, rfl⟩) | (go_at_call 111; refine (NN.out _).mono ?_; rintro e w' ⟨rfl, rfl⟩) | (go_at_call 112; refine (WD.out _).mono ?_; rintro e w' ⟨rfl, rfl⟩))
            go_ret2
            rw [FIN.out]
            exact ⟨rfl, rfl⟩
          · have fin : R = readOn 10 0 20 (s.data.toList.drop (k + 1)) (k + 1) (v * 10 + d) := by rw [r2.out, readOn_on _ _ _ _ _ _ _ (by rw [← ED.out]; omega), ← ED.out]
            obtain ⟨v', ev⟩ : ∃ v', v' = v * 10 + d := ⟨_, rfl⟩
            rw [← ev] at fin
            have FIN := Lib.hid fin
            have wd := fun W => withDigit_ok v 10 d hv (by omega) (by omega) W
            rw [← ev] at wd
            have hv' : v' < 18446744073709551616 := by omega
            have WD := Lib.hid wd
            clear fin r2 ho wd ev
            go_wp2_with (first | (go_at_call 110; refine (CD.out _).mono ?_; rintro e w' ⟨rfl, rfl⟩) | (go_at_call 112; refine (WD.out _).mono ?_; rintro e w' ⟨rfl, rfl⟩))
            go_round
            case rel => exact ⟨k + 1, v', by omega, by omega, by omega, hv', by go_num, rfl, FIN⟩
            case measure => simp [intOf]; omega
    · have hd := drop_end s k hlt
      have r1 := hr.out
      rw [hd] at r1
      clear hd hr
      have NN := Lib.hid (fun W => noNumeral_any 0 W)
      by_cases hz : s.size = 0
      · have fin : R = .bad 0 := by rw [r1, readOn_nil _ _ _ _ _ (by omega)]
        have FIN := Lib.hid fin
        clear fin r1
        have tz : ((s.size : Int) == 0) = true := beq_iff_eq.2 (by omega)
        clear hz
        go_wp2_with (first | (go_at_call 111; refine (NN.out _).mono ?_; rintro e w' ⟨rfl, rfl⟩))
        go_ret2
        rw [FIN.out]
        exact ⟨rfl, rfl⟩
      · have fin : R = .ok v := by rw [r1, readOn_end _ _ _ _ _ (by omega)]
        have FIN := Lib.hid fin
        clear fin r1
        have tz : ((s.size : Int) == 0) = false := beq_eq_false_iff_ne.2 (by omega)
        clear hz
        go_wp2_with (first | (go_at_call 111; refine (NN.out _).mono ?_; rintro e w' ⟨rfl, rfl⟩))
        go_ret2
        rw [FIN.out]
        exact ⟨rfl, rfl⟩

set_option maxHeartbeats 1000000 in
set_option maxRecDepth 100000 in
theorem parse16 (s : ByteArray) (hp : Lib.hasPrefix s.data.toList [48, 120] = true) (hf : 2 ≤ s.size) (w : World) :
    Calls Tryz.prog 98 #[.string s] w (ParsePost (readOn 16 2 16 (s.data.toList.drop 2) 2 0) w) := by
  have HP := Lib.hid hp
  clear hp
  obtain ⟨R, hR⟩ : ∃ R, R = readOn 16 2 16 (s.data.toList.drop 2) 2 0 := ⟨_, rfl⟩
  rw [← hR]
  have hR0 := Lib.hid hR
  clear hR
  go_enter Tryz.func98, Tryz.ntmps98
  go_wp2_with (go_at_call 76; refine (Tryz.strings_HasPrefix s ⟨#[48, 120]⟩ _).mono ?_; rintro e w' ⟨rfl, rfl⟩; rw [show ((⟨#[48, 120]⟩ : ByteArray)).data.toList = [48, 120] from rfl, HP.out])
  go_loop [7, 8] (fun vv vi => ∃ k v : Nat, 2 ≤ k ∧ k ≤ s.size ∧ k ≤ 18 ∧ v < 18446744073709551616 ∧ vi = .int .i64 k ∧ vv = .int .u64 v ∧ Hid (R = readOn 16 2 16 (s.data.toList.drop k) k v)) (fun _ i => s.size - (intOf i).toNat)
  case atStart => exact ⟨2, 0, by omega, hf, by omega, by omega, rfl, rfl, hR0⟩
  case round =>
    obtain ⟨k, v, hk1, hk2, hk3, hv, rfl, rfl, hr⟩ := hrel
    by_cases hlt : k < s.size
    · have hd := drop_at s k hlt
      have cd := digit_any s[k].toNat (by have := s[k].toNat_lt; omega)
      have hdl := dig_le s[k].toNat
      have r1 := hr.out
      rw [hd] at r1
      have r2 := Lib.hid r1
      clear r1 hr hd
      obtain ⟨d, ed⟩ : ∃ d, d = dig s[k].toNat := ⟨_, rfl⟩
      rw [← ed] at cd hdl
      have CD := Lib.hid cd
      have ED := Lib.hid ed
      clear cd ed
      have nn := fun W => noNumeral_any (k : Int) W
      have NN := Lib.hid nn
      clear nn
      by_cases hb : 16 ≤ d
      · have fin : R = .bad k := by rw [r2.out, readOn_bad _ _ _ _ _ _ _ (Or.inl (by rw [← ED.out]; exact hb))]
        have FIN := Lib.hid fin
        clear fin r2
        go_wp2_with (first | (go_at_call 110; refine (CD.out _).mono ?_; rintro e w' ⟨rfl, rfl⟩) | (go_at_call 111; refine (NN.out _).mono ?_; rintro e w' ⟨rfl, rfl⟩))
        go_ret2
        rw [FIN.out]
        exact ⟨rfl, rfl⟩
      · by_cases hm : k = 18
        · have fin : R = .bad k := by rw [r2.out, readOn_bad _ _ _ _ _ _ _ (Or.inr (Or.inl hm))]
          have FIN := Lib.hid fin
          clear fin r2
          have tm : ((k : Int) == 18) = true := beq_iff_eq.2 (by omega)
          clear hm
          go_wp2_with (first | (go_at_call 110; refine (CD.out _).mono ?_; rintro e w' ⟨rfl, rfl⟩) | (go_at_call 111; refine (NN.out _).mono ?_; rintro e w' ⟨rfl, rfl⟩))
          go_ret2
          rw [FIN.out]
          exact ⟨rfl, rfl⟩
        · have tm : ((k : Int) == 18) = false := beq_eq_false_iff_ne.2 (by omega)
          by_cases ho : 18446744073709551616 ≤ v * 16 + d
          · have fin : R = .bad k := by rw [r2.out, readOn_bad _ _ _ _ _ _ _ (Or.inr (Or.inr (by rw [← ED.out]; exact ho)))]
            have FIN := Lib.hid fin
            have WD := Lib.hid (fun W => withDigit_no v 16 d hv (by omega) (by omega) ho W)
            clear fin r2 ho hm
            go_wp2_with (first | (go_at_call 110; refine (CD.out _).mono ?_; rintro e w' ⟨rfl, rfl⟩) | (go_at_call 111; refine (NN.out _).mono ?_; rintro e w' ⟨rfl, rfl⟩) | (go_at_call 112; refine (WD.out _).mono ?_; rintro e w' ⟨rfl, rfl⟩))
            go_ret2
            rw [FIN.out]
            exact ⟨rfl, rfl⟩
          · have fin : R = readOn 16 2 16 (s.data.toList.drop (k + 1)) (k + 1) (v * 16 + d) := by rw [r2.out, readOn_on _ _ _ _ _ _ _ (by rw [← ED.out]; omega), ← ED.out]
            obtain ⟨v', ev⟩ : ∃ v', v' = v * 16 + d := ⟨_, rfl⟩
            rw [← ev] at fin
            have FIN := Lib.hid fin
            have wd := fun W => withDigit_ok v 16 d hv (by omega) (by omega) W
            rw [← ev] at wd
            have hv' : v' < 18446744073709551616 := by omega
            have WD := Lib.hid wd
            clear fin r2 ho wd ev
            go_wp2_with (first | (go_at_call 110; refine (CD.out _).mono ?_; rintro e w' ⟨rfl, rfl⟩) | (go_at_call 112; refine (WD.out _).mono ?_; rintro e w' ⟨rfl, rfl⟩))
            go_round
            case rel => exact ⟨k + 1, v', by omega, by omega, by omega, hv', by go_num, rfl, FIN⟩
            case measure => simp [intOf]; omega
    · have hd := drop_end s k hlt
      have r1 := hr.out
      rw [hd] at r1
      clear hd hr
      have NN := Lib.hid (fun W => noNumeral_any 2 W)
      by_cases hz : s.size = 2
      · have fin : R = .bad 2 := by rw [r1, readOn_nil _ _ _ _ _ (by omega)]
        have FIN := Lib.hid fin
        clear fin r1
        have tz : ((s.size : Int) == 2) = true := beq_iff_eq.2 (by omega)
        clear hz
        go_wp2_with (first | (go_at_call 111; refine (NN.out _).mono ?_; rintro e w' ⟨rfl, rfl⟩))
        go_ret2
        rw [FIN.out]
        exact ⟨rfl, rfl⟩
      · have fin : R = .ok v := by rw [r1, readOn_end _ _ _ _ _ (by omega)]
        have FIN := Lib.hid fin
        clear fin r1
        have tz : ((s.size : Int) == 2) = false := beq_eq_false_iff_ne.2 (by omega)
        clear hz
        go_wp2_with (first | (go_at_call 111; refine (NN.out _).mono ?_; rintro e w' ⟨rfl, rfl⟩))
        go_ret2
        rw [FIN.out]
        exact ⟨rfl, rfl⟩

theorem parse_any (s : ByteArray) (w : World) : Calls Tryz.prog 98 #[.string s] w (ParsePost (readAll s.data.toList) w) := by
  cases hp : Lib.hasPrefix s.data.toList [48, 120] with
  | false =>
    have e : readAll s.data.toList = readOn 10 0 20 (s.data.toList.drop 0) 0 0 := by
      rw [readAll, if_neg (by show ¬ Lib.hasPrefix s.data.toList [48, 120] = true; simp [hp])]; rfl
    rw [e]
    exact parse10 s hp (Nat.zero_le _) w
  | true =>
    have e : readAll s.data.toList = readOn 16 2 16 (s.data.toList.drop 2) 2 0 := by
      rw [readAll, if_pos (by show Lib.hasPrefix s.data.toList [48, 120] = true; exact hp)]
    rw [e]
    refine parse16 s hp ?_ w
    have h1 : [48, 120] <+: s.data.toList := List.isPrefixOf_iff_prefix.1 hp
    have h2 := h1.length_le
    simpa using h2
end Go.Proofs.YtneajiglkiffjaaGreatDoor
