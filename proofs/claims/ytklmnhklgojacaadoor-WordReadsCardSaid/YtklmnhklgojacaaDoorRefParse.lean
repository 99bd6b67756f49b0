/- Contract of the document's answer to Parse: of every text it returns the number, or 0 and the error of one place in three new blocks, as readAll says; nothing that was there has changed. No condition. -/
import Derived.Test.YtklmnhklgojacaaDoorParse
import Derived.Test.YtklmnhklgojacaaDoorKeepNo
namespace Go.Proofs.YtklmnhklgojacaaDoor
open Go.RowKit

/-- What the document's answer leaves. -/
def RefPost (r : Read) (w : World) (e : Ending) (w' : World) : Prop := match r with
  | .ok v => e = .returned (.tuple #[.int .u64 v, .pointer none]) ∧ w = w'
  | .bad n => e = .returned (.tuple #[.int .u64 0, .pointer (some ⟨w.heap.size + 1 + 1, 0, none⟩)]) ∧
      w' = ((w.alloc (.cells #[.string ⟨#[119, 111, 114, 100]⟩] 9)).alloc (.cells #[.int .i64 n] 3)).alloc (.cells #[.slice (some ⟨w.heap.size, 0, none⟩) 1 1, .slice (some ⟨w.heap.size + 1, 0, none⟩) 1 1, .int .i64 6] 59)
theorem dig99_le (b c : Nat) (hb : b ≤ 16) : b ≤ dig99 c ↔ b ≤ dig c := by
  have := dig_le c
  unfold dig99; split <;> omega
theorem dig99_eq (b c : Nat) (hb : b ≤ 16) (h : ¬ b ≤ dig99 c) : dig99 c = dig c := by
  unfold dig99 at *; split <;> rename_i h1
  · rw [if_pos h1] at h; omega
  · rfl

set_option maxHeartbeats 1000000 in
set_option maxRecDepth 100000 in
theorem rparse10a (s : ByteArray) (h2 : s.size < 2) (w : World) :
    Calls Tryd.prog 25 #[.string s] w (RefPost (readOn 10 0 20 (s.data.toList.drop 0) 0 0) w) := by
  obtain ⟨R, hR⟩ : ∃ R, R = readOn 10 0 20 (s.data.toList.drop 0) 0 0 := ⟨_, rfl⟩
  rw [← hR]
  have hR0 := Lib.hid hR
  clear hR
  go_enter Tryd.func25, Tryd.ntmps25
  go_wp2
  go_loop [7, 8] (fun vv vi => ∃ k v : Nat, 0 ≤ k ∧ k ≤ s.size ∧ k ≤ 20 ∧ v < 18446744073709551616 ∧ vi = .int .i64 k ∧ vv = .int .u64 v ∧ Hid (v < 10 ^ (k - 0)) ∧ Hid (R = readOn 10 0 20 (s.data.toList.drop k) k v)) (fun _ i => s.size - (intOf i).toNat)
  case atStart => exact ⟨0, 0, by omega, by omega, by omega, by omega, rfl, rfl, Lib.hid (by decide), hR0⟩
  case round =>
    obtain ⟨k, v, hk1, hk2, hk3, hv, rfl, rfl, hpw, hr⟩ := hrel
    by_cases hlt : k < s.size
    · have hd := drop_at s k hlt
      have cd := rdigit_any s[k].toNat (by have := s[k].toNat_lt; omega)
      have hdl := dig99_le 10 s[k].toNat (by omega)
      have hde := dig99_eq 10 s[k].toNat (by omega)
      have r1 := hr.out
      rw [hd] at r1
      have r2 := Lib.hid r1
      clear r1 hr hd
      obtain ⟨d, ed⟩ : ∃ d, d = dig s[k].toNat := ⟨_, rfl⟩
      obtain ⟨d9, ed9⟩ : ∃ d, d = dig99 s[k].toNat := ⟨_, rfl⟩
      rw [← ed, ← ed9] at hdl hde
      rw [← ed9] at cd
      have CD := Lib.hid cd
      have ED := Lib.hid ed
      have NN := Lib.hid (fun W => no_any ⟨#[119, 111, 114, 100]⟩ (k : Int) 6 W)
      clear cd ed ed9
      by_cases hb : 10 ≤ d9
      · have fin : R = .bad k := by rw [r2.out, readOn_bad _ _ _ _ _ _ _ (Or.inl (by rw [← ED.out]; exact hdl.1 hb))]
        have FIN := Lib.hid fin
        clear fin r2 hdl hde
        go_wp2_with (first | (go_at_call 35; refine (CD.out _).mono ?_; rintro e w' ⟨rfl, rfl⟩) | (go_at_call 28; refine (NN.out _).mono ?_; rintro e w' ⟨rfl, rfl⟩))
        all_goals (go_ret2; rw [FIN.out]; exact ⟨rfl, rfl⟩)
      · obtain rfl : d9 = d := hde hb
        clear hdl hde
        by_cases hm : k = 20
        · have fin : R = .bad k := by rw [r2.out, readOn_bad _ _ _ _ _ _ _ (Or.inr (Or.inl hm))]
          have FIN := Lib.hid fin
          clear fin r2
          have hm' : 20 ≤ k := by omega
          clear hm
          go_wp2_with (first | (go_at_call 35; refine (CD.out _).mono ?_; rintro e w' ⟨rfl, rfl⟩) | (go_at_call 28; refine (NN.out _).mono ?_; rintro e w' ⟨rfl, rfl⟩))
          all_goals (go_ret2; rw [FIN.out]; exact ⟨rfl, rfl⟩)
        · have hm' : k < 20 := by omega
          by_cases ho : 18446744073709551616 ≤ v * 10 + d9
          · have fin : R = .bad k := by rw [r2.out, readOn_bad _ _ _ _ _ _ _ (Or.inr (Or.inr (by rw [← ED.out]; exact ho)))]
            have FIN := Lib.hid fin
            clear fin r2 hm
            by_cases hq : 1844674407370955161 < v
            · clear ho
              go_wp2_with (first | (go_at_call 35; refine (CD.out _).mono ?_; rintro e w' ⟨rfl, rfl⟩) | (go_at_call 28; refine (NN.out _).mono ?_; rintro e w' ⟨rfl, rfl⟩))
              all_goals (go_ret2; rw [FIN.out]; exact ⟨rfl, rfl⟩)
            · go_wp2_with (first | (go_at_call 35; refine (CD.out _).mono ?_; rintro e w' ⟨rfl, rfl⟩) | (go_at_call 28; refine (NN.out _).mono ?_; rintro e w' ⟨rfl, rfl⟩))
              all_goals (go_ret2; rw [FIN.out]; exact ⟨rfl, rfl⟩)
          · skip
            have fin : R = readOn 10 0 20 (s.data.toList.drop (k + 1)) (k + 1) (v * 10 + d9) := by rw [r2.out, readOn_on _ _ _ _ _ _ _ (by rw [← ED.out]; omega), ← ED.out]
            have FIN := Lib.hid fin
            have PW := Lib.hid (show v * 10 + d9 < 10 ^ (k + 1 - 0) by
              have h1 := hpw.out
              have h2 : 10 ^ (k + 1 - 0) = 10 ^ (k - 0) * 10 := by rw [← Nat.pow_succ]; congr 1 <;> omega
              omega)
            clear fin r2 hm
            go_wp2_with (go_at_call 35; refine (CD.out _).mono ?_; rintro e w' ⟨rfl, rfl⟩)
            go_round
            case rel => exact ⟨k + 1, v * 10 + d9, by omega, by omega, by omega, by omega, by go_num, by go_num, PW, FIN⟩
            case measure => simp [intOf]; omega
    · have hd := drop_end s k hlt
      have r1 := hr.out
      rw [hd] at r1
      clear hd hr
      have NN := Lib.hid (fun W => no_any ⟨#[119, 111, 114, 100]⟩ (s.size : Int) 6 W)
      by_cases hz : s.size = 0
      · have fin : R = .bad s.size := by rw [r1, readOn_nil _ _ _ _ _ (by omega)]; congr 1 <;> omega
        have FIN := Lib.hid fin
        clear fin r1
        have tz : ((s.size : Int) == 0) = true := beq_iff_eq.2 (by omega)
        clear hz
        go_wp2_with (first | (go_at_call 28; refine (NN.out _).mono ?_; rintro e w' ⟨rfl, rfl⟩))
        all_goals (go_ret2; rw [FIN.out]; exact ⟨rfl, rfl⟩)
      · have fin : R = .ok v := by rw [r1, readOn_end _ _ _ _ _ (by omega)]
        have FIN := Lib.hid fin
        clear fin r1
        have tz : ((s.size : Int) == 0) = false := beq_eq_false_iff_ne.2 (by omega)
        clear hz
        go_wp2
        all_goals (go_ret2; rw [FIN.out]; exact ⟨rfl, rfl⟩)

set_option maxHeartbeats 1000000 in
set_option maxRecDepth 100000 in
theorem rparse10b (s : ByteArray) (h2 : 2 ≤ s.size) (h0 : ((s[0].toNat : Int) == 48) = false) (w : World) :
    Calls Tryd.prog 25 #[.string s] w (RefPost (readOn 10 0 20 (s.data.toList.drop 0) 0 0) w) := by
  obtain ⟨R, hR⟩ : ∃ R, R = readOn 10 0 20 (s.data.toList.drop 0) 0 0 := ⟨_, rfl⟩
  rw [← hR]
  have hR0 := Lib.hid hR
  clear hR
  go_enter Tryd.func25, Tryd.ntmps25
  go_wp2
  go_loop [7, 8] (fun vv vi => ∃ k v : Nat, 0 ≤ k ∧ k ≤ s.size ∧ k ≤ 20 ∧ v < 18446744073709551616 ∧ vi = .int .i64 k ∧ vv = .int .u64 v ∧ Hid (v < 10 ^ (k - 0)) ∧ Hid (R = readOn 10 0 20 (s.data.toList.drop k) k v)) (fun _ i => s.size - (intOf i).toNat)
  case atStart => exact ⟨0, 0, by omega, by omega, by omega, by omega, rfl, rfl, Lib.hid (by decide), hR0⟩
  case round =>
    obtain ⟨k, v, hk1, hk2, hk3, hv, rfl, rfl, hpw, hr⟩ := hrel
    by_cases hlt : k < s.size
    · have hd := drop_at s k hlt
      have cd := rdigit_any s[k].toNat (by have := s[k].toNat_lt; omega)
      have hdl := dig99_le 10 s[k].toNat (by omega)
      have hde := dig99_eq 10 s[k].toNat (by omega)
      have r1 := hr.out
      rw [hd] at r1
      have r2 := Lib.hid r1
      clear r1 hr hd
      obtain ⟨d, ed⟩ : ∃ d, d = dig s[k].toNat := ⟨_, rfl⟩
      obtain ⟨d9, ed9⟩ : ∃ d, d = dig99 s[k].toNat := ⟨_, rfl⟩
      rw [← ed, ← ed9] at hdl hde
      rw [← ed9] at cd
      have CD := Lib.hid cd
      have ED := Lib.hid ed
      have NN := Lib.hid (fun W => no_any ⟨#[119, 111, 114, 100]⟩ (k : Int) 6 W)
      clear cd ed ed9
      by_cases hb : 10 ≤ d9
      · have fin : R = .bad k := by rw [r2.out, readOn_bad _ _ _ _ _ _ _ (Or.inl (by rw [← ED.out]; exact hdl.1 hb))]
        have FIN := Lib.hid fin
        clear fin r2 hdl hde
        go_wp2_with (first | (go_at_call 35; refine (CD.out _).mono ?_; rintro e w' ⟨rfl, rfl⟩) | (go_at_call 28; refine (NN.out _).mono ?_; rintro e w' ⟨rfl, rfl⟩))
        all_goals (go_ret2; rw [FIN.out]; exact ⟨rfl, rfl⟩)
      · obtain rfl : d9 = d := hde hb
        clear hdl hde
        by_cases hm : k = 20
        · have fin : R = .bad k := by rw [r2.out, readOn_bad _ _ _ _ _ _ _ (Or.inr (Or.inl hm))]
          have FIN := Lib.hid fin
          clear fin r2
          have hm' : 20 ≤ k := by omega
          clear hm
          go_wp2_with (first | (go_at_call 35; refine (CD.out _).mono ?_; rintro e w' ⟨rfl, rfl⟩) | (go_at_call 28; refine (NN.out _).mono ?_; rintro e w' ⟨rfl, rfl⟩))
          all_goals (go_ret2; rw [FIN.out]; exact ⟨rfl, rfl⟩)
        · have hm' : k < 20 := by omega
          by_cases ho : 18446744073709551616 ≤ v * 10 + d9
          · have fin : R = .bad k := by rw [r2.out, readOn_bad _ _ _ _ _ _ _ (Or.inr (Or.inr (by rw [← ED.out]; exact ho)))]
            have FIN := Lib.hid fin
            clear fin r2 hm
            by_cases hq : 1844674407370955161 < v
            · clear ho
              go_wp2_with (first | (go_at_call 35; refine (CD.out _).mono ?_; rintro e w' ⟨rfl, rfl⟩) | (go_at_call 28; refine (NN.out _).mono ?_; rintro e w' ⟨rfl, rfl⟩))
              all_goals (go_ret2; rw [FIN.out]; exact ⟨rfl, rfl⟩)
            · go_wp2_with (first | (go_at_call 35; refine (CD.out _).mono ?_; rintro e w' ⟨rfl, rfl⟩) | (go_at_call 28; refine (NN.out _).mono ?_; rintro e w' ⟨rfl, rfl⟩))
              all_goals (go_ret2; rw [FIN.out]; exact ⟨rfl, rfl⟩)
          · skip
            have fin : R = readOn 10 0 20 (s.data.toList.drop (k + 1)) (k + 1) (v * 10 + d9) := by rw [r2.out, readOn_on _ _ _ _ _ _ _ (by rw [← ED.out]; omega), ← ED.out]
            have FIN := Lib.hid fin
            have PW := Lib.hid (show v * 10 + d9 < 10 ^ (k + 1 - 0) by
              have h1 := hpw.out
              have h2 : 10 ^ (k + 1 - 0) = 10 ^ (k - 0) * 10 := by rw [← Nat.pow_succ]; congr 1 <;> omega
              omega)
            clear fin r2 hm
            go_wp2_with (go_at_call 35; refine (CD.out _).mono ?_; rintro e w' ⟨rfl, rfl⟩)
            go_round
            case rel => exact ⟨k + 1, v * 10 + d9, by omega, by omega, by omega, by omega, by go_num, by go_num, PW, FIN⟩
            case measure => simp [intOf]; omega
    · have hd := drop_end s k hlt
      have r1 := hr.out
      rw [hd] at r1
      clear hd hr
      have NN := Lib.hid (fun W => no_any ⟨#[119, 111, 114, 100]⟩ (s.size : Int) 6 W)
      by_cases hz : s.size = 0
      · have fin : R = .bad s.size := by rw [r1, readOn_nil _ _ _ _ _ (by omega)]; congr 1 <;> omega
        have FIN := Lib.hid fin
        clear fin r1
        have tz : ((s.size : Int) == 0) = true := beq_iff_eq.2 (by omega)
        clear hz
        go_wp2_with (first | (go_at_call 28; refine (NN.out _).mono ?_; rintro e w' ⟨rfl, rfl⟩))
        all_goals (go_ret2; rw [FIN.out]; exact ⟨rfl, rfl⟩)
      · have fin : R = .ok v := by rw [r1, readOn_end _ _ _ _ _ (by omega)]
        have FIN := Lib.hid fin
        clear fin r1
        have tz : ((s.size : Int) == 0) = false := beq_eq_false_iff_ne.2 (by omega)
        clear hz
        go_wp2
        all_goals (go_ret2; rw [FIN.out]; exact ⟨rfl, rfl⟩)

set_option maxHeartbeats 1000000 in
set_option maxRecDepth 100000 in
theorem rparse10c (s : ByteArray) (h2 : 2 ≤ s.size) (h0 : ((s[0].toNat : Int) == 48) = true) (h1 : ((s[1].toNat : Int) == 120) = false) (w : World) :
    Calls Tryd.prog 25 #[.string s] w (RefPost (readOn 10 0 20 (s.data.toList.drop 0) 0 0) w) := by
  obtain ⟨R, hR⟩ : ∃ R, R = readOn 10 0 20 (s.data.toList.drop 0) 0 0 := ⟨_, rfl⟩
  rw [← hR]
  have hR0 := Lib.hid hR
  clear hR
  go_enter Tryd.func25, Tryd.ntmps25
  go_wp2
  go_loop [7, 8] (fun vv vi => ∃ k v : Nat, 0 ≤ k ∧ k ≤ s.size ∧ k ≤ 20 ∧ v < 18446744073709551616 ∧ vi = .int .i64 k ∧ vv = .int .u64 v ∧ Hid (v < 10 ^ (k - 0)) ∧ Hid (R = readOn 10 0 20 (s.data.toList.drop k) k v)) (fun _ i => s.size - (intOf i).toNat)
  case atStart => exact ⟨0, 0, by omega, by omega, by omega, by omega, rfl, rfl, Lib.hid (by decide), hR0⟩
  case round =>
    obtain ⟨k, v, hk1, hk2, hk3, hv, rfl, rfl, hpw, hr⟩ := hrel
    by_cases hlt : k < s.size
    · have hd := drop_at s k hlt
      have cd := rdigit_any s[k].toNat (by have := s[k].toNat_lt; omega)
      have hdl := dig99_le 10 s[k].toNat (by omega)
      have hde := dig99_eq 10 s[k].toNat (by omega)
      have r1 := hr.out
      rw [hd] at r1
      have r2 := Lib.hid r1
      clear r1 hr hd
      obtain ⟨d, ed⟩ : ∃ d, d = dig s[k].toNat := ⟨_, rfl⟩
      obtain ⟨d9, ed9⟩ : ∃ d, d = dig99 s[k].toNat := ⟨_, rfl⟩
      rw [← ed, ← ed9] at hdl hde
      rw [← ed9] at cd
      have CD := Lib.hid cd
      have ED := Lib.hid ed
      have NN := Lib.hid (fun W => no_any ⟨#[119, 111, 114, 100]⟩ (k : Int) 6 W)
      clear cd ed ed9
      by_cases hb : 10 ≤ d9
      · have fin : R = .bad k := by rw [r2.out, readOn_bad _ _ _ _ _ _ _ (Or.inl (by rw [← ED.out]; exact hdl.1 hb))]
        have FIN := Lib.hid fin
        clear fin r2 hdl hde
        go_wp2_with (first | (go_at_call 35; refine (CD.out _).mono ?_; rintro e w' ⟨rfl, rfl⟩) | (go_at_call 28; refine (NN.out _).mono ?_; rintro e w' ⟨rfl, rfl⟩))
        all_goals (go_ret2; rw [FIN.out]; exact ⟨rfl, rfl⟩)
      · obtain rfl : d9 = d := hde hb
        clear hdl hde
        by_cases hm : k = 20
        · have fin : R = .bad k := by rw [r2.out, readOn_bad _ _ _ _ _ _ _ (Or.inr (Or.inl hm))]
          have FIN := Lib.hid fin
          clear fin r2
          have hm' : 20 ≤ k := by omega
          clear hm
          go_wp2_with (first | (go_at_call 35; refine (CD.out _).mono ?_; rintro e w' ⟨rfl, rfl⟩) | (go_at_call 28; refine (NN.out _).mono ?_; rintro e w' ⟨rfl, rfl⟩))
          all_goals (go_ret2; rw [FIN.out]; exact ⟨rfl, rfl⟩)
        · have hm' : k < 20 := by omega
          by_cases ho : 18446744073709551616 ≤ v * 10 + d9
          · have fin : R = .bad k := by rw [r2.out, readOn_bad _ _ _ _ _ _ _ (Or.inr (Or.inr (by rw [← ED.out]; exact ho)))]
            have FIN := Lib.hid fin
            clear fin r2 hm
            by_cases hq : 1844674407370955161 < v
            · clear ho
              go_wp2_with (first | (go_at_call 35; refine (CD.out _).mono ?_; rintro e w' ⟨rfl, rfl⟩) | (go_at_call 28; refine (NN.out _).mono ?_; rintro e w' ⟨rfl, rfl⟩))
              all_goals (go_ret2; rw [FIN.out]; exact ⟨rfl, rfl⟩)
            · go_wp2_with (first | (go_at_call 35; refine (CD.out _).mono ?_; rintro e w' ⟨rfl, rfl⟩) | (go_at_call 28; refine (NN.out _).mono ?_; rintro e w' ⟨rfl, rfl⟩))
              all_goals (go_ret2; rw [FIN.out]; exact ⟨rfl, rfl⟩)
          · skip
            have fin : R = readOn 10 0 20 (s.data.toList.drop (k + 1)) (k + 1) (v * 10 + d9) := by rw [r2.out, readOn_on _ _ _ _ _ _ _ (by rw [← ED.out]; omega), ← ED.out]
            have FIN := Lib.hid fin
            have PW := Lib.hid (show v * 10 + d9 < 10 ^ (k + 1 - 0) by
              have h1 := hpw.out
              have h2 : 10 ^ (k + 1 - 0) = 10 ^ (k - 0) * 10 := by rw [← Nat.pow_succ]; congr 1 <;> omega
              omega)
            clear fin r2 hm
            go_wp2_with (go_at_call 35; refine (CD.out _).mono ?_; rintro e w' ⟨rfl, rfl⟩)
            go_round
            case rel => exact ⟨k + 1, v * 10 + d9, by omega, by omega, by omega, by omega, by go_num, by go_num, PW, FIN⟩
            case measure => simp [intOf]; omega
    · have hd := drop_end s k hlt
      have r1 := hr.out
      rw [hd] at r1
      clear hd hr
      have NN := Lib.hid (fun W => no_any ⟨#[119, 111, 114, 100]⟩ (s.size : Int) 6 W)
      by_cases hz : s.size = 0
      · have fin : R = .bad s.size := by rw [r1, readOn_nil _ _ _ _ _ (by omega)]; congr 1 <;> omega
        have FIN := Lib.hid fin
        clear fin r1
        have tz : ((s.size : Int) == 0) = true := beq_iff_eq.2 (by omega)
        clear hz
        go_wp2_with (first | (go_at_call 28; refine (NN.out _).mono ?_; rintro e w' ⟨rfl, rfl⟩))
        all_goals (go_ret2; rw [FIN.out]; exact ⟨rfl, rfl⟩)
      · have fin : R = .ok v := by rw [r1, readOn_end _ _ _ _ _ (by omega)]
        have FIN := Lib.hid fin
        clear fin r1
        have tz : ((s.size : Int) == 0) = false := beq_eq_false_iff_ne.2 (by omega)
        clear hz
        go_wp2
        all_goals (go_ret2; rw [FIN.out]; exact ⟨rfl, rfl⟩)

set_option maxHeartbeats 1000000 in
set_option maxRecDepth 100000 in
theorem rparse16d (s : ByteArray) (h2 : 2 ≤ s.size) (h0 : ((s[0].toNat : Int) == 48) = true) (h1 : ((s[1].toNat : Int) == 120) = true) (w : World) :
    Calls Tryd.prog 25 #[.string s] w (RefPost (readOn 16 2 16 (s.data.toList.drop 2) 2 0) w) := by
  obtain ⟨R, hR⟩ : ∃ R, R = readOn 16 2 16 (s.data.toList.drop 2) 2 0 := ⟨_, rfl⟩
  rw [← hR]
  have hR0 := Lib.hid hR
  clear hR
  go_enter Tryd.func25, Tryd.ntmps25
  go_wp2
  go_loop [7, 8] (fun vv vi => ∃ k v : Nat, 2 ≤ k ∧ k ≤ s.size ∧ k ≤ 18 ∧ v < 18446744073709551616 ∧ vi = .int .i64 k ∧ vv = .int .u64 v ∧ Hid (v < 16 ^ (k - 2)) ∧ Hid (R = readOn 16 2 16 (s.data.toList.drop k) k v)) (fun _ i => s.size - (intOf i).toNat)
  case atStart => exact ⟨2, 0, by omega, by omega, by omega, by omega, rfl, rfl, Lib.hid (by decide), hR0⟩
  case round =>
    obtain ⟨k, v, hk1, hk2, hk3, hv, rfl, rfl, hpw, hr⟩ := hrel
    by_cases hlt : k < s.size
    · have hd := drop_at s k hlt
      have cd := rdigit_any s[k].toNat (by have := s[k].toNat_lt; omega)
      have hdl := dig99_le 16 s[k].toNat (by omega)
      have hde := dig99_eq 16 s[k].toNat (by omega)
      have r1 := hr.out
      rw [hd] at r1
      have r2 := Lib.hid r1
      clear r1 hr hd
      obtain ⟨d, ed⟩ : ∃ d, d = dig s[k].toNat := ⟨_, rfl⟩
      obtain ⟨d9, ed9⟩ : ∃ d, d = dig99 s[k].toNat := ⟨_, rfl⟩
      rw [← ed, ← ed9] at hdl hde
      rw [← ed9] at cd
      have CD := Lib.hid cd
      have ED := Lib.hid ed
      have NN := Lib.hid (fun W => no_any ⟨#[119, 111, 114, 100]⟩ (k : Int) 6 W)
      clear cd ed ed9
      by_cases hb : 16 ≤ d9
      · have fin : R = .bad k := by rw [r2.out, readOn_bad _ _ _ _ _ _ _ (Or.inl (by rw [← ED.out]; exact hdl.1 hb))]
        have FIN := Lib.hid fin
        clear fin r2 hdl hde
        go_wp2_with (first | (go_at_call 35; refine (CD.out _).mono ?_; rintro e w' ⟨rfl, rfl⟩) | (go_at_call 28; refine (NN.out _).mono ?_; rintro e w' ⟨rfl, rfl⟩))
        all_goals (go_ret2; rw [FIN.out]; exact ⟨rfl, rfl⟩)
      · obtain rfl : d9 = d := hde hb
        clear hdl hde
        by_cases hm : k = 18
        · have fin : R = .bad k := by rw [r2.out, readOn_bad _ _ _ _ _ _ _ (Or.inr (Or.inl hm))]
          have FIN := Lib.hid fin
          clear fin r2
          have hm' : 18 ≤ k := by omega
          clear hm
          go_wp2_with (first | (go_at_call 35; refine (CD.out _).mono ?_; rintro e w' ⟨rfl, rfl⟩) | (go_at_call 28; refine (NN.out _).mono ?_; rintro e w' ⟨rfl, rfl⟩))
          all_goals (go_ret2; rw [FIN.out]; exact ⟨rfl, rfl⟩)
        · have hm' : k < 18 := by omega
          have ho : v * 16 + d9 < 18446744073709551616 := by
            have h1 := hpw.out
            have h2 : 16 ^ (k - 2) ≤ 16 ^ 15 := Nat.pow_le_pow_right (by omega) (by omega)
            have h3 : 16 ^ 15 = 1152921504606846976 := by decide
            omega
          have fin : R = readOn 16 2 16 (s.data.toList.drop (k + 1)) (k + 1) (v * 16 + d9) := by rw [r2.out, readOn_on _ _ _ _ _ _ _ (by rw [← ED.out]; omega), ← ED.out]
          have FIN := Lib.hid fin
          have PW := Lib.hid (show v * 16 + d9 < 16 ^ (k + 1 - 2) by
            have h1 := hpw.out
            have h2 : 16 ^ (k + 1 - 2) = 16 ^ (k - 2) * 16 := by rw [← Nat.pow_succ]; congr 1 <;> omega
            omega)
          clear fin r2 hm
          go_wp2_with (go_at_call 35; refine (CD.out _).mono ?_; rintro e w' ⟨rfl, rfl⟩)
          go_round
          case rel => exact ⟨k + 1, v * 16 + d9, by omega, by omega, by omega, by omega, by go_num, by go_num, PW, FIN⟩
          case measure => simp [intOf]; omega
    · have hd := drop_end s k hlt
      have r1 := hr.out
      rw [hd] at r1
      clear hd hr
      have NN := Lib.hid (fun W => no_any ⟨#[119, 111, 114, 100]⟩ (s.size : Int) 6 W)
      by_cases hz : s.size = 2
      · have fin : R = .bad s.size := by rw [r1, readOn_nil _ _ _ _ _ (by omega)]; congr 1 <;> omega
        have FIN := Lib.hid fin
        clear fin r1
        have tz : ((s.size : Int) == 2) = true := beq_iff_eq.2 (by omega)
        clear hz
        go_wp2_with (first | (go_at_call 28; refine (NN.out _).mono ?_; rintro e w' ⟨rfl, rfl⟩))
        all_goals (go_ret2; rw [FIN.out]; exact ⟨rfl, rfl⟩)
      · have fin : R = .ok v := by rw [r1, readOn_end _ _ _ _ _ (by omega)]
        have FIN := Lib.hid fin
        clear fin r1
        have tz : ((s.size : Int) == 2) = false := beq_eq_false_iff_ne.2 (by omega)
        clear hz
        go_wp2
        all_goals (go_ret2; rw [FIN.out]; exact ⟨rfl, rfl⟩)

theorem refparse_any (s : ByteArray) (w : World) : Calls Tryd.prog 25 #[.string s] w (RefPost (readAll s.data.toList) w) := by
  have e10 : Lib.hasPrefix s.data.toList [48, 120] = false → readAll s.data.toList = readOn 10 0 20 (s.data.toList.drop 0) 0 0 := fun hp => by
    rw [readAll, if_neg (by show ¬ Lib.hasPrefix s.data.toList [48, 120] = true; simp [hp])]; rfl
  have e16 : Lib.hasPrefix s.data.toList [48, 120] = true → readAll s.data.toList = readOn 16 2 16 (s.data.toList.drop 2) 2 0 := fun hp => by
    rw [readAll, if_pos (by show Lib.hasPrefix s.data.toList [48, 120] = true; exact hp)]
  by_cases h2 : s.size < 2
  · have hp : Lib.hasPrefix s.data.toList [48, 120] = false := by
      cases hp : Lib.hasPrefix s.data.toList [48, 120] with
      | false => rfl
      | true =>
        have h1 : [48, 120] <+: s.data.toList := List.isPrefixOf_iff_prefix.1 hp
        have h3 : 2 ≤ s.size := by simpa using h1.length_le
        omega
    rw [e10 hp]; exact rparse10a s h2 w
  · have l2 : 2 ≤ s.size := by omega
    have hl : s.data.toList = s[0] :: s[1] :: s.data.toList.drop 2 := by
      have d0 := drop_at s 0 (by omega)
      have d1 := drop_at s 1 (by omega)
      rw [List.drop_zero] at d0
      rw [d0, d1]; rfl
    have hq : Lib.hasPrefix s.data.toList [48, 120] = (((s[0].toNat : Int) == 48) && ((s[1].toNat : Int) == 120)) := by
      rw [hl, Lib.hasPrefix, List.isPrefixOf, List.isPrefixOf, List.isPrefixOf, Bool.and_true]
      have u : ∀ (x : UInt8) (n : Nat), n < 256 → ((UInt8.ofNat n == x) = ((x.toNat : Int) == (n : Int))) := fun x n hn => by
        rw [Bool.eq_iff_iff, beq_iff_eq, beq_iff_eq]
        constructor
        · intro h; rw [← h, UInt8.toNat_ofNat']; omega
        · intro h; apply UInt8.toNat_inj.1; rw [UInt8.toNat_ofNat']; omega
      rw [show (48 : UInt8) = UInt8.ofNat 48 from rfl, show (120 : UInt8) = UInt8.ofNat 120 from rfl, u _ 48 (by omega), u _ 120 (by omega)]
      rfl
    cases h0 : ((s[0].toNat : Int) == 48) with
    | false => rw [e10 (by rw [hq, h0]; rfl)]; exact rparse10b s l2 h0 w
    | true => cases h1 : ((s[1].toNat : Int) == 120) with
      | false => rw [e10 (by rw [hq, h0, h1]; rfl)]; exact rparse10c s l2 h0 h1 w
      | true => rw [e16 (by rw [hq, h0, h1]; rfl)]; exact rparse16d s l2 h0 h1 w
end Go.Proofs.YtklmnhklgojacaaDoor
