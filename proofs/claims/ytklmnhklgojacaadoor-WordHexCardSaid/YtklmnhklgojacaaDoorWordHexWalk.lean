/- The walk of WordHex: it returns true; of what was there nothing has turned. -/
import Derived.Test.YtklmnhklgojacaaDoorAwake
import Derived.Test.YtklmnhklgojacaaDoorNumerals
import Derived.Test.YtklmnhklgojacaaDoorRefPrint
namespace Go.Proofs.YtklmnhklgojacaaDoor
open Go.RowKit

/-- The digits to sixteen, small and large. -/
def digitsLo : ByteArray := ⟨#[48, 49, 50, 51, 52, 53, 54, 55, 56, 57, 97, 98, 99, 100, 101, 102]⟩
def digitsUp : ByteArray := ⟨#[48, 49, 50, 51, 52, 53, 54, 55, 56, 57, 65, 66, 67, 68, 69, 70]⟩
theorem digitsLo_size : digitsLo.size = 16 := by decide +kernel
theorem digitsUp_size : digitsUp.size = 16 := by decide +kernel
theorem digitsLo_one (d : Nat) (h : d < 16) : ∃ c : UInt8, digitsLo.extract d (d + 1) = ⟨#[c]⟩ ∧ dig c.toNat = d := by
  have : d = 0 ∨ d = 1 ∨ d = 2 ∨ d = 3 ∨ d = 4 ∨ d = 5 ∨ d = 6 ∨ d = 7 ∨ d = 8 ∨ d = 9 ∨ d = 10 ∨ d = 11 ∨ d = 12 ∨ d = 13 ∨ d = 14 ∨ d = 15 := by omega
  rcases this with rfl | rfl | rfl | rfl | rfl | rfl | rfl | rfl | rfl | rfl | rfl | rfl | rfl | rfl | rfl | rfl
  · exact ⟨48, by decide +kernel, by decide +kernel⟩
  · exact ⟨49, by decide +kernel, by decide +kernel⟩
  · exact ⟨50, by decide +kernel, by decide +kernel⟩
  · exact ⟨51, by decide +kernel, by decide +kernel⟩
  · exact ⟨52, by decide +kernel, by decide +kernel⟩
  · exact ⟨53, by decide +kernel, by decide +kernel⟩
  · exact ⟨54, by decide +kernel, by decide +kernel⟩
  · exact ⟨55, by decide +kernel, by decide +kernel⟩
  · exact ⟨56, by decide +kernel, by decide +kernel⟩
  · exact ⟨57, by decide +kernel, by decide +kernel⟩
  · exact ⟨97, by decide +kernel, by decide +kernel⟩
  · exact ⟨98, by decide +kernel, by decide +kernel⟩
  · exact ⟨99, by decide +kernel, by decide +kernel⟩
  · exact ⟨100, by decide +kernel, by decide +kernel⟩
  · exact ⟨101, by decide +kernel, by decide +kernel⟩
  · exact ⟨102, by decide +kernel, by decide +kernel⟩
theorem digitsUp_one (d : Nat) (h : d < 16) : ∃ c : UInt8, digitsUp.extract d (d + 1) = ⟨#[c]⟩ ∧ dig c.toNat = d := by
  have : d = 0 ∨ d = 1 ∨ d = 2 ∨ d = 3 ∨ d = 4 ∨ d = 5 ∨ d = 6 ∨ d = 7 ∨ d = 8 ∨ d = 9 ∨ d = 10 ∨ d = 11 ∨ d = 12 ∨ d = 13 ∨ d = 14 ∨ d = 15 := by omega
  rcases this with rfl | rfl | rfl | rfl | rfl | rfl | rfl | rfl | rfl | rfl | rfl | rfl | rfl | rfl | rfl | rfl
  · exact ⟨48, by decide +kernel, by decide +kernel⟩
  · exact ⟨49, by decide +kernel, by decide +kernel⟩
  · exact ⟨50, by decide +kernel, by decide +kernel⟩
  · exact ⟨51, by decide +kernel, by decide +kernel⟩
  · exact ⟨52, by decide +kernel, by decide +kernel⟩
  · exact ⟨53, by decide +kernel, by decide +kernel⟩
  · exact ⟨54, by decide +kernel, by decide +kernel⟩
  · exact ⟨55, by decide +kernel, by decide +kernel⟩
  · exact ⟨56, by decide +kernel, by decide +kernel⟩
  · exact ⟨57, by decide +kernel, by decide +kernel⟩
  · exact ⟨65, by decide +kernel, by decide +kernel⟩
  · exact ⟨66, by decide +kernel, by decide +kernel⟩
  · exact ⟨67, by decide +kernel, by decide +kernel⟩
  · exact ⟨68, by decide +kernel, by decide +kernel⟩
  · exact ⟨69, by decide +kernel, by decide +kernel⟩
  · exact ⟨70, by decide +kernel, by decide +kernel⟩

set_option maxHeartbeats 4000000 in
set_option maxRecDepth 100000 in
theorem wordHex_digitsLo (u n : Nat) (a2 : Int) (hu : u < 18446744073709551616) (n1 : 1 ≤ n) (n17 : n ≤ 17) (w : World) (hg : ErrType w) (ht : Pow10 w)
    (hwi : ∀ w, Calls Tryd.prog 27 #[.int .i64 a2, .int .i64 17] w fun e w' => e = .returned (.int .i64 ((n : Int) - 1)) ∧ w = w') :
    Calls Tryd.prog 9 #[.int .u64 (u : Int), .bool false, .int .i64 a2] w fun e w' => e = .returned (.bool true) ∧ Below w.heap.size w w' := by
  have WI := Lib.hid hwi
  have AW := Lib.hid (awake_any w hg ht)
  have HG := Lib.hid hg
  have HT := Lib.hid ht
  clear hwi hg ht
  go_enter Tryd.func9, Tryd.ntmps9
  go_wp2_with (go_at_call 27; refine (WI.out _).mono ?_; rintro e w' ⟨rfl, rfl⟩)
  go_loop [8, 10, 11] (fun vs vx vi => ∃ (k x : Nat) (t : List UInt8), k ≤ n ∧ x < 18446744073709551616 ∧ vi = .int .i64 k ∧ vx = .int .u64 x ∧ vs = .string ⟨t.toArray⟩ ∧ t.length ≤ 17 ∧
      Hid (x = u / 16 ^ k ∧ t.length = k ∧ (∀ c ∈ t, dig c.toNat < 16) ∧ val 16 t 0 = u % 16 ^ k)) (fun _ _ i => n - (intOf i).toNat)
  case atStart => exact ⟨0, u, [], by omega, hu, rfl, rfl, rfl, by simp, Lib.hid ⟨by simp, rfl, by simp, by simp [val, Nat.mod_one]⟩⟩
  case round =>
    obtain ⟨k, x, t, hk, hx, rfl, rfl, rfl, ht17, hs⟩ := hrel
    by_cases hlt : k < n
    · obtain ⟨c, hc1, hc2⟩ := digitsLo_one (x % 16) (by omega)
      have hsl : ∀ w, (Instr.slice 9 (.string ⟨#[48, 49, 50, 51, 52, 53, 54, 55, 56, 57, 97, 98, 99, 100, 101, 102]⟩) (some (.int .u64 ((x : Int) % 16))) (some (.int .u64 ((x : Int) % 16 + 1))) none).run Tryd.prog w = .ok (.string ⟨#[c]⟩) w := fun w => by
        show (Instr.slice 9 (.string digitsLo) (some (.int .u64 ((x : Int) % 16))) (some (.int .u64 ((x : Int) % 16 + 1))) none).run Tryd.prog w = _
        rw [run_slice_string w 9 digitsLo .u64 .u64 _ _ Tryd.underlying9 (by omega) (by omega) (by rw [digitsLo_size]; omega), show ((x : Int) % 16).toNat = x % 16 by omega, show ((x : Int) % 16 + 1).toNat = x % 16 + 1 by omega, hc1]
      have hs2 : x / 16 = u / 16 ^ (k + 1) ∧ (c :: t).length = k + 1 ∧ (∀ d ∈ c :: t, dig d.toNat < 16) ∧ val 16 (c :: t) 0 = u % 16 ^ (k + 1) := by
        obtain ⟨e1, e2, e3, e4⟩ := hs.out
        refine ⟨by rw [e1, Nat.div_div_eq_div_mul, ← Nat.pow_succ], by rw [List.length_cons, e2], ?_, hex_step u k c t e2 e4 (by rw [hc2, e1])⟩
        intro d hd
        rcases List.mem_cons.1 hd with rfl | hd
        · rw [hc2]; omega
        · exact e3 d hd
      have HS2 := Lib.hid hs2
      have hl2 : (c :: t).length ≤ 17 := by rw [hs2.2.1]; omega
      clear hs hs2 hc1 hc2
      go_wp2
      go_round
      case rel => exact ⟨k + 1, x / 16, c :: t, by omega, by omega, by go_num, by go_num, congrArg Value.string (glue c t), hl2, HS2⟩
      case measure => simp [intOf]; omega
    · obtain ⟨e1, e2, e3, e4⟩ := hs.out
      obtain rfl : n = k := by omega
      have hT : ((⟨#[48, 120]⟩ : ByteArray) ++ (⟨t.toArray⟩ : ByteArray)).data.toList = 48 :: 120 :: t := by simp [ByteArray.data_append]
      have p := fun w => parse_any ((⟨#[48, 120]⟩ : ByteArray) ++ (⟨t.toArray⟩ : ByteArray)) w
      rw [hT] at p
      by_cases h17 : 16 < n
      · rw [read_hex17 t e3 (by omega)] at p
        have P := Lib.hid p
        have SA := Lib.hid (same_at ⟨#[119, 111, 114, 100]⟩ 18 6 (by omega) (by omega) w HG.out)
        clear p hT e1 e2 e3 e4 hs
        go_wp2_with fail
        go_at_call 24
        refine (P.out _).mono ?_
        rintro e w' ⟨rfl, rfl⟩
        go_wp2_with fail
        go_at_call 28
        refine (no_any _ _ _ _).mono ?_
        rintro e w' ⟨rfl, rfl⟩
        go_wp2_with fail
        go_at_call 26
        refine SA.out.mono ?_
        rintro e w1 ⟨rfl, hb⟩
        have HT1 := Lib.hid (pow10_below hb HT.out)
        have HG1 := Lib.hid (errType_below hb HG.out (cell_lt HG.out))
        go_wp2_with fail
        go_at_call 19
        refine (awake_any _ HG1.out HT1.out).mono ?_
        rintro e w2 ⟨rfl, hb2⟩
        go_wp2_with fail
        go_ret
        exact ⟨rfl, hb.trans (hb2.mono hb.size)⟩
      · rw [read_hex t e3 (by omega) (by omega), e4] at p
        by_cases h16 : n < 16
        · obtain ⟨M, hM⟩ : ∃ M, M = 16 ^ n := ⟨_, rfl⟩
          rw [← hM] at p
          have m1 : 1 ≤ M := by rw [hM]; exact Nat.pow_pos (by omega)
          have hsh : IntKind.u64.wrap ((2 : Int) ^ (4 * n)) = (M : Int) := by
            have q1 : ((2 : Int) ^ (4 * n)) = ((16 ^ n : Nat) : Int) := by
              rw [Int.natCast_pow, Int.pow_mul]; rfl
            have q2 : 16 ^ n ≤ 16 ^ 15 := Nat.pow_le_pow_right (by omega) (by omega)
            have q3 : 16 ^ 15 = 1152921504606846976 := by decide
            rw [q1, ← hM, IntKind.wrap_u64]
            omega
          have P := Lib.hid p
          clear p hT e1 e2 e3 e4 hs hM
          go_wp2_with fail
          go_at_call 24
          refine (P.out _).mono ?_
          rintro e w' ⟨rfl, rfl⟩
          go_wp2_with fail
          go_at_call 19
          refine AW.out.mono ?_
          rintro e w2 ⟨rfl, hb2⟩
          go_wp2_with fail
          go_ret
          exact ⟨rfl, hb2⟩
        · rw [show u % 16 ^ n = u from Nat.mod_eq_of_lt (by rw [show n = 16 by omega]; exact hu)] at p
          have P := Lib.hid p
          clear p hT e1 e2 e3 e4 hs
          go_wp2_with fail
          go_at_call 24
          refine (P.out _).mono ?_
          rintro e w' ⟨rfl, rfl⟩
          go_wp2_with fail
          go_at_call 19
          refine AW.out.mono ?_
          rintro e w2 ⟨rfl, hb2⟩
          go_wp2_with fail
          go_ret
          exact ⟨rfl, hb2⟩

set_option maxHeartbeats 4000000 in
set_option maxRecDepth 100000 in
theorem wordHex_digitsUp (u n : Nat) (a2 : Int) (hu : u < 18446744073709551616) (n1 : 1 ≤ n) (n17 : n ≤ 17) (w : World) (hg : ErrType w) (ht : Pow10 w)
    (hwi : ∀ w, Calls Tryd.prog 27 #[.int .i64 a2, .int .i64 17] w fun e w' => e = .returned (.int .i64 ((n : Int) - 1)) ∧ w = w') :
    Calls Tryd.prog 9 #[.int .u64 (u : Int), .bool true, .int .i64 a2] w fun e w' => e = .returned (.bool true) ∧ Below w.heap.size w w' := by
  have WI := Lib.hid hwi
  have AW := Lib.hid (awake_any w hg ht)
  have HG := Lib.hid hg
  have HT := Lib.hid ht
  clear hwi hg ht
  go_enter Tryd.func9, Tryd.ntmps9
  go_wp2_with (go_at_call 27; refine (WI.out _).mono ?_; rintro e w' ⟨rfl, rfl⟩)
  go_loop [8, 10, 11] (fun vs vx vi => ∃ (k x : Nat) (t : List UInt8), k ≤ n ∧ x < 18446744073709551616 ∧ vi = .int .i64 k ∧ vx = .int .u64 x ∧ vs = .string ⟨t.toArray⟩ ∧ t.length ≤ 17 ∧
      Hid (x = u / 16 ^ k ∧ t.length = k ∧ (∀ c ∈ t, dig c.toNat < 16) ∧ val 16 t 0 = u % 16 ^ k)) (fun _ _ i => n - (intOf i).toNat)
  case atStart => exact ⟨0, u, [], by omega, hu, rfl, rfl, rfl, by simp, Lib.hid ⟨by simp, rfl, by simp, by simp [val, Nat.mod_one]⟩⟩
  case round =>
    obtain ⟨k, x, t, hk, hx, rfl, rfl, rfl, ht17, hs⟩ := hrel
    by_cases hlt : k < n
    · obtain ⟨c, hc1, hc2⟩ := digitsUp_one (x % 16) (by omega)
      have hsl : ∀ w, (Instr.slice 9 (.string ⟨#[48, 49, 50, 51, 52, 53, 54, 55, 56, 57, 65, 66, 67, 68, 69, 70]⟩) (some (.int .u64 ((x : Int) % 16))) (some (.int .u64 ((x : Int) % 16 + 1))) none).run Tryd.prog w = .ok (.string ⟨#[c]⟩) w := fun w => by
        show (Instr.slice 9 (.string digitsUp) (some (.int .u64 ((x : Int) % 16))) (some (.int .u64 ((x : Int) % 16 + 1))) none).run Tryd.prog w = _
        rw [run_slice_string w 9 digitsUp .u64 .u64 _ _ Tryd.underlying9 (by omega) (by omega) (by rw [digitsUp_size]; omega), show ((x : Int) % 16).toNat = x % 16 by omega, show ((x : Int) % 16 + 1).toNat = x % 16 + 1 by omega, hc1]
      have hs2 : x / 16 = u / 16 ^ (k + 1) ∧ (c :: t).length = k + 1 ∧ (∀ d ∈ c :: t, dig d.toNat < 16) ∧ val 16 (c :: t) 0 = u % 16 ^ (k + 1) := by
        obtain ⟨e1, e2, e3, e4⟩ := hs.out
        refine ⟨by rw [e1, Nat.div_div_eq_div_mul, ← Nat.pow_succ], by rw [List.length_cons, e2], ?_, hex_step u k c t e2 e4 (by rw [hc2, e1])⟩
        intro d hd
        rcases List.mem_cons.1 hd with rfl | hd
        · rw [hc2]; omega
        · exact e3 d hd
      have HS2 := Lib.hid hs2
      have hl2 : (c :: t).length ≤ 17 := by rw [hs2.2.1]; omega
      clear hs hs2 hc1 hc2
      go_wp2
      go_round
      case rel => exact ⟨k + 1, x / 16, c :: t, by omega, by omega, by go_num, by go_num, congrArg Value.string (glue c t), hl2, HS2⟩
      case measure => simp [intOf]; omega
    · obtain ⟨e1, e2, e3, e4⟩ := hs.out
      obtain rfl : n = k := by omega
      have hT : ((⟨#[48, 120]⟩ : ByteArray) ++ (⟨t.toArray⟩ : ByteArray)).data.toList = 48 :: 120 :: t := by simp [ByteArray.data_append]
      have p := fun w => parse_any ((⟨#[48, 120]⟩ : ByteArray) ++ (⟨t.toArray⟩ : ByteArray)) w
      rw [hT] at p
      by_cases h17 : 16 < n
      · rw [read_hex17 t e3 (by omega)] at p
        have P := Lib.hid p
        have SA := Lib.hid (same_at ⟨#[119, 111, 114, 100]⟩ 18 6 (by omega) (by omega) w HG.out)
        clear p hT e1 e2 e3 e4 hs
        go_wp2_with fail
        go_at_call 24
        refine (P.out _).mono ?_
        rintro e w' ⟨rfl, rfl⟩
        go_wp2_with fail
        go_at_call 28
        refine (no_any _ _ _ _).mono ?_
        rintro e w' ⟨rfl, rfl⟩
        go_wp2_with fail
        go_at_call 26
        refine SA.out.mono ?_
        rintro e w1 ⟨rfl, hb⟩
        have HT1 := Lib.hid (pow10_below hb HT.out)
        have HG1 := Lib.hid (errType_below hb HG.out (cell_lt HG.out))
        go_wp2_with fail
        go_at_call 19
        refine (awake_any _ HG1.out HT1.out).mono ?_
        rintro e w2 ⟨rfl, hb2⟩
        go_wp2_with fail
        go_ret
        exact ⟨rfl, hb.trans (hb2.mono hb.size)⟩
      · rw [read_hex t e3 (by omega) (by omega), e4] at p
        by_cases h16 : n < 16
        · obtain ⟨M, hM⟩ : ∃ M, M = 16 ^ n := ⟨_, rfl⟩
          rw [← hM] at p
          have m1 : 1 ≤ M := by rw [hM]; exact Nat.pow_pos (by omega)
          have hsh : IntKind.u64.wrap ((2 : Int) ^ (4 * n)) = (M : Int) := by
            have q1 : ((2 : Int) ^ (4 * n)) = ((16 ^ n : Nat) : Int) := by
              rw [Int.natCast_pow, Int.pow_mul]; rfl
            have q2 : 16 ^ n ≤ 16 ^ 15 := Nat.pow_le_pow_right (by omega) (by omega)
            have q3 : 16 ^ 15 = 1152921504606846976 := by decide
            rw [q1, ← hM, IntKind.wrap_u64]
            omega
          have P := Lib.hid p
          clear p hT e1 e2 e3 e4 hs hM
          go_wp2_with fail
          go_at_call 24
          refine (P.out _).mono ?_
          rintro e w' ⟨rfl, rfl⟩
          go_wp2_with fail
          go_at_call 19
          refine AW.out.mono ?_
          rintro e w2 ⟨rfl, hb2⟩
          go_wp2_with fail
          go_ret
          exact ⟨rfl, hb2⟩
        · rw [show u % 16 ^ n = u from Nat.mod_eq_of_lt (by rw [show n = 16 by omega]; exact hu)] at p
          have P := Lib.hid p
          clear p hT e1 e2 e3 e4 hs
          go_wp2_with fail
          go_at_call 24
          refine (P.out _).mono ?_
          rintro e w' ⟨rfl, rfl⟩
          go_wp2_with fail
          go_at_call 19
          refine AW.out.mono ?_
          rintro e w2 ⟨rfl, hb2⟩
          go_wp2_with fail
          go_ret
          exact ⟨rfl, hb2⟩

theorem wordHex_walk (a0 : Int) (a1 : Bool) (a2 : Int) (w0 : (Lit.int .u64 a0).wf = true) (_w2 : (Lit.int .i64 a2).wf = true) (w : World) (hg : ErrType w) (ht : Pow10 w) :
    Calls Tryd.prog 9 #[.int .u64 a0, .bool a1, .int .i64 a2] w fun e w' => e = .returned (.bool true) ∧ Below w.heap.size w w' := by
  have h0 : 0 ≤ a0 ∧ a0 ≤ 18446744073709551615 := by
    simp [Lit.wf, IntKind.min, IntKind.max, IntKind.signed, IntKind.bits] at w0
    exact ⟨by omega, by omega⟩
  obtain ⟨u, rfl⟩ : ∃ u : Nat, a0 = u := ⟨a0.toNat, by omega⟩
  have k0 : 0 ≤ a2 % 17 := Int.emod_nonneg _ (by omega)
  have k1 : a2 % 17 < 17 := Int.emod_lt_of_pos _ (by omega)
  have wi := fun w => within_any a2 17 (by omega) (by omega) w
  rw [show a2 % 17 = (((a2 % 17).toNat + 1 : Nat) : Int) - 1 by omega] at wi
  cases a1 with
  | false => exact wordHex_digitsLo u _ a2 (by omega) (by omega) (by omega) w hg ht wi
  | true => exact wordHex_digitsUp u _ a2 (by omega) (by omega) (by omega) w hg ht wi
end Go.Proofs.YtklmnhklgojacaaDoor
