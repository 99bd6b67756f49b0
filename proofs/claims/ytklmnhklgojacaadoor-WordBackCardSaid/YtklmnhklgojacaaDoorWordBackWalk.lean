/- The walk of WordBack: it returns true; of what was there nothing has turned. -/
import Derived.Test.YtklmnhklgojacaaDoorAwake
import Derived.Test.YtklmnhklgojacaaDoorNumerals
import Derived.Lib.ItoaLen
namespace Go.Proofs.YtklmnhklgojacaaDoor
open Go.RowKit

/-- Twenty noughts. -/
def noughts20 : ByteArray := ⟨#[48, 48, 48, 48, 48, 48, 48, 48, 48, 48, 48, 48, 48, 48, 48, 48, 48, 48, 48, 48]⟩
theorem noughts_front (k : Nat) (h : k ≤ 20) : (noughts20.extract 0 k).data.toList = List.replicate k 48 := by
  have : k = 0 ∨ k = 1 ∨ k = 2 ∨ k = 3 ∨ k = 4 ∨ k = 5 ∨ k = 6 ∨ k = 7 ∨ k = 8 ∨ k = 9 ∨ k = 10 ∨ k = 11 ∨ k = 12 ∨ k = 13 ∨ k = 14 ∨ k = 15 ∨ k = 16 ∨ k = 17 ∨ k = 18 ∨ k = 19 ∨ k = 20 := by omega
  rcases this with rfl | rfl | rfl | rfl | rfl | rfl | rfl | rfl | rfl | rfl | rfl | rfl | rfl | rfl | rfl | rfl | rfl | rfl | rfl | rfl | rfl <;> decide +kernel

set_option maxHeartbeats 4000000 in
set_option maxRecDepth 100000 in
theorem wordBack_walk (a0 a1 : Int) (w0 : (Lit.int .u64 a0).wf = true) (_w1 : (Lit.int .i64 a1).wf = true) (w : World) (hg : ErrType w) (ht : Pow10 w) :
    Calls Tryd.prog 7 #[.int .u64 a0, .int .i64 a1] w fun e w' => e = .returned (.bool true) ∧ Below w.heap.size w w' := by
  have h0 : 0 ≤ a0 ∧ a0 ≤ 18446744073709551615 := by
    simp [Lit.wf, IntKind.min, IntKind.max, IntKind.signed, IntKind.bits] at w0
    exact ⟨by omega, by omega⟩
  obtain ⟨u, rfl⟩ : ∃ u : Nat, a0 = u := ⟨a0.toNat, by omega⟩
  have hu : u < 18446744073709551616 := by omega
  clear w0 h0
  -- the text, the noughts, both
  obtain ⟨S, hS⟩ : ∃ S : ByteArray, S = ⟨(Lib.decDigits u).toArray⟩ := ⟨_, rfl⟩
  have hSl : S.data.toList = Lib.decDigits u := by rw [hS]
  have hSz : S.size = (Lib.decDigits u).length := by rw [hS]; simp [ByteArray.size]
  have l1 : 1 ≤ S.size := by rw [hSz, Lib.decDigits_length]; exact Lib.nDigits_pos u
  have l20 : S.size ≤ 20 := by rw [hSz, Lib.decDigits_length]; exact Lib.nDigits_le20 u hu
  have k0 : 0 ≤ a1 % 21 := Int.emod_nonneg _ (by omega)
  have k1 : a1 % 21 < 21 := Int.emod_lt_of_pos _ (by omega)
  have WI := Lib.hid (fun w => within_any a1 21 (by omega) (by omega) w)
  obtain ⟨k, ek⟩ : ∃ k : Nat, a1 % 21 = k := ⟨(a1 % 21).toNat, by omega⟩
  rw [ek] at WI k1
  clear k0 ek
  have hk : k ≤ 20 := by omega
  obtain ⟨Z, hZ⟩ : ∃ Z : ByteArray, Z = noughts20.extract 0 k := ⟨_, rfl⟩
  have hZl : Z.data.toList = List.replicate k 48 := by rw [hZ]; exact noughts_front k hk
  have hZz : Z.size = k := by have := congrArg List.length hZl; simpa using this
  have hsl : ∀ w, (Instr.slice 9 (.string ⟨#[48, 48, 48, 48, 48, 48, 48, 48, 48, 48, 48, 48, 48, 48, 48, 48, 48, 48, 48, 48]⟩) none (some (.int .i64 (k : Int))) none).run Tryd.prog w = .ok (.string Z) w := fun w => by
    show (Instr.slice 9 (.string noughts20) none (some (.int .i64 (k : Int))) none).run Tryd.prog w = _
    rw [run_slice_string_h w 9 noughts20 Tryd.underlying9 .i64 (k : Int) (by omega) (by show (k : Int) ≤ ((20 : Nat) : Int); omega), show ((k : Int)).toNat = k by omega, hZ]
  have p1 := fun w => parse_any S w
  rw [hSl] at p1
  have rb := read_back u 0 hu (by rw [← hSz]; omega)
  rw [show List.replicate 0 (48 : UInt8) ++ Lib.decDigits u = Lib.decDigits u from rfl] at rb
  rw [rb] at p1
  have p2 := fun w => parse_any (Z ++ S) w
  have hZS : (Z ++ S).data.toList = List.replicate k 48 ++ Lib.decDigits u := by rw [ByteArray.data_append, Array.toList_append, hZl, hSl]
  rw [hZS] at p2
  have P0 := Lib.hid (print_any u hu w ht)
  rw [← hS] at P0
  have P1 := Lib.hid p1
  have HG := Lib.hid hg
  have HT := Lib.hid ht
  have pos : 0 < S.size := l1
  have hfirst : u ≠ 0 → (((S[0]'pos).toNat : Int) == 48) = false := fun hu0 => by
    obtain ⟨c, l, e, hc⟩ := decDigits_head u hu0
    have e2 : S[0]'pos = c := by
      have h3 : S.data.toList[0]'(by rw [hSl, e]; simp) = c := by simp [hSl, e]
      exact h3
    rw [e2]; exact beq_eq_false_iff_ne.2 (by omega)
  have hzs : Z.size + S.size ≤ 9223372036854775807 := by omega
  by_cases hlong : 20 < k + S.size
  · obtain ⟨n, hn⟩ := read_back_long u k (by rw [← hSz]; exact hlong)
    rw [hn] at p2
    have P2 := Lib.hid p2
    have hlong' : 20 < Z.size + S.size := by omega
    clear p1 p2 rb hn hZS hS hSl hSz hZ hZl hZz hg ht hlong k1 hk
    by_cases hu0 : u = 0
    · have t0 : ((u : Int) != 0) = false := by simp [hu0]
      clear hu0 hfirst
      go_enter Tryd.func7, Tryd.ntmps7
      go_wp2_with fail
      go_at_call 22
      refine P0.out.mono ?_
      rintro e w1 ⟨rfl, hb⟩
      have HT1 := Lib.hid (pow10_below hb HT.out)
      have HG1 := Lib.hid (errType_below hb HG.out (cell_lt HG.out))
      go_wp2_with fail
      go_at_call 27
      refine (WI.out _).mono ?_
      rintro e w' ⟨rfl, rfl⟩
      go_wp2_with fail
      go_at_call 24
      refine (P1.out _).mono ?_
      rintro e w' ⟨rfl, rfl⟩
      go_wp2_with fail
      all_goals (
        go_at_call 24
        refine (P2.out _).mono ?_
        rintro e w' ⟨rfl, rfl⟩
        go_wp2_with fail
        go_at_call 19
        have hb3 : Below w1.heap.size w1 (w1.alloc (.cells #[.string ⟨#[119, 111, 114, 100]⟩, .int .i64 n, .iface 46 (.int .i64 6)] 64)) := (Below.refl _ _).alloc (Nat.le_refl _) _
        refine (awake_any _ (errType_below hb3 HG1.out (cell_lt HG1.out)) (pow10_below hb3 HT1.out)).mono ?_
        rintro e w2 ⟨rfl, hb2⟩
        go_wp2_with fail
        go_ret
        exact ⟨rfl, hb.trans ((hb3.trans (hb2.mono (by simp))).mono hb.size)⟩)
    · have t0 := hfirst hu0
      clear hu0 hfirst
      go_enter Tryd.func7, Tryd.ntmps7
      go_wp2_with fail
      go_at_call 22
      refine P0.out.mono ?_
      rintro e w1 ⟨rfl, hb⟩
      have HT1 := Lib.hid (pow10_below hb HT.out)
      have HG1 := Lib.hid (errType_below hb HG.out (cell_lt HG.out))
      go_wp2_with fail
      go_at_call 27
      refine (WI.out _).mono ?_
      rintro e w' ⟨rfl, rfl⟩
      go_wp2_with fail
      go_at_call 24
      refine (P1.out _).mono ?_
      rintro e w' ⟨rfl, rfl⟩
      go_wp2_with fail
      all_goals (
        go_at_call 24
        refine (P2.out _).mono ?_
        rintro e w' ⟨rfl, rfl⟩
        go_wp2_with fail
        go_at_call 19
        have hb3 : Below w1.heap.size w1 (w1.alloc (.cells #[.string ⟨#[119, 111, 114, 100]⟩, .int .i64 n, .iface 46 (.int .i64 6)] 64)) := (Below.refl _ _).alloc (Nat.le_refl _) _
        refine (awake_any _ (errType_below hb3 HG1.out (cell_lt HG1.out)) (pow10_below hb3 HT1.out)).mono ?_
        rintro e w2 ⟨rfl, hb2⟩
        go_wp2_with fail
        go_ret
        exact ⟨rfl, hb.trans ((hb3.trans (hb2.mono (by simp))).mono hb.size)⟩)
  · have hn := read_back u k hu (by rw [← hSz]; omega)
    rw [hn] at p2
    have P2 := Lib.hid p2
    have hlong' : Z.size + S.size ≤ 20 := by omega
    clear p1 p2 rb hn hZS hS hSl hSz hZ hZl hZz hg ht hlong k1 hk
    by_cases hu0 : u = 0
    · have t0 : ((u : Int) != 0) = false := by simp [hu0]
      clear hu0 hfirst
      go_enter Tryd.func7, Tryd.ntmps7
      go_wp2_with fail
      go_at_call 22
      refine P0.out.mono ?_
      rintro e w1 ⟨rfl, hb⟩
      have HT1 := Lib.hid (pow10_below hb HT.out)
      have HG1 := Lib.hid (errType_below hb HG.out (cell_lt HG.out))
      go_wp2_with fail
      go_at_call 27
      refine (WI.out _).mono ?_
      rintro e w' ⟨rfl, rfl⟩
      go_wp2_with fail
      go_at_call 24
      refine (P1.out _).mono ?_
      rintro e w' ⟨rfl, rfl⟩
      go_wp2_with fail
      all_goals (
        go_at_call 24
        refine (P2.out _).mono ?_
        rintro e w' ⟨rfl, rfl⟩
        go_wp2_with fail
        go_at_call 19
        refine (awake_any _ HG1.out HT1.out).mono ?_
        rintro e w2 ⟨rfl, hb2⟩
        go_wp2_with fail
        go_ret
        exact ⟨rfl, hb.trans (hb2.mono hb.size)⟩)
    · have t0 := hfirst hu0
      clear hu0 hfirst
      go_enter Tryd.func7, Tryd.ntmps7
      go_wp2_with fail
      go_at_call 22
      refine P0.out.mono ?_
      rintro e w1 ⟨rfl, hb⟩
      have HT1 := Lib.hid (pow10_below hb HT.out)
      have HG1 := Lib.hid (errType_below hb HG.out (cell_lt HG.out))
      go_wp2_with fail
      go_at_call 27
      refine (WI.out _).mono ?_
      rintro e w' ⟨rfl, rfl⟩
      go_wp2_with fail
      go_at_call 24
      refine (P1.out _).mono ?_
      rintro e w' ⟨rfl, rfl⟩
      go_wp2_with fail
      all_goals (
        go_at_call 24
        refine (P2.out _).mono ?_
        rintro e w' ⟨rfl, rfl⟩
        go_wp2_with fail
        go_at_call 19
        refine (awake_any _ HG1.out HT1.out).mono ?_
        rintro e w2 ⟨rfl, hb2⟩
        go_wp2_with fail
        go_ret
        exact ⟨rfl, hb.trans (hb2.mono hb.size)⟩)
end Go.Proofs.YtklmnhklgojacaaDoor
