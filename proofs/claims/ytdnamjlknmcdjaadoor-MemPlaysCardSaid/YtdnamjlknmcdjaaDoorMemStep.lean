/- The statements' helps do and same (layer 2): do answers true at any call, and both memories are in one state behind it; same answers true. The conditions: both lie there in one state, whose count of accesses is small; the library's variable errors.errorType holds the type error. -/
import Derived.Test.YtdnamjlknmcdjaaDoorMemStep1
import Derived.Deep.QuietTactic
import Derived.BigQuiet
namespace Go.Proofs.YtdnamjlknmcdjaaDoor
open Go.RowKit
set_option linter.unusedVariables false

theorem do_any {W : World} {b bc r bw bh : Nat} {m : Cells} (HB : Both W b bc r bw bh m) (d a n k : Int) (ad : Nat) (old v : Int) (hn0 : 0 ≤ m.n) (hn : m.n < 9223372036854775807) (had : ad < 18446744073709551616)
    (a0 : -9223372036854775808 ≤ a) (a1 : a ≤ 9223372036854775807) (n1 : n ≤ 9223372036854775807) (o0 : 0 ≤ old) (o1 : old ≤ 18446744073709551615) (v0 : 0 ≤ v) (v1 : v ≤ 18446744073709551615) :
    Calls Tryd.prog 10 #[.pointer (some ⟨b, 0, none⟩), .pointer (some ⟨r, 0, none⟩), .agg #[.int .i64 d, .int .i64 a, .int .i64 n, .int .i64 k, .int .u64 ad, .int .u64 old, .int .u64 v]] W (StepPost b bc r bw bh m W) := by
  have h9 : d % 9 = 0 ∨ d % 9 = 1 ∨ d % 9 = 2 ∨ d % 9 = 3 ∨ d % 9 = 4 ∨ d % 9 = 5 ∨ d % 9 = 6 ∨ (d % 9 = 7 ∨ d % 9 = 8) := by omega
  by_cases hw : widthAt m.ws ad = 0
  · rcases h9 with h | h | h | h | h | h | h | h
    · exact do_0 HB d a n k ad old v a0 a1 n1 h
    · exact do_1 HB d a n k ad old v a0 a1 n1 h
    · exact do_2 HB d a n k ad old v h
    · exact do_3b HB d a n k ad old v hn0 hn had o0 o1 v0 v1 h hw
    · exact do_4b HB d a n k ad old v hn0 hn had o0 o1 v0 v1 h hw
    · exact do_5b HB d a n k ad old v hn0 hn had o0 o1 v0 v1 h hw
    · exact do_6b HB d a n k ad old v hn0 hn had o0 o1 v0 v1 h hw
    · exact do_7b HB d a n k ad old v hn0 hn had o0 o1 v0 v1 h hw
  · rcases h9 with h | h | h | h | h | h | h | h
    · exact do_0 HB d a n k ad old v a0 a1 n1 h
    · exact do_1 HB d a n k ad old v a0 a1 n1 h
    · exact do_2 HB d a n k ad old v h
    · exact do_3g HB d a n k ad old v hn0 hn had o0 o1 v0 v1 h hw
    · exact do_4g HB d a n k ad old v hn0 hn had o0 o1 v0 v1 h hw
    · exact do_5g HB d a n k ad old v hn0 hn had o0 o1 v0 v1 h hw
    · exact do_6g HB d a n k ad old v hn0 hn had o0 o1 v0 v1 h hw
    · exact do_7g HB d a n k ad old v hn0 hn had o0 o1 v0 v1 h hw

set_option maxHeartbeats 4000000 in
set_option maxRecDepth 100000 in
theorem sameMem_any {W : World} {b bc r bw bh : Nat} {m : Cells} (HB : Both W b bc r bw bh m) (hn0 : 0 ≤ m.n) (hn : m.n ≤ 1000) (hl : m.ws.length ≤ 1000) :
    Calls Tryd.prog 11 #[.pointer (some ⟨b, 0, none⟩), .pointer (some ⟨r, 0, none⟩)] W fun e w' => e = .returned (.bool true) ∧ Only (allB b bc r bw bh) W w' := by
  have T1 := Lib.hid (fun nn => (memThere (HB.p.drewN nn)).mono fun _ _ h => (⟨h.1, h.2.symm⟩ : _ ∧ _))
  have T2 := Lib.hid (fun nn => (refThere (HB.q.drewN nn) HB.g.small).mono fun _ _ h => (⟨h.1, h.2.symm⟩ : _ ∧ _))
  have C1 := Lib.hid (fun nn => (memCount (HB.p.drewN nn)).mono fun _ _ h => (⟨h.1, h.2.symm⟩ : _ ∧ _))
  have c2 := HB.q.c2
  have H := Lib.hid HB
  obtain ⟨T, hT⟩ : ∃ T, T = countNZ m.ws := ⟨_, rfl⟩
  obtain ⟨N, hN⟩ : ∃ N, N = m.n := ⟨_, rfl⟩
  rw [← hT] at T1 T2
  rw [← hN] at C1 c2
  have tT : (T != T) = false := bne_self_eq_false T
  have tN : (N != N) = false := bne_self_eq_false N
  have HN := Lib.hid hN
  clear hT hN HB
  go_enter Tryd.func11, Tryd.ntmps11
  go_wp2_with fail
  go_quiet ((first | (go_at_call 15; exact Calls.quiet_of_same (T1.out _)) | (go_at_call 31; exact Calls.quiet_of_same (T2.out _)) | (go_at_call 16; exact Calls.quiet_of_same (C1.out _))))
  go_wp2_with fail
  go_loopw [5] (fun vi wr => ∃ (i : Nat) (mi : Cells), i ≤ m.ws.length + 1 ∧ vi = .int .i64 i ∧ mi.ws.length = m.ws.length ∧ 0 ≤ mi.n ∧ mi.n ≤ N + 2 * i ∧ Both wr b bc r bw bh mi ∧ Only (allB b bc r bw bh) W wr) (fun vi _ => m.ws.length + 1 - (intOf vi).toNat)
  case atStart =>
    refine ⟨0, m, by omega, rfl, rfl, hn0, ?_, ?_, (Only.refl _ _).drewN _⟩
    · have := HN.out; omega
    · exact H.out.kept (F := []) ((Only.refl [] _).drewN _) (by simp) (by simp) (by simp) (by simp) (by simp) (by simp)
  case round =>
    obtain ⟨i, mi, hi, rfl, li, n0, n1, hb, ho⟩ := hrel
    have d0 := hb.q.c0
    have hN := HN.out
    obtain ⟨L, hL⟩ : ∃ L, L = m.ws.length := ⟨_, rfl⟩
    rw [← hL] at hl hi li ⊢
    rw [li] at d0
    by_cases hlt : i ≤ L
    · have D1 := Lib.hid (do_any hb 2 0 0 0 i 0 0 n0 (by omega) (by omega) (by omega) (by omega) (by omega) (by omega) (by omega) (by omega) (by omega))
      have H1 := Lib.hid (fun (mj : Cells) (wj : World) (h : Both wj b bc r bw bh mj) (hj0 : 0 ≤ mj.n) (hj : mj.n ≤ N + 2 * i + 1) => do_any h 3 0 0 0 i 0 0 hj0 (by omega) (by omega) (by omega) (by omega) (by omega) (by omega) (by omega) (by omega) (by omega))
      have O := Lib.hid ho
      have LI := Lib.hid li
      have HL := Lib.hid hL
      clear hb ho hL li hN
      go_wp2_with fail
      go_at_call 10
      refine D1.out.mono ?_
      rintro e w2 ⟨rfl, m2, l2, p2, q2, hb2, ho2⟩
      have D2 := Lib.hid (H1.out m2 w2 hb2 (by omega) (by omega))
      have O2 := Lib.hid (O.out.trans ho2)
      have L2 := Lib.hid (l2.trans LI.out)
      clear hb2 ho2 l2
      go_wp2_with fail
      go_at_call 10
      refine D2.out.mono ?_
      rintro e w3 ⟨rfl, m3, l3, p3, q3, hb3, ho3⟩
      have HB3 := Lib.hid hb3
      have O3 := Lib.hid (O2.out.trans ho3)
      have L3 := Lib.hid (l3.trans L2.out)
      clear hb3 ho3 l3
      go_wp2_with fail
      go_roundw
      case rel => exact ⟨i + 1, m3, by omega, by go_num, L3.out, by omega, by omega, HB3.out, O3.out⟩
      case measure => simp [intOf]; omega
    · have O := Lib.hid ho
      clear hb ho li hL hN
      go_wp2_with fail
      go_ret
      exact ⟨rfl, O.out⟩
end Go.Proofs.YtdnamjlknmcdjaaDoor
