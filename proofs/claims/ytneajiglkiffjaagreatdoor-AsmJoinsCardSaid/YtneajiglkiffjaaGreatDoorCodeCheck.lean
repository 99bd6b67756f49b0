/- The program's word on a code (layer 4): the contract of Check. The conditions: the instructions lie there, fewer than 2^62, their numbers are words. -/
import Derived.Test.YtneajiglkiffjaaGreatDoorCodeValid2
import Derived.Test.YtneajiglkiffjaaGreatDoorCodeErr
namespace Go.Proofs.YtneajiglkiffjaaGreatDoor
open Go.RowKit
set_option linter.unusedVariables false

set_option maxHeartbeats 2000000 in
set_option maxRecDepth 100000 in
theorem check_any (A : Option Addr) (cap : Nat) (l : List Inst) (lib : Bool) (w : World) (hl : l.length < 4611686018427387904) (hI : InsIn w A l) (hO : ∀ i, i < l.length → InsOk (l.getD i inst0)) :
    Calls Tryz.prog 34 #[.slice A l.length cap, .bool lib] w (EPost ((checkRes l lib).map fun x => ([(codeS, x.1)], x.2)) w) := by
  obtain ⟨N, hN⟩ : ∃ N, N = l.length := ⟨_, rfl⟩
  rw [← hN] at hl hO ⊢
  have HN := Lib.hid hN
  have HI := Lib.hid hI
  have HO := Lib.hid hO
  obtain ⟨R, hR⟩ : ∃ R, R = (checkRes l lib).map fun x => ([(codeS, x.1)], x.2) := ⟨_, rfl⟩
  rw [← hR]
  by_cases hbig : 2048 < N
  · have hr : R = some ([(codeS, 0)], 3) := by rw [hR]; unfold checkRes; rw [if_pos (by rw [← hN]; exact hbig)]; rfl
    have FA := Lib.hid (fun W => cfault_any 0 49 (.int .i64 3) W)
    have FIN := Lib.hid (e_no 0 3 (Below.refl w.heap.size w))
    rw [← hr] at FIN
    clear hr hN hI hO hR
    go_enter Tryz.func34, Tryz.ntmps34
    go_wp2_with (go_at_call 57; refine (FA.out _).mono ?_; rintro e w' ⟨rfl, rfl⟩)
    go_ret
    exact FIN.out
  · have hR2 : R = (firstBad N lib l 0).map fun i : Nat => ([(codeS, (i : Int))], (5 : Int)) := by rw [hR, checkRes, if_neg (by rw [← hN]; exact hbig), hN]; cases firstBad l.length lib l 0 <;> rfl
    have HR := Lib.hid hR2
    clear hN hI hR hR2 hO
    go_enter Tryz.func34, Tryz.ntmps34
    go_wp2_with fail
    go_loopw [14] (fun vi wr => ∃ i : Nat, i ≤ N ∧ vi = .int .i64 i ∧ Hid (∀ t, t < i → rightB (l.getD t inst0) N lib = true) ∧ Hid (Below w.heap.size w wr)) (fun vi _ => N - (intOf vi).toNat)
    case atStart => exact ⟨0, by omega, rfl, Lib.hid (fun t ht => by omega), Lib.hid (Below.refl _ _)⟩
    case round =>
      obtain ⟨i, hi, rfl, hok, hbl⟩ := hrel
      by_cases hlt : i < N
      · obtain ⟨p, rfl, hp, c0, c1, c2, c3, c4, c5, c6⟩ := (HI.out.below hbl.out) i (by rw [← HN.out]; exact hlt)
        obtain ⟨x, hx⟩ : ∃ x, x = l.getD i inst0 := ⟨_, rfl⟩
        rw [← hx] at c0 c1 c2 c3 c4 c5 c6
        obtain ⟨q, hq⟩ : ∃ q, q = rightB x N lib := ⟨_, rfl⟩
        have hv : InsOk x := by rw [hx]; exact HO.out i hlt
        have RT := fun W => valid_any x.op x.a x.b x.c x.v x.m x.wh N (by omega) (by omega) hv lib W
        rw [show (⟨x.op, x.a, x.b, x.c, x.v, x.m, x.wh⟩ : Inst) = x from rfl, ← hq] at RT
        have HRT := Lib.hid RT
        have HX := Lib.hid (And.intro hx hq)
        clear hx hq RT hv
        have BB := Lib.hid (hbl.out.alloc hbl.out.size (.cells #[.int .i64 x.op, .int .i64 x.a, .int .i64 x.b, .int .i64 x.c, .int .u64 x.v, .int .i64 x.m, .int .i64 x.wh] 44))
        by_cases hqt : q = true
        · have HOK := Lib.hid (show ∀ t, t < i + 1 → rightB (l.getD t inst0) N lib = true from fun t ht => by
            by_cases hti : t < i
            · exact hok.out t hti
            · obtain rfl : t = i := by omega
              rw [← HX.out.1, ← HX.out.2]; exact hqt)
          subst hqt
          go_wp2_with fail
          go_at_call 58
          refine (HRT.out _).mono ?_
          rintro e w2 ⟨rfl, hb2⟩
          have BL2 := Lib.hid (BB.out.trans (hb2.mono BB.out.size))
          clear hb2
          go_wp2_with fail
          go_roundw
          case rel => exact ⟨i + 1, by omega, by go_num, HOK, BL2⟩
          case measure => simp [intOf]; omega
        · have hqf : q = false := by simpa using hqt
          have hres : R = some ([(codeS, (i : Int))], 5) := by
            rw [HR.out, firstBad_at N lib l 0 i (by rw [← HN.out]; exact hlt) hok.out (by rw [← HX.out.1, ← HX.out.2]; exact hqf)]; simp
          have FA := Lib.hid (fun W => cfault_any (i : Int) 49 (.int .i64 5) W)
          have FIN := Lib.hid (fun w2 (hb : Below w.heap.size w w2) => e_no (i : Int) 5 hb)
          rw [← hres] at FIN
          subst hqf
          clear hqt hres
          go_wp2_with fail
          go_at_call 58
          refine (HRT.out _).mono ?_
          rintro e w2 ⟨rfl, hb2⟩
          have BL2 := Lib.hid (BB.out.trans (hb2.mono BB.out.size))
          clear hb2
          go_wp2_with (go_at_call 57; refine (FA.out _).mono ?_; rintro e w' ⟨rfl, rfl⟩)
          go_ret
          exact FIN.out _ BL2.out
      · have hres : R = none := by
          rw [HR.out, firstBad_none N lib l 0 (fun t ht => hok.out t (by rw [← HN.out] at ht; omega))]; rfl
        have FIN := Lib.hid (show EPost none w (.returned .nilIface) wr from ⟨rfl, hbl.out⟩)
        rw [← hres] at FIN
        clear hres
        go_wp2_with fail
        go_ret
        exact FIN.out
end Go.Proofs.YtneajiglkiffjaaGreatDoor
