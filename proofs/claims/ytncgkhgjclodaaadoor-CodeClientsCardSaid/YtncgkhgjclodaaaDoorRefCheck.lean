/- The document's word on a code (layer 4): contracts of Check and of its error, wrapped. The conditions: the instructions lie there, fewer than 2^62. -/
import Derived.Test.YtncgkhgjclodaaaDoorRefRight
import Derived.Test.YtncgkhgjclodaaaDoorRefPost
namespace Go.Proofs.YtncgkhgjclodaaaDoor
open Go.RowKit
set_option linter.unusedVariables false

set_option maxHeartbeats 2000000 in
set_option maxRecDepth 100000 in
theorem refCheck_any (A : Option Addr) (cap : Nat) (l : List Inst) (lib : Bool) (w : World) (hl : l.length < 4611686018427387904) (hI : InsIn w A l) :
    Calls Tryd.prog 14 #[.slice A l.length cap, .bool lib] w (ChkPost (checkRes l lib) w) := by
  obtain ⟨N, hN⟩ : ∃ N, N = l.length := ⟨_, rfl⟩
  rw [← hN] at hl ⊢
  have HN := Lib.hid hN
  have HI := Lib.hid hI
  by_cases hbig : 2048 < N
  · have hr : checkRes l lib = some (0, 3) := by unfold checkRes; rw [if_pos (by rw [← hN]; exact hbig)]
    rw [hr]
    have NN := Lib.hid (fun W => no_any codeS 0 3 W)
    have FIN := Lib.hid (chk_no 0 3 (Below.refl w.heap.size w))
    clear hr hN hI
    go_enter Tryd.func14, Tryd.ntmps14
    go_wp2_with (go_at_call 26; refine (NN.out _).mono ?_; rintro e w' ⟨rfl, rfl⟩)
    go_ret
    exact FIN.out
  · obtain ⟨R, hR⟩ : ∃ R, R = checkRes l lib := ⟨_, rfl⟩
    have hR2 : R = (firstBad N lib l 0).map fun i => ((i : Int), 5) := by rw [hR, checkRes, if_neg (by rw [← hN]; exact hbig), hN]
    rw [← hR]
    have HR := Lib.hid hR2
    clear hN hI hR hR2
    go_enter Tryd.func14, Tryd.ntmps14
    go_wp2_with fail
    go_loopw [5] (fun vi wr => ∃ i : Nat, i ≤ N ∧ vi = .int .i64 i ∧ Hid (∀ t, t < i → rightB (l.getD t inst0) N lib = true) ∧ Hid (Below w.heap.size w wr)) (fun vi _ => N - (intOf vi).toNat)
    case atStart => exact ⟨0, by omega, rfl, Lib.hid (fun t ht => by omega), Lib.hid (Below.refl _ _)⟩
    case round =>
      obtain ⟨i, hi, rfl, hok, hbl⟩ := hrel
      by_cases hlt : i < N
      · obtain ⟨p, rfl, hp, c0, c1, c2, c3, c4, c5, c6⟩ := (HI.out.below hbl.out) i (by rw [← HN.out]; exact hlt)
        obtain ⟨x, hx⟩ : ∃ x, x = l.getD i inst0 := ⟨_, rfl⟩
        rw [← hx] at c0 c1 c2 c3 c4 c5 c6
        obtain ⟨q, hq⟩ : ∃ q, q = rightB x N lib := ⟨_, rfl⟩
        have RT := right_any x.op x.a x.b x.c x.v x.m x.wh N (by omega) (by omega) lib wr
        rw [show (⟨x.op, x.a, x.b, x.c, x.v, x.m, x.wh⟩ : Inst) = x from rfl, ← hq] at RT
        have HRT := Lib.hid RT
        have HX := Lib.hid (And.intro hx hq)
        clear hx hq RT
        by_cases hqt : q = true
        · have HOK := Lib.hid (show ∀ t, t < i + 1 → rightB (l.getD t inst0) N lib = true from fun t ht => by
            by_cases hti : t < i
            · exact hok.out t hti
            · obtain rfl : t = i := by omega
              rw [← HX.out.1, ← HX.out.2]; exact hqt)
          subst hqt
          go_wp2_with fail
          go_at_call 32
          refine HRT.out.mono ?_
          rintro e w2 ⟨rfl, hb2⟩
          have BL2 := Lib.hid (hbl.out.trans (hb2.mono hbl.out.size))
          clear hb2
          go_wp2_with fail
          go_roundw
          case rel => exact ⟨i + 1, by omega, by go_num, HOK, BL2⟩
          case measure => simp [intOf]; omega
        · have hqf : q = false := by simpa using hqt
          have hres : R = some ((i : Int), 5) := by
            rw [HR.out, firstBad_at N lib l 0 i (by rw [← HN.out]; exact hlt) hok.out (by rw [← HX.out.1, ← HX.out.2]; exact hqf)]; simp
          have NN := Lib.hid (fun W => no_any codeS (i : Int) 5 W)
          have FIN := Lib.hid (fun w2 (hb : Below w.heap.size w w2) => chk_no (i : Int) 5 hb)
          rw [← hres] at FIN
          subst hqf
          clear hqt hres
          go_wp2_with fail
          go_at_call 32
          refine HRT.out.mono ?_
          rintro e w2 ⟨rfl, hb2⟩
          have BL2 := Lib.hid (hbl.out.trans (hb2.mono hbl.out.size))
          clear hb2
          go_wp2_with (go_at_call 26; refine (NN.out _).mono ?_; rintro e w' ⟨rfl, rfl⟩)
          go_ret
          exact FIN.out _ BL2.out
      · have hres : R = none := by
          rw [HR.out, firstBad_none N lib l 0 (fun t ht => hok.out t (by rw [← HN.out] at ht; omega))]; rfl
        have FIN := Lib.hid (show ChkPost none w (.returned (.pointer none)) wr from ⟨rfl, hbl.out⟩)
        rw [← hres] at FIN
        clear hres
        go_wp2_with fail
        go_ret
        exact FIN.out
set_option maxHeartbeats 1000000 in
/-- Check's error, wrapped, with its place. -/
theorem refAgain_any (A : Option Addr) (cap : Nat) (l : List Inst) (lib : Bool) (w : World) (hl : l.length < 4611686018427387904) (hI : InsIn w A l) :
    Calls Tryd.prog 34 #[.slice A l.length cap, .bool lib] w (FPost ((checkRes l lib).map fun x => ([(codeS, x.1), (codeS, x.1)], x.2)) w) := by
  have CK0 := refCheck_any A cap l lib w hl hI
  cases hr : checkRes l lib with
  | none =>
    rw [hr] at CK0
    have CK := Lib.hid (show Calls Tryd.prog 14 #[.slice A l.length cap, .bool lib] w fun e w' => e = .returned (.pointer none) ∧ Below w.heap.size w w' from CK0)
    obtain ⟨N, hN⟩ : ∃ N, N = l.length := ⟨_, rfl⟩
    rw [← hN] at CK ⊢
    clear CK0 hr hI hN hl
    go_enter Tryd.func34, Tryd.ntmps34
    go_wp2_with fail
    go_at_call 14
    refine CK.out.mono ?_
    rintro e w1 ⟨rfl, hb⟩
    have BL := Lib.hid hb
    clear hb
    go_wp2_with fail
    go_ret
    exact ⟨rfl, BL.out⟩
  | some x =>
    obtain ⟨n, k⟩ := x
    rw [hr] at CK0
    have CK := Lib.hid (show Calls Tryd.prog 14 #[.slice A l.length cap, .bool lib] w fun e w' => ∃ z, e = .returned (.pointer (some ⟨z + 1 + 1, 0, none⟩)) ∧ FailBlk w' z codeS n k ∧ Below w.heap.size w w' from CK0)
    obtain ⟨N, hN⟩ : ∃ N, N = l.length := ⟨_, rfl⟩
    rw [← hN] at CK ⊢
    clear CK0 hr hI hN hl
    go_enter Tryd.func34, Tryd.ntmps34
    go_wp2_with fail
    go_at_call 14
    refine CK.out.mono ?_
    rintro e w1 ⟨z, rfl, hz, hb⟩
    have c1 : w1.cell? ⟨z + 1 + 1, 1, none⟩ = some (.slice (some ⟨z + 1, 0, none⟩) 1 1) := by rw [cells_of hz.f2]; rfl
    have s1 : w1.cell? ⟨z + 1, 0, none⟩ = some (.int .i64 n) := by rw [cells_of hz.f1]; rfl
    have IN := Lib.hid (in_some codeS n z codeS n k w1 hz)
    have BL := Lib.hid hb
    clear hb hz
    go_wp2_with fail
    go_at_call 48
    refine IN.out.mono ?_
    rintro e w2 ⟨F, rfl, ⟨zz, rfl⟩, hF, hb2⟩
    have FIN := Lib.hid (show FPost (some ([(codeS, n), (codeS, n)], k)) w (.returned (.pointer (some ⟨zz, 0, none⟩))) w2 from ⟨_, rfl, hF, BL.out.trans (hb2.mono BL.out.size)⟩)
    clear hF hb2
    go_wp2_with fail
    go_ret
    exact FIN.out

end Go.Proofs.YtncgkhgjclodaaaDoor
