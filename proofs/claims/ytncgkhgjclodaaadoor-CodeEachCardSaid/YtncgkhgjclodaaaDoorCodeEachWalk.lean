/- A code is right just if each of its instructions is: the walk of CodeEach. The conditions: the instructions lie there and fit the reach of memory; the library's variable errors.errorType holds the type error. -/
import Derived.Test.YtncgkhgjclodaaaDoorCodeAwake
import Derived.Test.YtncgkhgjclodaaaDoorCodeFill
namespace Go.Proofs.YtncgkhgjclodaaaDoor
open Go.RowKit
set_option linter.unusedVariables false

theorem firstBad_snoc (n : Int) (lib : Bool) (x : Inst) : ∀ (a : List Inst) (i : Nat), firstBad n lib (a ++ [x]) i = match firstBad n lib a i with | some j => some j | none => if rightB x n lib then none else some (i + a.length)
  | [], i => by simp [firstBad]
  | y :: a, i => by
    rw [List.cons_append, firstBad, firstBad]
    by_cases h : rightB y n lib = true
    · rw [if_pos h, if_pos h, firstBad_snoc n lib x a (i + 1), List.length_cons, show i + 1 + a.length = i + (a.length + 1) by omega]
    · rw [if_neg h, if_neg h]
theorem firstBad_take (n : Int) (lib : Bool) (l : List Inst) (i : Nat) (h : i < l.length) : firstBad n lib (l.take (i + 1)) 0 = match firstBad n lib (l.take i) 0 with | some j => some j | none => if rightB (l.getD i inst0) n lib then none else some i := by
  have e : l.take (i + 1) = l.take i ++ [l.getD i inst0] := by
    rw [List.take_add_one, List.getElem?_eq_getElem h, List.getD, List.getElem?_eq_getElem h]; rfl
  rw [e, firstBad_snoc, List.length_take, Nat.min_eq_left (by omega), Nat.zero_add]
def firstI : Option Nat → Int
  | none => -1
  | some j => j

section
variable (lib : Bool) (w : World) (A : Option Addr) (cap : Nat) (l : List Inst)
set_option maxHeartbeats 400000 in
theorem each_out (hl : l.length < 4611686018427387904) (h : l.length = 0 ∨ 60 < l.length) (hE : ErrType w) :
    Calls Tryd.prog 7 #[.slice A l.length cap, .bool lib] w fun e w' => e = .returned (.bool true) ∧ Below w.heap.size w w' := by
  have AW := Lib.hid (awake_any w hE)
  obtain ⟨N, hN⟩ : ∃ N, N = l.length := ⟨_, rfl⟩
  rw [← hN] at h hl ⊢
  clear hN hE
  by_cases h0 : N = 0
  · subst h0
    clear h
    go_enter Tryd.func7, Tryd.ntmps7
    go_wp2_with fail
    go_at_call 16
    refine AW.out.mono ?_
    rintro e w6 ⟨rfl, hb6⟩
    have B6 := Lib.hid hb6
    clear hb6
    go_wp2_with fail
    go_ret
    exact ⟨rfl, B6.out⟩
  · have h1 : 60 < N := by omega
    clear h
    go_enter Tryd.func7, Tryd.ntmps7
    go_wp2_with fail
    go_at_call 16
    refine AW.out.mono ?_
    rintro e w6 ⟨rfl, hb6⟩
    have B6 := Lib.hid hb6
    clear hb6
    go_wp2_with fail
    go_ret
    exact ⟨rfl, B6.out⟩

set_option maxHeartbeats 4000000 in
set_option maxRecDepth 100000 in
theorem codeEach_walk (hg : l.length * 56 ≤ 140737488355328) (hI : InsIn w A l) (hO : ∀ i, i < l.length → InsOk (l.getD i inst0)) (hE : ErrType w) :
    Calls Tryd.prog 7 #[.slice A l.length cap, .bool lib] w fun e w' => e = .returned (.bool true) ∧ Below w.heap.size w w' := by
  have hl : l.length < 4611686018427387904 := by omega
  by_cases hz : l.length = 0 ∨ 60 < l.length
  · exact each_out lib w A cap l hl hz hE
  have h1 : 1 ≤ l.length := by omega
  have h2 : l.length ≤ 60 := by omega
  have hres : (checkRes l lib).map (fun x => ([(codeS, x.1)], x.2)) = (firstBad l.length lib l 0).map fun i : Nat => ([(codeS, (i : Int))], (5 : Int)) := by
    unfold checkRes
    rw [if_neg (by omega)]
    cases firstBad l.length lib l 0 <;> rfl
  have CC := Lib.hid (fun W (h : Below w.heap.size w W) => copyCode_any A cap l W (hI.below h) hg)
  have CK := Lib.hid (fun B c W (h : InsIn W B l) => check_any B c l lib W hl h hO)
  have TC := Lib.hid (told_check l lib)
  rw [hres] at CK TC
  have HE := Lib.hid hE
  have HI := Lib.hid hI
  have HO := Lib.hid hO
  have HTK := Lib.hid (firstBad_take l.length lib l)
  obtain ⟨N, hN⟩ : ∃ N, N = l.length := ⟨_, rfl⟩
  have HTN := Lib.hid (show l.take N = l by rw [hN]; exact List.take_length)
  have HN := Lib.hid hN
  rw [← hN] at CC CK hl h1 h2 HO HTK TC ⊢
  have RL := Lib.hid (fun (x : Inst) (h : InsOk x) W => right_law x.op x.a x.b x.c x.v x.m x.wh h N h1 (by omega) lib W)
  clear hN hg hI hO hE hres hz
  have n0 : ¬ N = 0 := by omega
  have e0 : ((N : Int) == 0) = false := by simp; omega
  have e60 : decide ((60 : Int) < (N : Int)) = false := by simp; omega
  go_enter Tryd.func7, Tryd.ntmps7
  go_wp2_with fail
  go_loopw [5, 6, 7] (fun va vf vi wr => ∃ (i : Nat) (r : Option Nat), i ≤ N ∧ vi = .int .i64 i ∧ va = .bool r.isNone ∧ vf = .int .i64 (firstI r) ∧ Hid (firstBad N lib (l.take i) 0 = r) ∧ Hid (Below w.heap.size w wr)) (fun _ _ vi _ => N - (intOf vi).toNat)
  case atStart => exact ⟨0, none, by omega, rfl, rfl, rfl, Lib.hid rfl, Lib.hid (Below.refl _ _)⟩
  case round =>
    obtain ⟨i, r, hi, rfl, rfl, rfl, hr, hbl⟩ := hrel
    by_cases hlt : i < N
    · obtain ⟨p, rfl, hp, c0, c1, c2, c3, c4, c5, c6⟩ := (HI.out.below hbl.out) i (by rw [← HN.out]; exact hlt)
      have hT := HTK.out i hlt
      have hX := HO.out i hlt
      generalize l.getD i inst0 = x at c0 c1 c2 c3 c4 c5 c6 hT hX
      have R1 := RL.out x hX wr
      rw [hr.out] at hT
      obtain ⟨q, hq⟩ : ∃ q, q = rightB x N lib := ⟨_, rfl⟩
      rw [← hq] at hT
      rw [show (⟨x.op, x.a, x.b, x.c, x.v, x.m, x.wh⟩ : Inst) = x from rfl, ← hq] at R1
      have R2 := Lib.hid R1
      have HT := Lib.hid hT
      clear hq hX R1 hT
      cases q with
      | true =>
        have HT2 := Lib.hid (show firstBad N lib (l.take (i + 1)) 0 = r by rw [HT.out]; cases r <;> rfl)
        go_wp2_with fail
        go_at_call 25
        refine R2.out.mono ?_
        rintro e w2 ⟨rfl, hb2⟩
        have BL2 := Lib.hid (hbl.out.trans (hb2.mono hbl.out.size))
        clear hb2
        cases r with
        | none =>
          go_wp2_with fail
          go_roundw
          case rel => exact ⟨i + 1, none, by omega, by go_num, rfl, rfl, HT2, BL2⟩
          case measure => simp [intOf]; omega
        | some j =>
          go_wp2_with fail
          go_roundw
          case rel => exact ⟨i + 1, some j, by omega, by go_num, rfl, rfl, HT2, BL2⟩
          case measure => simp [intOf]; omega
      | false =>
        cases r with
        | none =>
          have HT2 := Lib.hid (show firstBad N lib (l.take (i + 1)) 0 = some i by rw [HT.out]; rfl)
          rw [show firstI none = -1 from rfl]
          go_wp2_with fail
          go_at_call 25
          refine R2.out.mono ?_
          rintro e w2 ⟨rfl, hb2⟩
          have BL2 := Lib.hid (hbl.out.trans (hb2.mono hbl.out.size))
          clear hb2
          go_wp2_with fail
          go_roundw
          case rel => exact ⟨i + 1, some i, by omega, by go_num, rfl, rfl, HT2, BL2⟩
          case measure => simp [intOf]; omega
        | some j =>
          have HT2 := Lib.hid (show firstBad N lib (l.take (i + 1)) 0 = some j by rw [HT.out])
          rw [show firstI (some j) = (j : Int) from rfl]
          go_wp2_with fail
          go_at_call 25
          refine R2.out.mono ?_
          rintro e w2 ⟨rfl, hb2⟩
          have BL2 := Lib.hid (hbl.out.trans (hb2.mono hbl.out.size))
          clear hb2
          go_wp2_with fail
          go_roundw
          case rel => exact ⟨i + 1, some j, by omega, by go_num, rfl, rfl, HT2, BL2⟩
          case measure => simp [intOf]; omega
    · obtain rfl : i = N := by omega
      have hR : firstBad i lib l 0 = r := by rw [← hr.out, HTN.out]
      rw [hR] at CK TC
      clear hR
      go_wp2_with fail
      go_at_call 11
      refine (CC.out _ hbl.out).mono ?_
      rintro e w1 ⟨B, c, rfl, hB, hb1, _⟩
      have B1 := Lib.hid (hbl.out.trans (hb1.mono hbl.out.size))
      have IB := Lib.hid hB
      clear hb1 hB
      go_wp2_with fail
      go_at_call 13
      refine (CK.out _ _ _ IB.out).mono ?_
      intro e w2 h2
      obtain ⟨v, rfl, h2, hb2⟩ := h2.returned
      have B2 := Lib.hid (B1.out.trans (hb2.mono B1.out.size))
      have P2 := Lib.hid h2
      clear h2 hb2
      cases r with
      | none =>
        obtain ⟨hv, _⟩ := P2.out
        cases hv
        go_wp2_with fail
        go_at_call 16
        refine (awake_any w2 (errType_below B2.out HE.out (cell_lt HE.out))).mono ?_
        rintro e w6 ⟨rfl, hb6⟩
        have B6 := Lib.hid (B2.out.trans (hb6.mono B2.out.size))
        clear hb6
        go_wp2_with fail
        go_ret
        exact ⟨rfl, B6.out⟩
      | some j =>
        rw [show firstI (some j) = (j : Int) from rfl]
        go_wp2_with fail
        go_at_call 26
        refine (no_f j 5 w2).mono ?_
        intro e w5 h5
        obtain ⟨f, rfl, h5, hb5⟩ := h5.returned
        have B5 := Lib.hid (B2.out.trans (hb5.mono B2.out.size))
        have SM := Lib.hid (same_ef TC.out P2.out h5 (errType_below B5.out HE.out (cell_lt HE.out)))
        clear h5 hb5
        go_wp2_with fail
        go_at_call 12
        refine SM.out.mono ?_
        rintro e w6 ⟨rfl, hb6⟩
        have B6 := Lib.hid (B5.out.trans (hb6.mono B5.out.size))
        clear hb6
        go_wp2_with fail
        go_at_call 16
        refine (awake_any w6 (errType_below B6.out HE.out (cell_lt HE.out))).mono ?_
        rintro e w7 ⟨rfl, hb7⟩
        have B7 := Lib.hid (B6.out.trans (hb7.mono B6.out.size))
        clear hb7
        go_wp2_with fail
        go_ret
        exact ⟨rfl, B7.out⟩
end
end Go.Proofs.YtncgkhgjclodaaaDoor
