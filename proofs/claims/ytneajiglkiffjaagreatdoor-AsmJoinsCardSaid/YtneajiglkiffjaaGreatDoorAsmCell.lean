/- Contracts of package asm's readCell, readMark (layer 5): what is read into an instruction. The condition: the instruction lies there and may be written; the word has at most 65536 bytes. -/
import Derived.Test.YtneajiglkiffjaaGreatDoorAsmField
import Derived.StillTailTactics
import Derived.KernelRfl
namespace Go.Proofs.YtneajiglkiffjaaGreatDoor
open Go.RowKit
set_option linter.unusedVariables false

theorem eitherB_cs (x : Inst) (l : List UInt8) : eitherR x.cs 2 4 l = (eitherB x l).map Inst.cs := by
  unfold eitherR eitherB
  cases regP l with
  | none => cases numP l <;> rfl
  | some n => rfl
theorem eitherC_cs (x : Inst) (l : List UInt8) : eitherR x.cs 3 4 l = (eitherC x l).map Inst.cs := by
  unfold eitherR eitherC
  cases regP l with
  | none => cases numP l <;> rfl
  | some n => rfl
theorem rout_err {b : Nat} {w w' : World} (ho : Only [b] w w') (t : TypeId) (v : Value) : ROut none b w (.returned (.iface t v)) w' := ⟨⟨_, _, rfl⟩, ho⟩
theorem drop_len (l : List UInt8) : (l.drop 1).length ≤ l.length := by simp
theorem dropLast_len (l : List UInt8) : l.dropLast.length ≤ l.length := by simp
set_option maxHeartbeats 2000000 in
theorem readCell_any (l : List UInt8) (hl : l.length ≤ 65536) (b : Nat) (x : Inst) (w : World) (h : Row w b x.cs) : Calls Tryz.prog 95 #[.pointer (some ⟨b, 0, none⟩), .string (bytesA l)] w
    (ROut ((cellP x l).map Inst.cs) b w) := by
  have H := Lib.hid h
  clear h
  obtain ⟨p1, hp1⟩ : ∃ p, p = [91].isPrefixOf l := ⟨_, rfl⟩
  obtain ⟨l1, hl1⟩ : ∃ l1, l1 = (if p1 then l.drop 1 else l) := ⟨_, rfl⟩
  obtain ⟨p2, hp2⟩ : ∃ p, p = [93].isSuffixOf l1 := ⟨_, rfl⟩
  obtain ⟨l2, hl2⟩ : ∃ l2, l2 = (if p2 then l1.dropLast else l1) := ⟨_, rfl⟩
  have CP := Lib.hid (fun W => cutPre l 91 W)
  rw [← hp1, ← hl1] at CP
  have n1 : l1.length ≤ 65536 := by
    rw [hl1]; split
    · exact Nat.le_trans (drop_len l) hl
    · exact hl
  have n2 : l2.length ≤ 65536 := by
    rw [hl2]; split
    · exact Nat.le_trans (dropLast_len l1) n1
    · exact n1
  have CS := Lib.hid (fun W => cutSuf l1 93 W (by omega))
  rw [← hp2, ← hl2] at CS
  have E := Lib.hid (show cellP x l = if p1 && p2 then (match cutAt 43 l2 with | (r, q, true) => (match regP r with | some n => (numP q).map fun v : Nat => { x with b := n, v := v } | none => none) | (_, _, false) => eitherB x l2) else none from by
    unfold cellP
    cases p1 with
    | false => rw [← hp1]; rfl
    | true =>
      simp only [if_true] at hl1
      rw [← hp1, ← hl1, ← hp2]
      cases p2 with
      | false => rfl
      | true =>
        simp only [if_true] at hl2
        rw [← hl2]
        rcases cutAt 43 l2 with ⟨r, q, _ | _⟩ <;> rfl)
  obtain ⟨R, hR⟩ : ∃ R, R = (cellP x l).map Inst.cs := ⟨_, rfl⟩
  rw [← hR]
  have HR := Lib.hid hR
  have HP1 := Lib.hid hp1
  have HP2 := Lib.hid hp2
  have CU := Lib.hid (fun W => cut_any (bytesA l2) 43 W (by rw [bytesA_size]; omega))
  rw [show (bytesA l2).data.toList = l2 by simp] at CU
  obtain ⟨s, hs⟩ : ∃ s, s = bytesA l := ⟨_, rfl⟩
  obtain ⟨s1, hs1⟩ : ∃ s1, s1 = bytesA l1 := ⟨_, rfl⟩
  rw [← hs, ← hs1] at CP
  rw [← hs1] at CS
  rw [← hs]
  clear hR hs hs1 hp1 hp2 hl1 hl2
  cases p1 with
  | false =>
    have FIN := Lib.hid (fun t v => show ROut R b w (.returned (.iface t v)) w from by rw [HR.out, E.out]; exact rout_err (Only.refl _ _) t v)
    clear CU
    go_enter Tryz.func95, Tryz.ntmps95
    go_wp2_with fail
    go_at_call 109
    refine (CP.out _).mono ?_
    rintro e w1 ⟨rfl, rfl⟩
    go_wp2_with fail
    go_at_call 54
    refine (CS.out _).mono ?_
    rintro e w1 ⟨rfl, rfl⟩
    go_wp2_with fail
    go_ret
    exact FIN.out _ _
  | true =>
    cases p2 with
    | false =>
      have FIN := Lib.hid (fun t v => show ROut R b w (.returned (.iface t v)) w from by rw [HR.out, E.out]; exact rout_err (Only.refl _ _) t v)
      clear CU
      go_enter Tryz.func95, Tryz.ntmps95
      go_wp2_with fail
      go_at_call 109
      refine (CP.out _).mono ?_
      rintro e w1 ⟨rfl, rfl⟩
      go_wp2_with fail
      go_at_call 54
      refine (CS.out _).mono ?_
      rintro e w1 ⟨rfl, rfl⟩
      go_wp2_with fail
      go_ret
      exact FIN.out _ _
    | true =>
      obtain ⟨⟨r, q, sum⟩, hc⟩ : ∃ c, c = cutAt 43 l2 := ⟨_, rfl⟩
      rw [← hc] at CU
      have E2 := Lib.hid (show cellP x l = _ from E.out)
      rw [← hc] at E2
      clear E hc
      cases sum with
      | false =>
        have EI := Lib.hid (fun W hW => readEither_any l2 b 2 4 x.cs (by simp [Inst.cs]) (by simp [Inst.cs]) W hW)
        have FIN := Lib.hid (fun n e w' (h : ROut (eitherR x.cs 2 4 l2) b (w.drewN n) e w') => show ROut R b w e w' from by rw [HR.out, E2.out]; rw [eitherB_cs] at h; exact h.from ((Only.refl _ _).drewN n))
        have EI2 := Lib.hid (fun n => EI.out (w.drewN n) (H.out.drewN n))
        obtain ⟨s2, hs2⟩ : ∃ s2, s2 = bytesA l2 := ⟨_, rfl⟩
        rw [← hs2] at CS CU EI2
        obtain ⟨RR, hRR⟩ : ∃ RR, RR = eitherR x.cs 2 4 l2 := ⟨_, rfl⟩
        rw [← hRR] at EI2 FIN
        clear hs2 hRR EI
        go_enter Tryz.func95, Tryz.ntmps95
        go_wp2_with fail
        go_at_call 109
        refine (CP.out _).mono ?_
        rintro e w1 ⟨rfl, rfl⟩
        go_wp2_with fail
        go_at_call 54
        refine (CS.out _).mono ?_
        rintro e w1 ⟨rfl, rfl⟩
        go_wp2_with fail
        go_at_call 51
        refine (CU.out _).mono ?_
        rintro e w1 ⟨rfl, n, rfl⟩
        go_wp2_with fail
        go_region_with (go_at_call 94; (first | refine (EI2.out _).mono ?_ | (simp only [World.drewN_drewN, World.drew_eq] ; refine (EI2.out _).mono ?_)); intro e w' hro; obtain ⟨v, rfl⟩ := hro.value; have HO := Lib.hid hro; clear hro)
        all_goals
          go_wp2_with fail
          go_ret
          exact FIN.out _ _ _ HO.out
      | true =>
        have RG := Lib.hid (fun W hW => readReg_any r b 2 x.cs (by simp [Inst.cs]) W hW)
        have RG2 := Lib.hid (fun n => RG.out (w.drewN n) (H.out.drewN n))
        cases hr : regP r with
        | none =>
          rw [hr] at RG2
          have FIN := Lib.hid (fun n t v w' (h : ROut none b (w.drewN n) (.returned (.iface t v)) w') => show ROut R b w (.returned (.iface t v)) w' from by rw [HR.out, E2.out]; simp only [hr]; exact rout_err (((Only.refl _ _).drewN n).trans h.2) _ _)
          obtain ⟨s2, hs2⟩ : ∃ s2, s2 = bytesA l2 := ⟨_, rfl⟩
          rw [← hs2] at CS CU
          clear hs2 RG E2 hr
          go_enter Tryz.func95, Tryz.ntmps95
          go_wp2_with fail
          go_at_call 109
          refine (CP.out _).mono ?_
          rintro e w1 ⟨rfl, rfl⟩
          go_wp2_with fail
          go_at_call 54
          refine (CS.out _).mono ?_
          rintro e w1 ⟨rfl, rfl⟩
          go_wp2_with fail
          go_at_call 51
          refine (CU.out _).mono ?_
          rintro e w1 ⟨rfl, n, rfl⟩
          go_wp2_with fail
          go_at_call 93
          refine (RG2.out _).mono ?_
          rintro e w' ⟨⟨t, v, rfl⟩, ho⟩
          have HO := Lib.hid (show ROut none b (w.drewN n) (.returned (.iface t v)) w' from ⟨⟨_, _, rfl⟩, ho⟩)
          clear ho
          go_wp2_with fail
          go_ret
          exact FIN.out _ _ _ _ HO.out
        | some k =>
          rw [hr] at RG2
          have NU := Lib.hid (fun W hW => readNum_any q b 4 (x.cs.set 2 (.int .i64 (k : Int))) (by simp [Inst.cs]) W hW)
          have FIN := Lib.hid (fun n W e w' (ho : Only [b] (w.drewN n) W) (h : ROut ((numP q).map fun v : Nat => (x.cs.set 2 (.int .i64 (k : Int))).set 4 (.int .u64 (v : Int))) b W e w') => show ROut R b w e w' from by
            rw [HR.out, E2.out]
            simp only [hr, Bool.and_self, if_true]
            refine ROut.from ?_ (((Only.refl _ _).drewN n).trans ho)
            cases hn : numP q with
            | none => rw [hn] at h; exact h
            | some v => rw [hn] at h; exact h)
          obtain ⟨RR, hRR⟩ : ∃ RR, RR = ((numP q).map fun v : Nat => (x.cs.set 2 (.int .i64 (k : Int))).set 4 (.int .u64 (v : Int))) := ⟨_, rfl⟩
          rw [← hRR] at NU FIN
          obtain ⟨s2, hs2⟩ : ∃ s2, s2 = bytesA l2 := ⟨_, rfl⟩
          rw [← hs2] at CS CU
          clear hs2 RG E2 hr hRR
          go_enter Tryz.func95, Tryz.ntmps95
          go_wp2_with fail
          go_at_call 109
          refine (CP.out _).mono ?_
          rintro e w1 ⟨rfl, rfl⟩
          go_wp2_with fail
          go_at_call 54
          refine (CS.out _).mono ?_
          rintro e w1 ⟨rfl, rfl⟩
          go_wp2_with fail
          go_at_call 51
          refine (CU.out _).mono ?_
          rintro e w1 ⟨rfl, n, rfl⟩
          go_wp2_with fail
          go_at_call 93
          refine (RG2.out _).mono ?_
          rintro e w' ⟨rfl, hro, ho⟩
          have HO := Lib.hid ho
          have HW := Lib.hid hro
          clear ho hro
          go_wp2_with fail
          go_at_call 96
          refine (NU.out _ HW.out).mono ?_
          intro e w2 hro
          obtain ⟨v, rfl⟩ := hro.value
          have HX := Lib.hid hro
          clear hro
          go_wp2_with fail
          go_ret
          exact FIN.out _ _ _ _ HO.out HX.out
end Go.Proofs.YtneajiglkiffjaaGreatDoor
