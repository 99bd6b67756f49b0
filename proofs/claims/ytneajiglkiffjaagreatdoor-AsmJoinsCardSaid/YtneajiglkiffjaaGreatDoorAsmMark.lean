/- Contract of package asm's readMark (layer 5): what is read of a mark into an instruction. The condition: the instruction lies there and may be written, its When is 0; the word has 1 to 65536 bytes. -/
import Derived.Test.YtneajiglkiffjaaGreatDoorAsmCell
namespace Go.Proofs.YtneajiglkiffjaaGreatDoor
open Go.RowKit
set_option linter.unusedVariables false

theorem suffix_len (a b : List UInt8) (h : a.isSuffixOf b = true) : a.length ≤ b.length := (List.isSuffixOf_iff_suffix.1 h).length_le
theorem row_six {w : World} {b : Nat} {op a bb c v m : Int} (h : Row w b (Inst.cs ⟨op, a, bb, c, v, m, 0⟩)) (k : Int) (u : Value) :
    Row ((w.setCell ⟨b, 6, none⟩ u).setCell ⟨b, 6, none⟩ (.int .i64 k)) b (Inst.cs ⟨op, a, bb, c, v, m, k⟩) ∧ Only [b] w ((w.setCell ⟨b, 6, none⟩ u).setCell ⟨b, 6, none⟩ (.int .i64 k)) :=
  ⟨(h.set 6 (by simp [Inst.cs]) u).set 6 (by simp [Inst.cs]) (.int .i64 k), ((Only.refl _ _).setCell (.inl (by simp)) _).setCell (.inl (by simp)) _⟩
theorem row_six1 {w : World} {b : Nat} {op a bb c v m : Int} (h : Row w b (Inst.cs ⟨op, a, bb, c, v, m, 0⟩)) (k : Int) :
    Row (w.setCell ⟨b, 6, none⟩ (.int .i64 k)) b (Inst.cs ⟨op, a, bb, c, v, m, k⟩) ∧ Only [b] w (w.setCell ⟨b, 6, none⟩ (.int .i64 k)) :=
  ⟨h.set 6 (by simp [Inst.cs]) (.int .i64 k), (Only.refl _ _).setCell (.inl (by simp)) _⟩
set_option maxHeartbeats 4000000 in
theorem readMark_any (s : ByteArray) (h1 : 1 ≤ s.size) (hl : s.size ≤ 65536) (b : Nat) (op a bb c v m : Int) (w : World) (h : Row w b (Inst.cs ⟨op, a, bb, c, v, m, 0⟩)) : Calls Tryz.prog 78 #[.pointer (some ⟨b, 0, none⟩), .string s] w
    (ROut ((markP ⟨op, a, bb, c, v, m, 0⟩ s.data.toList).map Inst.cs) b w) := by
  have H := Lib.hid h
  obtain ⟨q2, hq2⟩ : ∃ q, q = Lib.hasSuffix (s.extract 1 s.size).data.toList [62, 48] := ⟨_, rfl⟩
  obtain ⟨q1, hq1⟩ : ∃ q, q = Lib.hasSuffix (s.extract 1 s.size).data.toList [61, 48] := ⟨_, rfl⟩
  have S2 := Lib.hid (fun W => Tryz.strings_HasSuffix (s.extract 1 s.size) ⟨#[62, 48]⟩ W (by simp; omega))
  have S1 := Lib.hid (fun W => Tryz.strings_HasSuffix (s.extract 1 s.size) ⟨#[61, 48]⟩ W (by simp; omega))
  rw [show (⟨#[62, 48]⟩ : ByteArray).data.toList = [62, 48] from rfl, ← hq2] at S2
  rw [show (⟨#[61, 48]⟩ : ByteArray).data.toList = [61, 48] from rfl, ← hq1] at S1
  have e1 : (s.extract 1 s.size).data.toList = s.data.toList.drop 1 := Lib.extract_to_end s 1
  have hlen : (s.data.toList.drop 1).length = s.size - 1 := by simp
  have e2 : ((s.extract 1 s.size).extract 0 (s.size - 1 - 2)).data.toList = (s.data.toList.drop 1).take ((s.data.toList.drop 1).length - 2) := by rw [Lib.extract_from_zero, e1, hlen]
  rw [e1] at hq1 hq2
  have c6 := h.cell 6 (by simp [Inst.cs])
  have f6 := h.free 6 (by simp [Inst.cs])
  simp only [Inst.cs, List.getElem_cons_succ, List.getElem_cons_zero] at c6
  have i1 : (1 : Int) ≤ (s.size : Int) := by omega
  obtain ⟨R, hR⟩ : ∃ R, R = (markP ⟨op, a, bb, c, v, m, 0⟩ s.data.toList).map Inst.cs := ⟨_, rfl⟩
  rw [← hR]
  have HR := Lib.hid hR
  have HQ2 := Lib.hid hq2
  have HQ1 := Lib.hid hq1
  have E1 := Lib.hid e1
  have E2 := Lib.hid e2
  have HL := Lib.hid hlen
  clear h hq2 hq1 hR e1 e2 hlen
  cases q2 with
  | true =>
    have MC : markCut s.data.toList = (((s.extract 1 s.size).extract 0 (s.size - 1 - 2)).data.toList, 2) := by rw [E2.out]; rw [markCut, if_pos (by have := HQ2.out; unfold Lib.hasSuffix at this; exact this.symm)]
    have HXX := Lib.hid (show ((s.extract 1 s.size).extract 0 (s.size - 1 - 2)) = bytesA ((s.extract 1 s.size).extract 0 (s.size - 1 - 2)).data.toList from (bytesA_eq _).symm)
    obtain ⟨RW, OW⟩ : Row ((w.setCell ⟨b, 6, none⟩ (.int .i64 1)).setCell ⟨b, 6, none⟩ (.int .i64 2)) b (Inst.cs ⟨op, a, bb, c, v, m, 2⟩) ∧ Only [b] w ((w.setCell ⟨b, 6, none⟩ (.int .i64 1)).setCell ⟨b, 6, none⟩ (.int .i64 2)) := row_six H.out 2 _
    have RW := Lib.hid RW
    have OW := Lib.hid OW
    have j3 : 3 ≤ s.size := by
      have h9 := suffix_len _ _ (show [62, 48].isSuffixOf (s.data.toList.drop 1) = true from by have := HQ2.out; unfold Lib.hasSuffix at this; exact this.symm)
      rw [HL.out] at h9
      simp only [List.length_cons, List.length_nil] at h9
      omega
    have j1 : (2 : Int) ≤ ((s.size - 1 : Nat) : Int) := by omega
    have j2 : ((s.size - 1 : Nat) : Int) - 2 ≤ ((s.size - 1 : Nat) : Int) := by omega
    cases hr : readAll ((s.extract 1 s.size).extract 0 (s.size - 1 - 2)).data.toList with
    | bad n =>
      have PB := Lib.hid (show ∀ W, Calls Tryz.prog 98 #[.string ((s.extract 1 s.size).extract 0 (s.size - 1 - 2))] W fun e w' => ∃ ob, e = .returned (.tuple #[.int .u64 0, .iface 69 (.pointer (some ⟨W.heap.size, 0, none⟩))]) ∧ W.alloc ob = w' from fun W => by
        have := parse_bad _ n hr W
        rw [← HXX.out] at this
        exact this.mono fun e w' ⟨ob, h1, h2⟩ => ⟨ob, h1, h2.symm⟩)
      have FIN := Lib.hid (fun ob t v => show ROut R b w (.returned (.iface t v)) (World.alloc ((w.setCell ⟨b, 6, none⟩ (.int .i64 1)).setCell ⟨b, 6, none⟩ (.int .i64 2)) ob) from by
        rw [HR.out, markP, MC]; simp only [numP, hr]
        exact rout_err (OW.out.alloc _) _ _)
      clear hr MC HXX
      go_enter Tryz.func78, Tryz.ntmps78
      go_wp2_with fail
      go_at_call 97
      refine (S2.out _).mono ?_
      rintro e w1 ⟨rfl, rfl⟩
      go_wp2_with fail
      go_at_call 98
      refine (PB.out _).mono ?_
      rintro e w1 ⟨ob, rfl, rfl⟩
      go_wp2_with fail
      go_ret
      exact FIN.out _ _ _
    | ok n =>
      have PO := Lib.hid (show ∀ W, Calls Tryz.prog 98 #[.string ((s.extract 1 s.size).extract 0 (s.size - 1 - 2))] W fun e w' => e = .returned (.tuple #[.int .u64 n, .nilIface]) ∧ W = w' from fun W => by
        have := parse_ok _ n hr W
        rwa [← HXX.out] at this)
      by_cases n1 : (n : Int) < 1
      · have FIN := Lib.hid (fun t v => show ROut R b w (.returned (.iface t v)) ((w.setCell ⟨b, 6, none⟩ (.int .i64 1)).setCell ⟨b, 6, none⟩ (.int .i64 2)) from by
          rw [HR.out, markP, MC]; simp only [numP, hr]
          rw [if_neg (by omega)]
          exact rout_err OW.out _ _)
        clear hr MC HXX
        go_enter Tryz.func78, Tryz.ntmps78
        go_wp2_with fail
        go_at_call 97
        refine (S2.out _).mono ?_
        rintro e w1 ⟨rfl, rfl⟩
        go_wp2_with fail
        go_at_call 98
        refine (PO.out _).mono ?_
        rintro e w1 ⟨rfl, rfl⟩
        go_wp2_with fail
        go_ret
        exact FIN.out _ _
      · by_cases n2 : (99 : Int) < (n : Int)
        · have FIN := Lib.hid (fun t v => show ROut R b w (.returned (.iface t v)) ((w.setCell ⟨b, 6, none⟩ (.int .i64 1)).setCell ⟨b, 6, none⟩ (.int .i64 2)) from by
            rw [HR.out, markP, MC]; simp only [numP, hr]
            rw [if_neg (by omega)]
            exact rout_err OW.out _ _)
          clear hr MC HXX
          go_enter Tryz.func78, Tryz.ntmps78
          go_wp2_with fail
          go_at_call 97
          refine (S2.out _).mono ?_
          rintro e w1 ⟨rfl, rfl⟩
          go_wp2_with fail
          go_at_call 98
          refine (PO.out _).mono ?_
          rintro e w1 ⟨rfl, rfl⟩
          go_wp2_with fail
          go_ret
          exact FIN.out _ _
        · have FIN := Lib.hid (show ROut R b w (.returned .nilIface) (World.setCell ((w.setCell ⟨b, 6, none⟩ (.int .i64 1)).setCell ⟨b, 6, none⟩ (.int .i64 2)) ⟨b, 5, none⟩ (.int .i64 (n : Int))) from by
            rw [HR.out, markP, MC]; simp only [numP, hr]
            rw [if_pos (by omega)]
            exact ⟨rfl, RW.out.set 5 (by simp [Inst.cs]) (.int .i64 (n : Int)), OW.out.setCell (.inl (by simp)) _⟩)
          have c5 := RW.out.cell 5 (by simp [Inst.cs])
          have f5 := RW.out.free 5 (by simp [Inst.cs])
          simp only [Inst.cs, List.getElem_cons_succ, List.getElem_cons_zero] at c5
          clear hr MC HXX
          go_enter Tryz.func78, Tryz.ntmps78
          go_wp2_with fail
          go_at_call 97
          refine (S2.out _).mono ?_
          rintro e w1 ⟨rfl, rfl⟩
          go_wp2_with fail
          go_at_call 98
          refine (PO.out _).mono ?_
          rintro e w1 ⟨rfl, rfl⟩
          go_wp2_with fail
          go_ret
          exact FIN.out
  | false =>
   cases q1 with
   | true =>
    have MC : markCut s.data.toList = (((s.extract 1 s.size).extract 0 (s.size - 1 - 2)).data.toList, 1) := by rw [E2.out]; rw [markCut, if_neg (by have := HQ2.out; unfold Lib.hasSuffix at this; rw [← this]; simp), if_pos (by have := HQ1.out; unfold Lib.hasSuffix at this; exact this.symm)]
    have HXX := Lib.hid (show ((s.extract 1 s.size).extract 0 (s.size - 1 - 2)) = bytesA ((s.extract 1 s.size).extract 0 (s.size - 1 - 2)).data.toList from (bytesA_eq _).symm)
    obtain ⟨RW, OW⟩ : Row (w.setCell ⟨b, 6, none⟩ (.int .i64 1)) b (Inst.cs ⟨op, a, bb, c, v, m, 1⟩) ∧ Only [b] w (w.setCell ⟨b, 6, none⟩ (.int .i64 1)) := row_six1 H.out 1
    have RW := Lib.hid RW
    have OW := Lib.hid OW
    have j3 : 3 ≤ s.size := by
      have h9 := suffix_len _ _ (show [61, 48].isSuffixOf (s.data.toList.drop 1) = true from by have := HQ1.out; unfold Lib.hasSuffix at this; exact this.symm)
      rw [HL.out] at h9
      simp only [List.length_cons, List.length_nil] at h9
      omega
    have j1 : (2 : Int) ≤ ((s.size - 1 : Nat) : Int) := by omega
    have j2 : ((s.size - 1 : Nat) : Int) - 2 ≤ ((s.size - 1 : Nat) : Int) := by omega
    cases hr : readAll ((s.extract 1 s.size).extract 0 (s.size - 1 - 2)).data.toList with
    | bad n =>
      have PB := Lib.hid (show ∀ W, Calls Tryz.prog 98 #[.string ((s.extract 1 s.size).extract 0 (s.size - 1 - 2))] W fun e w' => ∃ ob, e = .returned (.tuple #[.int .u64 0, .iface 69 (.pointer (some ⟨W.heap.size, 0, none⟩))]) ∧ W.alloc ob = w' from fun W => by
        have := parse_bad _ n hr W
        rw [← HXX.out] at this
        exact this.mono fun e w' ⟨ob, h1, h2⟩ => ⟨ob, h1, h2.symm⟩)
      have FIN := Lib.hid (fun ob t v => show ROut R b w (.returned (.iface t v)) (World.alloc (w.setCell ⟨b, 6, none⟩ (.int .i64 1)) ob) from by
        rw [HR.out, markP, MC]; simp only [numP, hr]
        exact rout_err (OW.out.alloc _) _ _)
      clear hr MC HXX
      go_enter Tryz.func78, Tryz.ntmps78
      go_wp2_with fail
      go_at_call 97
      refine (S2.out _).mono ?_
      rintro e w1 ⟨rfl, rfl⟩
      go_wp2_with fail
      go_at_call 97
      refine (S1.out _).mono ?_
      rintro e w1 ⟨rfl, rfl⟩
      go_wp2_with fail
      go_at_call 98
      refine (PB.out _).mono ?_
      rintro e w1 ⟨ob, rfl, rfl⟩
      go_wp2_with fail
      go_ret
      exact FIN.out _ _ _
    | ok n =>
      have PO := Lib.hid (show ∀ W, Calls Tryz.prog 98 #[.string ((s.extract 1 s.size).extract 0 (s.size - 1 - 2))] W fun e w' => e = .returned (.tuple #[.int .u64 n, .nilIface]) ∧ W = w' from fun W => by
        have := parse_ok _ n hr W
        rwa [← HXX.out] at this)
      by_cases n1 : (n : Int) < 1
      · have FIN := Lib.hid (fun t v => show ROut R b w (.returned (.iface t v)) (w.setCell ⟨b, 6, none⟩ (.int .i64 1)) from by
          rw [HR.out, markP, MC]; simp only [numP, hr]
          rw [if_neg (by omega)]
          exact rout_err OW.out _ _)
        clear hr MC HXX
        go_enter Tryz.func78, Tryz.ntmps78
        go_wp2_with fail
        go_at_call 97
        refine (S2.out _).mono ?_
        rintro e w1 ⟨rfl, rfl⟩
        go_wp2_with fail
        go_at_call 97
        refine (S1.out _).mono ?_
        rintro e w1 ⟨rfl, rfl⟩
        go_wp2_with fail
        go_at_call 98
        refine (PO.out _).mono ?_
        rintro e w1 ⟨rfl, rfl⟩
        go_wp2_with fail
        go_ret
        exact FIN.out _ _
      · by_cases n2 : (99 : Int) < (n : Int)
        · have FIN := Lib.hid (fun t v => show ROut R b w (.returned (.iface t v)) (w.setCell ⟨b, 6, none⟩ (.int .i64 1)) from by
            rw [HR.out, markP, MC]; simp only [numP, hr]
            rw [if_neg (by omega)]
            exact rout_err OW.out _ _)
          clear hr MC HXX
          go_enter Tryz.func78, Tryz.ntmps78
          go_wp2_with fail
          go_at_call 97
          refine (S2.out _).mono ?_
          rintro e w1 ⟨rfl, rfl⟩
          go_wp2_with fail
          go_at_call 97
          refine (S1.out _).mono ?_
          rintro e w1 ⟨rfl, rfl⟩
          go_wp2_with fail
          go_at_call 98
          refine (PO.out _).mono ?_
          rintro e w1 ⟨rfl, rfl⟩
          go_wp2_with fail
          go_ret
          exact FIN.out _ _
        · have FIN := Lib.hid (show ROut R b w (.returned .nilIface) (World.setCell (w.setCell ⟨b, 6, none⟩ (.int .i64 1)) ⟨b, 5, none⟩ (.int .i64 (n : Int))) from by
            rw [HR.out, markP, MC]; simp only [numP, hr]
            rw [if_pos (by omega)]
            exact ⟨rfl, RW.out.set 5 (by simp [Inst.cs]) (.int .i64 (n : Int)), OW.out.setCell (.inl (by simp)) _⟩)
          have c5 := RW.out.cell 5 (by simp [Inst.cs])
          have f5 := RW.out.free 5 (by simp [Inst.cs])
          simp only [Inst.cs, List.getElem_cons_succ, List.getElem_cons_zero] at c5
          clear hr MC HXX
          go_enter Tryz.func78, Tryz.ntmps78
          go_wp2_with fail
          go_at_call 97
          refine (S2.out _).mono ?_
          rintro e w1 ⟨rfl, rfl⟩
          go_wp2_with fail
          go_at_call 97
          refine (S1.out _).mono ?_
          rintro e w1 ⟨rfl, rfl⟩
          go_wp2_with fail
          go_at_call 98
          refine (PO.out _).mono ?_
          rintro e w1 ⟨rfl, rfl⟩
          go_wp2_with fail
          go_ret
          exact FIN.out
   | false =>
    have MC : markCut s.data.toList = ((s.extract 1 s.size).data.toList, 0) := by rw [E1.out]; rw [markCut, if_neg (by have := HQ2.out; unfold Lib.hasSuffix at this; rw [← this]; simp), if_neg (by have := HQ1.out; unfold Lib.hasSuffix at this; rw [← this]; simp)]
    have HXX := Lib.hid (show (s.extract 1 s.size) = bytesA (s.extract 1 s.size).data.toList from (bytesA_eq _).symm)
    obtain ⟨RW, OW⟩ : Row w b (Inst.cs ⟨op, a, bb, c, v, m, 0⟩) ∧ Only [b] w w := ⟨H.out, Only.refl _ _⟩
    have RW := Lib.hid RW
    have OW := Lib.hid OW
    cases hr : readAll (s.extract 1 s.size).data.toList with
    | bad n =>
      have PB := Lib.hid (show ∀ W, Calls Tryz.prog 98 #[.string (s.extract 1 s.size)] W fun e w' => ∃ ob, e = .returned (.tuple #[.int .u64 0, .iface 69 (.pointer (some ⟨W.heap.size, 0, none⟩))]) ∧ W.alloc ob = w' from fun W => by
        have := parse_bad _ n hr W
        rw [← HXX.out] at this
        exact this.mono fun e w' ⟨ob, h1, h2⟩ => ⟨ob, h1, h2.symm⟩)
      have FIN := Lib.hid (fun ob t v => show ROut R b w (.returned (.iface t v)) (World.alloc w ob) from by
        rw [HR.out, markP, MC]; simp only [numP, hr]
        exact rout_err (OW.out.alloc _) _ _)
      clear hr MC HXX
      go_enter Tryz.func78, Tryz.ntmps78
      go_wp2_with fail
      go_at_call 97
      refine (S2.out _).mono ?_
      rintro e w1 ⟨rfl, rfl⟩
      go_wp2_with fail
      go_at_call 97
      refine (S1.out _).mono ?_
      rintro e w1 ⟨rfl, rfl⟩
      go_wp2_with fail
      go_at_call 98
      refine (PB.out _).mono ?_
      rintro e w1 ⟨ob, rfl, rfl⟩
      go_wp2_with fail
      go_ret
      exact FIN.out _ _ _
    | ok n =>
      have PO := Lib.hid (show ∀ W, Calls Tryz.prog 98 #[.string (s.extract 1 s.size)] W fun e w' => e = .returned (.tuple #[.int .u64 n, .nilIface]) ∧ W = w' from fun W => by
        have := parse_ok _ n hr W
        rwa [← HXX.out] at this)
      by_cases n1 : (n : Int) < 1
      · have FIN := Lib.hid (fun t v => show ROut R b w (.returned (.iface t v)) w from by
          rw [HR.out, markP, MC]; simp only [numP, hr]
          rw [if_neg (by omega)]
          exact rout_err OW.out _ _)
        clear hr MC HXX
        go_enter Tryz.func78, Tryz.ntmps78
        go_wp2_with fail
        go_at_call 97
        refine (S2.out _).mono ?_
        rintro e w1 ⟨rfl, rfl⟩
        go_wp2_with fail
        go_at_call 97
        refine (S1.out _).mono ?_
        rintro e w1 ⟨rfl, rfl⟩
        go_wp2_with fail
        go_at_call 98
        refine (PO.out _).mono ?_
        rintro e w1 ⟨rfl, rfl⟩
        go_wp2_with fail
        go_ret
        exact FIN.out _ _
      · by_cases n2 : (99 : Int) < (n : Int)
        · have FIN := Lib.hid (fun t v => show ROut R b w (.returned (.iface t v)) w from by
            rw [HR.out, markP, MC]; simp only [numP, hr]
            rw [if_neg (by omega)]
            exact rout_err OW.out _ _)
          clear hr MC HXX
          go_enter Tryz.func78, Tryz.ntmps78
          go_wp2_with fail
          go_at_call 97
          refine (S2.out _).mono ?_
          rintro e w1 ⟨rfl, rfl⟩
          go_wp2_with fail
          go_at_call 97
          refine (S1.out _).mono ?_
          rintro e w1 ⟨rfl, rfl⟩
          go_wp2_with fail
          go_at_call 98
          refine (PO.out _).mono ?_
          rintro e w1 ⟨rfl, rfl⟩
          go_wp2_with fail
          go_ret
          exact FIN.out _ _
        · have FIN := Lib.hid (show ROut R b w (.returned .nilIface) (World.setCell w ⟨b, 5, none⟩ (.int .i64 (n : Int))) from by
            rw [HR.out, markP, MC]; simp only [numP, hr]
            rw [if_pos (by omega)]
            exact ⟨rfl, RW.out.set 5 (by simp [Inst.cs]) (.int .i64 (n : Int)), OW.out.setCell (.inl (by simp)) _⟩)
          have c5 := RW.out.cell 5 (by simp [Inst.cs])
          have f5 := RW.out.free 5 (by simp [Inst.cs])
          simp only [Inst.cs, List.getElem_cons_succ, List.getElem_cons_zero] at c5
          clear hr MC HXX
          go_enter Tryz.func78, Tryz.ntmps78
          go_wp2_with fail
          go_at_call 97
          refine (S2.out _).mono ?_
          rintro e w1 ⟨rfl, rfl⟩
          go_wp2_with fail
          go_at_call 97
          refine (S1.out _).mono ?_
          rintro e w1 ⟨rfl, rfl⟩
          go_wp2_with fail
          go_at_call 98
          refine (PO.out _).mono ?_
          rintro e w1 ⟨rfl, rfl⟩
          go_wp2_with fail
          go_ret
          exact FIN.out
end Go.Proofs.YtneajiglkiffjaaGreatDoor
