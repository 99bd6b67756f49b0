/- Contract of package asm's read (layer 5): one line. The conditions: the reader's things lie there; the table of names holds the names; the line has at most 65536 bytes; fewer than 999990 of each thing are there by now. -/
import Derived.Test.YtneajiglkiffjaaGreatDoorAsmIns
import Derived.Test.YtneajiglkiffjaaGreatDoorAsmLabel
import Derived.Shelf.GgClosure.Gives
namespace Go.Proofs.YtneajiglkiffjaaGreatDoor
open Go.RowKit
set_option linter.unusedVariables false

theorem fieldsOn_len : ∀ (l w : List UInt8), (∀ x ∈ fieldsOn l w, x.length ≤ l.length + w.length) ∧ (fieldsOn l w).length ≤ l.length + 1
  | [], w => by
    rw [fieldsOn]
    by_cases h : w = []
    · rw [if_pos h]; simp
    · rw [if_neg h]; simp
  | c :: t, w => by
    rw [fieldsOn]
    by_cases hc : c = 32
    · rw [if_pos hc]
      obtain ⟨h1, h2⟩ := fieldsOn_len t []
      by_cases h : w = []
      · rw [if_pos h]
        exact ⟨fun x hx => by have := h1 x hx; simp at this ⊢; omega, by simp; omega⟩
      · rw [if_neg h]
        refine ⟨fun x hx => ?_, by simp; omega⟩
        rcases List.mem_cons.1 hx with e | g
        · rw [e]; simp
        · have := h1 x g; simp at this ⊢; omega
    · rw [if_neg hc]
      obtain ⟨h1, h2⟩ := fieldsOn_len t (w ++ [c])
      exact ⟨fun x hx => by have := h1 x hx; simp at this ⊢; omega, by simp; omega⟩
theorem fieldsB_len (l : List UInt8) : (∀ x ∈ fieldsB l, x.length ≤ l.length) ∧ (fieldsB l).length ≤ l.length + 1 := by
  have := fieldsOn_len l []
  simpa [fieldsB] using this
theorem cutAt_len (c : UInt8) : ∀ l : List UInt8, (cutAt c l).1.length ≤ l.length
  | [] => Nat.le_refl _
  | b :: t => by
    rw [cutAt]
    have := cutAt_len c t
    by_cases h : b = c
    · rw [if_pos h]; simp
    · rw [if_neg h]; simpa using this
set_option maxHeartbeats 400000 in
theorem blank_gives (w : World) : PredAt Tryz.prog 53 #[] encR blankR w := fun W r _ => by
  unfold FnGives
  by_cases h : r = 32
  · subst h
    rw [show blankR 32 = true from rfl]
    go_enter Tryz.func53, Tryz.ntmps53
    go_wp2
    go_ret
    exact ⟨rfl, 0, rfl⟩
  · rw [show blankR r = false by simpa [blankR] using h]
    have e1 : ((r : Int) == 32) = false := beq_eq_false_iff_ne.2 (by omega)
    clear h
    go_enter Tryz.func53, Tryz.ntmps53
    go_wp2
    go_ret
    exact ⟨rfl, 0, rfl⟩
/-- The words of a line, in a block of their own. -/
theorem fields_any (l : List UInt8) (hl : l.length ≤ 65536) (w : World) : Calls Tryz.prog 52 #[.string (bytesA l), .func (.func 53) #[] #[]] w fun e w' =>
    ∃ A, e = .returned (.slice (some ⟨A, 0, none⟩) (fieldsB l).length (fieldsB l).length) ∧ w.heap.size ≤ A ∧ StrsIn w' A (fieldsB l) ∧ Below w.heap.size w w' := by
  have eg : ∀ args w, (callFunc 53 args).run Tryz.prog w = .ok (.enter 53 args) w := enters_of Tryz.func53 (by kernel_rfl) rfl
  refine (Tryz.strings_FieldsFunc _ _ eg blankR (bytesA l) w (by rw [bytesA_size]; omega) (blank_gives w)).mono ?_
  rintro e w' ⟨A, he, hA, ho, hb⟩
  have hw := goFields_words (bytesA l)
  rw [show (bytesA l).data.toList = l by simp] at hw
  have hlen : (Lib.goFieldsP blankR (bytesA l)).length = (fieldsB l).length := by rw [← hw, List.length_map]
  rw [hlen] at he
  refine ⟨A, he, hA, ?_, hb⟩
  have hlt : A < w'.heap.size := (ho.lt A rfl).2
  refine ⟨hlt, fun i hi => ?_⟩
  have hc := ho.cells (g := A) rfl i (.string (bytesA ((fieldsB l).getD i []))) (by
    rw [List.getElem?_map, List.getElem?_eq_getElem (by rw [hlen]; exact hi)]
    simp only [Option.map_some]
    rw [List.getD_eq_getElem?_getD, List.getElem?_eq_getElem hi]
    simp only [Option.getD_some]
    congr 2
    have e2 : (fieldsB l)[i] = ((Lib.goFieldsP blankR (bytesA l)).map (·.data.toList))[i]'(by rw [List.length_map, hlen]; exact hi) := by simp only [hw]
    rw [e2, List.getElem_map, bytesA_eq])
  rw [show (⟨A, 0, none⟩ : Addr).add i = ⟨A, i, none⟩ by unfold Addr.add; split <;> simp_all] at hc
  exact hc
/-- What read leaves. -/
def ReadOut (r : AsmR AsmS) (rb mb n : Nat) (vc vl vu : Value) (w : World) (e : Ending) (w' : World) : Prop := match r with
  | .ok s' => e = .returned .nilIface ∧ ∃ vc' vl' vu', Rd w' rb mb n s' vc' vl' vu' ∧ Only (foot rb mb vc vl vu) w w' ∧ FootOk w (foot rb mb vc vl vu) (foot rb mb vc' vl' vu')
  | .text => e = .returned (.iface 49 (.int .i64 6)) ∧ Only (foot rb mb vc vl vu) w w'
  | .err => (∃ t v, e = .returned (.iface t v)) ∧ Only (foot rb mb vc vl vu) w w'
/-- The conditions. -/
structure LineIn (t : List UInt8) (rb mb n : Nat) (s : AsmS) (vc vl vu : Value) (w : World) : Prop where
  hl : t.length ≤ 65536
  hR : Rd w rb mb n s vc vl vu
  hC : s.code.length < 999990
  hL : s.labels.length < 999990
  hU : s.uses.length < 999990
  hN : NamesAt w
  hg : 0 < w.heap.size
theorem foot_below {w w1 : World} {F : List Nat} (hb : Below w.heap.size w w1) : Only F w w1 := Only.of_below hb
set_option maxHeartbeats 4000000 in
set_option maxRecDepth 100000 in
theorem read_any (t : List UInt8) (rb mb n : Nat) (s : AsmS) (vc vl vu : Value) (w : World) (h : LineIn t rb mb n s vc vl vu w) :
    Calls Tryz.prog 29 #[.pointer (some ⟨rb, 0, none⟩), .string (bytesA t)] w (ReadOut (lineP t n s) rb mb n vc vl vu w) := by
  obtain ⟨R, hR⟩ : ∃ R, R = lineP t n s := ⟨_, rfl⟩
  rw [← hR]
  obtain ⟨l, hlc⟩ : ∃ l, l = (cutAt 59 t).1 := ⟨_, rfl⟩
  have HI := Lib.hid h
  have hl : l.length ≤ 65536 := by rw [hlc]; exact Nat.le_trans (cutAt_len 59 t) h.hl
  have CU := Lib.hid (fun W => cut_any (bytesA t) 59 W (by rw [bytesA_size]; have := h.hl; omega))
  rw [show (bytesA t).data.toList = t by simp, ← hlc] at CU
  obtain ⟨ws, hws⟩ : ∃ ws, ws = fieldsB l := ⟨_, rfl⟩
  have hlen := (fieldsB_len l).2
  have hle := (fieldsB_len l).1
  rw [← hws] at hlen hle
  have FF := Lib.hid (fun W => fields_any l hl W)
  rw [← hws] at FF
  have E := Lib.hid (show R = if ws = [] then .ok s else if isLabel ws then (if s.labels.any (·.1 == (ws.getD 0 []).dropLast) || !nameB (ws.getD 0 []).dropLast then .text else .ok { s with labels := s.labels ++ [((ws.getD 0 []).dropLast, s.code.length, n)] }) else match insP ws with
    | none => .err
    | some (x, us) => .ok { s with code := s.code ++ [x], uses := s.uses ++ us.map fun u => (u, s.code.length, n) } from by
    rw [hR]
    unfold lineP
    simp only []
    rw [← hlc, ← hws]
    cases insP ws <;> rfl)
  have HWL := Lib.hid (show ∀ x ∈ ws, x.length ≤ 65536 from fun x hx => Nat.le_trans (hle x hx) hl)
  obtain ⟨N, hN⟩ : ∃ N, N = ws.length := ⟨_, rfl⟩
  rw [← hN] at hlen FF
  have HN := Lib.hid hN
  obtain ⟨tb, htb⟩ : ∃ tb, tb = bytesA t := ⟨_, rfl⟩
  rw [← htb] at CU ⊢
  obtain ⟨lb, hlb⟩ : ∃ lb, lb = bytesA l := ⟨_, rfl⟩
  rw [← hlb] at CU FF
  obtain ⟨rest, hrest⟩ : ∃ rest, rest = (cutAt 59 t).2 := ⟨_, rfl⟩
  rw [← hrest] at CU
  have hN65 : N ≤ 65537 := by omega
  clear h hR hlc hws hle hlen hN htb hlb hrest
  go_enter Tryz.func29, Tryz.ntmps29
  go_wp2_with fail
  go_at_call 51
  refine (CU.out _).mono ?_
  rintro e w1 ⟨rfl, nd, rfl⟩
  go_wp2_with fail
  go_at_call 52
  refine (FF.out _).mono ?_
  rintro e w1 ⟨A, rfl, hA, hS, hb⟩
  have hbw : Below w.heap.size w w1 := ⟨hb.os, hb.tape, hb.output, hb.size, hb.block⟩
  have HB := Lib.hid hbw
  have HS := Lib.hid hS
  have HA := Lib.hid (show w.heap.size ≤ A from hA)
  have R1 := Lib.hid (HI.out.hR.only (F := []) (Only.of_below HB.out) (by simp))
  clear hbw hb hS hA
  by_cases h0 : N = 0
  · have FIN := Lib.hid (show ReadOut R rb mb n vc vl vu w (.returned .nilIface) w1 from by
      rw [E.out, if_pos (List.length_eq_zero_iff.1 (by rw [← HN.out]; exact h0))]
      exact ⟨rfl, vc, vl, vu, R1.out, Only.of_below HB.out, FootOk.refl _ _⟩)
    subst h0
    go_wp2_with fail
    go_ret
    exact FIN.out
  · have hne : ws ≠ [] := fun e => h0 (by rw [HN.out, e]; rfl)
    have n0 : ((N : Int) == 0) = false := beq_eq_false_iff_ne.2 (by omega)
    have i0 : (0 : Int) < (N : Int) := by omega
    have w0 := HS.out.cell 0 (by rw [← HN.out]; omega)
    have hw0 : (ws.getD 0 []).length ≤ 65536 := by
      rw [List.getD_eq_getElem?_getD, List.getElem?_eq_getElem (by rw [← HN.out]; omega)]
      exact HWL.out _ (List.getElem_mem _)
    have CS := Lib.hid (fun W => cutSuf (ws.getD 0 []) 58 W (by omega))
    obtain ⟨p, hp⟩ : ∃ p, p = [58].isSuffixOf (ws.getD 0 []) := ⟨_, rfl⟩
    rw [← hp] at CS
    have HP := Lib.hid hp
    have HNE := Lib.hid hne
    obtain ⟨nm, hnm⟩ : ∃ nm, nm = (if p then (ws.getD 0 []).dropLast else ws.getD 0 []) := ⟨_, rfl⟩
    rw [← hnm] at CS
    have HNM := Lib.hid hnm
    have hnl : nm.length ≤ 65536 := by
      rw [hnm]; split
      · exact Nat.le_trans (dropLast_len _) hw0
      · exact hw0
    have HL0 := Lib.hid hw0
    obtain ⟨t0, ht0⟩ : ∃ t0, t0 = bytesA (ws.getD 0 []) := ⟨_, rfl⟩
    rw [← ht0] at w0 CS
    clear hp hnm ht0 hne hw0
    have INS := Lib.hid (show Calls Tryz.prog 56 #[.pointer (some ⟨rb, 0, none⟩), .slice (some ⟨A, 0, none⟩) N N] w1 (InsOut (insP ws) rb mb n s vc vl vu w1) from by
      rw [HN.out]
      refine readIns_any ws A rb mb n s vc vl vu w1 ⟨by rw [← HN.out]; omega, by rw [← HN.out]; exact hN65, HWL.out, HS.out, fun hm => ?_, R1.out, HI.out.hC, HI.out.hU, HI.out.hN.below HB.out HI.out.hg, Nat.lt_of_lt_of_le HI.out.hg HB.out.size⟩
      have := HI.out.hR.lt A hm
      have := HA.out
      omega)
    have FINI := Lib.hid (fun (hlab : isLabel ws = false) e w' (g : InsOut (insP ws) rb mb n s vc vl vu w1 e w') => show ReadOut R rb mb n vc vl vu w e w' from by
      rw [E.out, if_neg HNE.out, if_neg (by rw [hlab]; simp)]
      cases hi : insP ws with
      | none => rw [hi] at g; exact ⟨g.1, (Only.of_below HB.out).trans g.2⟩
      | some q =>
        obtain ⟨x, us⟩ := q
        rw [hi] at g
        obtain ⟨g1, vc', vu', g2, g3, g4⟩ := g
        exact ⟨g1, vc', vl, vu', g2, (Only.of_below HB.out).trans g3, fun k hk => (g4 k hk).imp id (Nat.le_trans HB.out.size)⟩)
    have INSV := Lib.hid (show ∀ e w', InsOut (insP ws) rb mb n s vc vl vu w1 e w' → ∃ v, e = .returned v from fun e w' g => by
      unfold InsOut at g
      cases hi : insP ws with
      | none => rw [hi] at g; obtain ⟨⟨t, v, g⟩, _⟩ := g; exact ⟨_, g⟩
      | some q => rw [hi] at g; exact ⟨_, g.1⟩)
    cases p with
    | false =>
      have FINJ := Lib.hid (FINI.out (by unfold isLabel; rw [← HP.out]; simp))
      go_wp2_with fail
      go_at_call 54
      refine (CS.out _).mono ?_
      rintro e w2 ⟨rfl, rfl⟩
      go_wp2_with fail
      go_at_call 56
      refine INS.out.mono ?_
      intro e w' hio
      obtain ⟨v, rfl⟩ := INSV.out _ _ hio
      have HO := Lib.hid hio
      clear hio
      go_wp2_with fail
      go_ret
      exact FINJ.out _ _ HO.out
    | true =>
      by_cases h1 : N = 1
      · have LB := Lib.hid (readLabel_any nm hnl rb mb n s vc vl vu w1 R1.out (by have := HI.out.hL; omega))
        have FIN := Lib.hid (fun e w' (g : LabOut (!(s.labels.any (·.1 == nm)) && nameB nm) nm rb mb n s vc vl vu w1 e w') => show ReadOut R rb mb n vc vl vu w e w' from by
          have e1 : nm = (ws.getD 0 []).dropLast := by rw [HNM.out]; rfl
          rw [E.out, if_neg HNE.out, if_pos (by unfold isLabel; rw [← HP.out, ← HN.out, h1]; simp), ← e1]
          unfold LabOut at g
          cases hq : s.labels.any (·.1 == nm) with
          | true =>
            rw [hq] at g
            simp only [Bool.not_true, Bool.false_and, Bool.false_eq_true, if_false] at g
            simp only [Bool.true_or, if_true]
            exact ⟨g.1, ((Only.of_below HB.out).trans (g.2.mono (by simp)))⟩
          | false =>
            cases hq2 : nameB nm with
            | false =>
              rw [hq, hq2] at g
              simp only [Bool.and_false, Bool.false_eq_true, if_false] at g
              simp only [Bool.not_false, Bool.or_true, if_true]
              exact ⟨g.1, ((Only.of_below HB.out).trans (g.2.mono (by simp)))⟩
            | true =>
              rw [hq, hq2] at g
              simp only [Bool.not_false, Bool.and_true, if_true] at g
              simp only [Bool.not_true, Bool.or_false, Bool.false_eq_true, if_false]
              obtain ⟨g1, vl', g2, g3, g4⟩ := g
              exact ⟨g1, vc, vl', vu, g2, (Only.of_below HB.out).trans g3, fun k hk => (g4 k hk).imp id (Nat.le_trans HB.out.size)⟩)
        have LBV := Lib.hid (show ∀ q e w', LabOut q nm rb mb n s vc vl vu w1 e w' → ∃ v, e = .returned v from fun q e w' g => by
          unfold LabOut at g
          cases q with
          | true => rw [if_pos rfl] at g; exact ⟨_, g.1⟩
          | false => rw [if_neg (by simp)] at g; exact ⟨_, g.1⟩)
        obtain ⟨q, hq⟩ : ∃ q, q = (!(s.labels.any (·.1 == nm)) && nameB nm) := ⟨_, rfl⟩
        rw [← hq] at LB FIN
        obtain ⟨nb, hnb⟩ : ∃ nb, nb = bytesA nm := ⟨_, rfl⟩
        rw [← hnb] at LB CS
        clear hq hnb n0
        subst h1
        go_wp2_with fail
        go_at_call 54
        refine (CS.out _).mono ?_
        rintro e w2 ⟨rfl, rfl⟩
        go_wp2_with fail
        go_at_call 55
        refine LB.out.mono ?_
        intro e w' hio
        obtain ⟨v, rfl⟩ := LBV.out _ _ _ hio
        have HO := Lib.hid hio
        clear hio
        go_wp2_with fail
        go_ret
        exact FIN.out _ _ HO.out
      · have FINJ := Lib.hid (FINI.out (by unfold isLabel; rw [← HN.out, decide_eq_false h1]; rfl))
        have n1 : ((N : Int) == 1) = false := beq_eq_false_iff_ne.2 (by omega)
        go_wp2_with fail
        go_at_call 54
        refine (CS.out _).mono ?_
        rintro e w2 ⟨rfl, rfl⟩
        go_wp2_with fail
        go_at_call 56
        refine INS.out.mono ?_
        intro e w' hio
        obtain ⟨v, rfl⟩ := INSV.out _ _ hio
        have HO := Lib.hid hio
        clear hio
        go_wp2_with fail
        go_ret
        exact FINJ.out _ _ HO.out
end Go.Proofs.YtneajiglkiffjaaGreatDoor
