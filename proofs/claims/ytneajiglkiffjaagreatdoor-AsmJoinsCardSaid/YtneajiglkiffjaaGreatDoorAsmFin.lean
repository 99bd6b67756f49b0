/- Contract of package asm's finish (layer 5): the labels' places are laid into the instructions, or an error. The conditions: the reader's things lie there; each name that is wanted has an instruction; names have at most 65536 bytes; fewer than 999990 of each thing. -/
import Derived.Test.YtneajiglkiffjaaGreatDoorAsmFin0
import Derived.Test.YtneajiglkiffjaaGreatDoorAsmStep
import Derived.Deep.CutRange
import Derived.Deep.DeepCutAuto
import Derived.Deep.CutBlock
import Derived.Deep.Light
import Derived.Deep.RegionLaw
namespace Go.Proofs.YtneajiglkiffjaaGreatDoor
open Go.RowKit
set_option linter.unusedVariables false

/-- What finish leaves. -/
def FinOut (r : PRes) (rb mb n : Nat) (s : AsmS) (vc vl vu : Value) (w : World) (e : Ending) (w' : World) : Prop := match r with
  | .ok c ls => e = .returned .nilIface ∧ ls = s.labels ∧ Rd w' rb mb n { s with code := c } vc vl vu ∧ Only (foot rb mb vc vl vu) w w'
  | _ => (∃ t v, e = .returned (.iface t v)) ∧ Only (foot rb mb vc vl vu) w w'
/-- The conditions. -/
structure FinIn (rb mb n : Nat) (s : AsmS) (vc vl vu : Value) (w : World) : Prop where
  hR : Rd w rb mb n s vc vl vu
  hC : s.code.length < 999990
  hL : s.labels.length < 999990
  hU : s.uses.length < 999990
  ui : ∀ q ∈ s.uses, q.2.1 < s.code.length ∧ q.1.length ≤ 65536 ∧ q.2.2 < 1000000
  li : ∀ q ∈ s.labels, q.1.length ≤ 65536 ∧ q.2.1 ≤ s.code.length ∧ q.2.2 < 1000000
theorem field_place (a l : Int) (W : World) : (Instr.field 121 (.agg #[.int .i64 a, .int .i64 l]) 1).run Tryz.prog W = .ok (.int .i64 l) W := by kernel_rfl
structure Fl1 (w wr : World) (rb mb n : Nat) (s : AsmS) (vc vl vu : Value) (i : Nat) (c : List Inst) : Prop where
  e : usesP s.labels s.uses s.code = usesP s.labels (s.uses.drop i) c
  cl : c.length = s.code.length
  R : Rd wr rb mb n { s with code := c } vc vl vu
  o : Only (foot rb mb vc vl vu) w wr
structure PlAt (W0 Wn : World) (pb : Nat) (a l : Nat) : Prop where
  b : Below W0.heap.size W0 Wn
  p : W0.heap.size ≤ pb
  r : Row Wn pb [.int .i64 (a : Int), .int .i64 (l : Int)]
theorem pl1 (W0 : World) (a l : Nat) : PlAt W0 (W0.alloc (.cells #[.int .i64 (a : Int), .int .i64 (l : Int)] 121)).drew W0.heap.size a l :=
  ⟨((Below.refl _ _).alloc (Nat.le_refl _) _).drew, Nat.le_refl _, (Row.new W0 [.int .i64 (a : Int), .int .i64 (l : Int)] 121).drew⟩
theorem place_le {ls : Labs} {u : List UInt8} {p : Nat × Nat} (h : placeOf ls u = some p) : ∃ q ∈ ls, q.1 = u ∧ q.2 = p := by
  unfold placeOf at h
  obtain ⟨q, hq, e⟩ := Option.map_eq_some_iff.1 h
  have h1 := List.mem_of_find?_eq_some hq
  have h2 := List.find?_some hq
  exact ⟨q, by simpa using h1, by simpa using h2, e⟩
theorem Fl1.step {w wr : World} {rb mb n : Nat} {s : AsmS} {vl vu : Value} {g cap i : Nat} {c : List Inst} (h : Fl1 w wr rb mb n s (.slice (some ⟨g, 0, none⟩) s.code.length cap) vl vu i c) (q : List UInt8 × Nat × Nat) (hq : s.uses[i]? = some q) {p : Nat × Nat} (hp : placeOf s.labels q.1 = some p) (hi : q.2.1 < s.code.length)
    {Wn : World} (hb : Below wr.heap.size wr Wn) : Fl1 w (Wn.setCell ⟨g, q.2.1 * 7 + 4, none⟩ (.int .u64 (p.1 : Int))) rb mb n s (.slice (some ⟨g, 0, none⟩) s.code.length cap) vl vu (i + 1) (c.set q.2.1 { c.getD q.2.1 inst0 with v := p.1 }) := by
  have hR := h.R.only (F := []) (Only.of_below hb) (by simp)
  have hcl := h.cl
  have hlt := (List.getElem?_eq_some_iff.1 hq).1
  have e1 : s.uses.drop i = q :: s.uses.drop (i + 1) := by
    rw [List.drop_eq_getElem_cons hlt, (List.getElem?_eq_some_iff.1 hq).2]
  have hR' : Rd Wn rb mb n { s with code := c } (.slice (some ⟨g, 0, none⟩) ({ s with code := c } : AsmS).code.length cap) vl vu := by rw [show ({ s with code := c } : AsmS).code.length = s.code.length from hcl]; exact hR
  obtain ⟨r1, r2⟩ := hR'.setV q.2.1 (by show q.2.1 < c.length; omega) (p.1 : Int)
  rw [show ({ s with code := c } : AsmS).code.length = s.code.length from hcl] at r1 r2
  obtain ⟨qa, qi, qn⟩ := q
  exact ⟨by rw [h.e, e1, usesP, hp], by rw [List.length_set]; exact hcl, r1, (h.o.trans (Only.of_below hb)).trans r2⟩
set_option maxHeartbeats 8000000 in
set_option maxRecDepth 100000 in
theorem finish_any (rb mb n : Nat) (s : AsmS) (vc vl vu : Value) (w : World) (h : FinIn rb mb n s vc vl vu w) :
    Calls Tryz.prog 30 #[.pointer (some ⟨rb, 0, none⟩)] w (FinOut (finishP s) rb mb n s vc vl vu w) := by
  obtain ⟨R, hR⟩ : ∃ R, R = finishP s := ⟨_, rfl⟩
  rw [← hR]
  have HR := Lib.hid hR
  clear hR
  obtain ⟨Ac, capc, rfl⟩ := own_form h.hR.c
  obtain ⟨Al, capl, rfl⟩ := own_form h.hR.l
  obtain ⟨Au, capu, rfl⟩ := own_form h.hR.u
  obtain ⟨nC, hnC⟩ : ∃ k, k = s.code.length := ⟨_, rfl⟩
  obtain ⟨nL, hnL⟩ : ∃ k, k = s.labels.length := ⟨_, rfl⟩
  obtain ⟨nU, hnU⟩ : ∃ k, k = s.uses.length := ⟨_, rfl⟩
  have hC := h.hC
  have hL := h.hL
  have hU := h.hU
  have H0 := Lib.hid (show Fl1 w w rb mb n s (.slice Ac s.code.length capc) (.slice Al s.labels.length capl) (.slice Au s.uses.length capu) 0 s.code from ⟨rfl, rfl, h.hR, Only.refl _ _⟩)
  rw [← hnC] at hC h H0 ⊢
  rw [← hnL] at hL h H0 ⊢
  rw [← hnU] at hU h H0 ⊢
  have HN := Lib.hid (And.intro hnC (And.intro hnL hnU))
  have HI := Lib.hid h
  obtain ⟨c0, c1, c2, c3, c4⟩ := h.hR.cells
  clear h hnC hnL hnU
  have ERR := Lib.hid (fun t v w' (ho : Only (foot rb mb (.slice Ac nC capc) (.slice Al nL capl) (.slice Au nU capu)) w w') => show FinOut .err rb mb n s (.slice Ac nC capc) (.slice Al nL capl) (.slice Au nU capu) w (.returned (.iface t v)) w' from ⟨⟨_, _, rfl⟩, ho⟩)
  have FA := Lib.hid (fun k t x W => afault_any k t x W)
  go_enter Tryz.func30, Tryz.ntmps30
  go_wp2_with fail
  clear c0 c1 c2 c3 c4
  go_loopw [14] (fun vi wr => ∃ i c, i ≤ nU ∧ vi = .int .i64 i ∧ Hid (Fl1 w wr rb mb n s (.slice Ac nC capc) (.slice Al nL capl) (.slice Au nU capu) i c)) (fun vi _ => nU - (intOf vi).toNat)
  case atStart => exact ⟨0, s.code, by omega, rfl, H0⟩
  case round =>
    obtain ⟨i, c, hi, rfl, LS⟩ := hrel
    by_cases hlt : i < nU
    · obtain ⟨q, hq⟩ : ∃ q, s.uses[i]? = some q := ⟨_, List.getElem?_eq_getElem (by rw [← HN.out.2.2]; exact hlt)⟩
      obtain ⟨hq1, hq2, hq3⟩ := HI.out.ui q (List.mem_of_getElem? hq)
      obtain ⟨gu, hAu⟩ : ∃ g, Au = some ⟨g, 0, none⟩ := by
        obtain ⟨g, cap, e⟩ := nil_form LS.out.R.u (show 0 < s.uses.length by rw [← HN.out.2.2]; omega)
        exact ⟨g, by injection e⟩
      subst hAu
      have RU := Lib.hid (show wr.ownsRow 0 119 3 (.slice (some ⟨gu, 0, none⟩) nU capu) nU (flatUse s.uses) from by have := LS.out.R.u; rwa [← HN.out.2.2] at this)
      obtain ⟨f0, f1, f2⟩ := flatUse_get s.uses i q hq
      have u0 := own_cell RU.out _ _ f0
      have u1 := own_cell RU.out _ _ f1
      have u2 := own_cell RU.out _ _ f2
      have HQ := Lib.hid hq
      have hqi : (q.2.1 : Int) < (nC : Int) := by rw [← HN.out.1] at hq1; omega
      obtain ⟨qi, hqi2⟩ : ∃ k, k = q.2.1 := ⟨_, rfl⟩
      obtain ⟨ql, hql⟩ : ∃ k, k = q.2.2 := ⟨_, rfl⟩
      obtain ⟨qs, hqs⟩ : ∃ k, k = bytesA q.1 := ⟨_, rfl⟩
      rw [← hqi2] at u1 hqi
      rw [← hql] at u2
      rw [← hqs] at u0
      have HQE := Lib.hid (And.intro hqi2 (And.intro hql hqs))
      have R0 := Lib.hid (LS.out.R.alloc (.cells #[.string qs, .int .i64 (qi : Int), .int .i64 (ql : Int)] 119))
      clear f0 f1 f2 hq hqi2 hql hqs
      go_wp2_with fail
      obtain ⟨W0, hW0⟩ : ∃ W0, W0 = wr.alloc (.cells #[.string qs, .int .i64 (qi : Int), .int .i64 (ql : Int)] 119) := ⟨_, rfl⟩
      obtain ⟨ub, hub⟩ : ∃ ub, ub = wr.heap.size := ⟨_, rfl⟩
      have HB0 := Lib.hid (show Below wr.heap.size wr W0 ∧ ub < W0.heap.size from by rw [hW0, hub]; exact ⟨(Below.refl _ _).alloc (Nat.le_refl _) _, by simp⟩)
      have v0 : W0.cell? ⟨ub, 0, none⟩ = some (.string qs) := by rw [hW0, hub, World.cell?_alloc_at _ _ _ _ rfl]; rfl
      have HV := Lib.hid (show W0.cell? ⟨ub, 1, none⟩ = some (.int .i64 (qi : Int)) ∧ W0.cell? ⟨ub, 2, none⟩ = some (.int .i64 (ql : Int)) from by rw [hW0, hub]; exact ⟨by rw [World.cell?_alloc_at _ _ _ _ rfl]; rfl, by rw [World.cell?_alloc_at _ _ _ _ rfl]; rfl⟩)
      rw [← hW0] at R0
      simp only [← hW0, ← hub]
      clear hW0 hub u0 u1 u2
      go_upto_region 4 with fail
      obtain ⟨_, _, _, c3, _⟩ := R0.out.cells
      have hl1 := (R0.out.block (W' := W0.drew) fun _ _ => rfl).m.look q.1 (by simp only [maxLen]; omega)
      have RZ := R0.out.alloc (.cells #[.int .i64 0, .int .i64 0] 121)
      have hl2 := (RZ.block (W' := (W0.alloc (.cells #[.int .i64 0, .int .i64 0] 121)).drew) fun _ _ => rfl).m.look q.1 (by simp only [maxLen]; omega)
      obtain ⟨_, _, _, z3, _⟩ := RZ.cells
      have zn : (W0.alloc (.cells #[.int .i64 0, .int .i64 0] 121)).cell? ⟨ub, 0, none⟩ = some (.string qs) := by
        rw [World.cell?_alloc_old _ _ _ (Nat.ne_of_lt HB0.out.2)]; exact v0
      obtain ⟨pa, hpa⟩ : ∃ k, k = ((placeOf s.labels q.1).getD (0, 0)).1 := ⟨_, rfl⟩
      obtain ⟨pl, hpl⟩ : ∃ k, k = ((placeOf s.labels q.1).getD (0, 0)).2 := ⟨_, rfl⟩
      obtain ⟨fo, hfo⟩ : ∃ k, k = (placeOf s.labels q.1).isSome := ⟨_, rfl⟩
      rw [← hpa, ← hpl, ← hfo, ← HQE.out.2.2] at hl1 hl2
      have HPL := Lib.hid (And.intro hpa (And.intro hpl hfo))
      clear hpa hpl hfo RZ
      go_cut [5, 6] from 18 to 27 (fun s5 s6 w' => ∃ pb Wn, Wn = w' ∧ s5 = .pointer (some ⟨pb, 0, none⟩) ∧ s6 = .bool fo ∧ Hid (PlAt W0 Wn pb pa pl))
      case first =>
       as_aux_lemma =>
        go_region
        all_goals (go_wp2_with fail; go_meet)
        all_goals exact ⟨_, _, rfl, rfl, rfl, Lib.hid (pl1 W0 pa pl)⟩
      case rest =>
      obtain ⟨pb, Wn, rfl, rfl, rfl, PL⟩ := hcut
      clear hl1 hl2 c3 z3 zn v0
      have HBN := Lib.hid (show Below wr.heap.size wr Wn from HB0.out.1.trans (PL.out.b.mono HB0.out.1.size))
      have RN := Lib.hid (LS.out.R.only (F := []) (Only.of_below HBN.out) (by simp))
      have b1 : Wn.cell? ⟨ub, 1, none⟩ = some (.int .i64 (qi : Int)) := by rw [PL.out.b.cell (p := ⟨ub, 1, none⟩) HB0.out.2]; exact HV.out.1
      have b2 : Wn.cell? ⟨ub, 2, none⟩ = some (.int .i64 (ql : Int)) := by rw [PL.out.b.cell (p := ⟨ub, 2, none⟩) HB0.out.2]; exact HV.out.2
      cases hpl : placeOf s.labels q.1 with
      | none =>
        have e0 : fo = false := by rw [HPL.out.2.2, hpl]; rfl
        subst e0
        have FIN := Lib.hid (fun t v w' (hb : Below Wn.heap.size Wn w') => show FinOut R rb mb n s (.slice Ac nC capc) (.slice Al nL capl) (.slice (some ⟨gu, 0, none⟩) nU capu) w (.returned (.iface t v)) w' from by
          have e1 : R = .err := by
            rw [HR.out, finishP, LS.out.e]
            have hlt2 := (List.getElem?_eq_some_iff.1 HQ.out).1
            rw [List.drop_eq_getElem_cons hlt2, (List.getElem?_eq_some_iff.1 HQ.out).2]
            obtain ⟨qa, qb, qc⟩ := q
            rw [usesP, hpl]
          rw [e1]
          exact ERR.out _ _ _ ((LS.out.o.trans (Only.of_below HBN.out)).trans (Only.of_below hb)))
        clear hpl
        go_wp2_with fail
        go_at_call 15
        refine (FA.out _ _ _ _).mono ?_
        rintro e w2 ⟨rfl, rfl⟩
        go_wp2_with fail
        go_ret
        exact FIN.out _ _ _ ((Below.refl _ _).alloc (Nat.le_refl _) _)
      | some p =>
        have e0 : fo = true := by rw [HPL.out.2.2, hpl]; rfl
        have e1 : pa = p.1 := by rw [HPL.out.1, hpl]; rfl
        subst e0
        obtain ⟨q', hq'1, hq'2, hq'3⟩ := place_le hpl
        have hpb : pa ≤ 1000000 := by
          have := (HI.out.li q' hq'1).2.1
          rw [hq'3, ← HN.out.1] at this
          have h9 : q'.2.1 = p.1 := by rw [hq'3]
          omega
        obtain ⟨gc, hAc⟩ : ∃ g, Ac = some ⟨g, 0, none⟩ := by
          obtain ⟨g, cap, e⟩ := nil_form LS.out.R.c (show 0 < c.length by rw [LS.out.cl, ← HN.out.1]; omega)
          exact ⟨g, by injection e⟩
        subst hAc
        have RC := Lib.hid (show Wn.ownsRow 0 44 7 (.slice (some ⟨gc, 0, none⟩) nC capc) nC (flatCs c) from by have := RN.out.c; rwa [show ({ s with code := c } : AsmS).code.length = nC from by rw [HN.out.1]; exact LS.out.cl] at this)
        have w4 := own_cell RC.out (qi * 7 + 4) (.int .u64 (c.getD qi inst0).v) (by rw [flatCs_get c qi 4 (by rw [LS.out.cl, ← HN.out.1]; omega) (by omega)]; rfl)
        have g4 := own_free RC.out (g := gc) rfl (qi * 7 + 4)
        have p0 := PL.out.r.cell 0 (by simp)
        simp only [List.getElem_cons_zero] at p0
        obtain ⟨_, d1, _, _, _⟩ := RN.out.cells
        have wu : IntKind.u64.wrap (pa : Int) = (pa : Int) := by rw [IntKind.wrap_u64]; omega
        have NX := Lib.hid (show Fl1 w (Wn.setCell ⟨gc, qi * 7 + 4, none⟩ (.int .u64 (pa : Int))).drew rb mb n s (.slice (some ⟨gc, 0, none⟩) nC capc) (.slice Al nL capl) (.slice (some ⟨gu, 0, none⟩) nU capu) (i + 1) (c.set q.2.1 { c.getD q.2.1 inst0 with v := p.1 }) from by
          have hs := HN.out.1
          have L2 := LS.out
          rw [hs] at L2 ⊢
          have := L2.step q HQ.out hpl (by have := (HI.out.ui q (List.mem_of_getElem? HQ.out)).1; exact this) HBN.out
          rw [HQE.out.1, e1]
          exact ⟨this.e, this.cl, this.R.block fun _ _ => rfl, this.o.drew⟩)
        clear hpl hq'1 hq'2 hq'3 e1
        go_wp2_with fail
        go_region
        all_goals
          go_wp2_with fail
          go_roundw
          case rel => exact ⟨i + 1, _, by omega, by go_num, NX⟩
          case measure => simp [intOf]; omega
    · obtain ⟨wr1, rfl⟩ : ∃ x, x = wr := ⟨_, rfl⟩
      have hus : usesP s.labels s.uses s.code = some c := by
        rw [LS.out.e, show i = s.uses.length by rw [← HN.out.2.2]; omega, List.drop_length]; rfl
      have E := Lib.hid (show R = if 2048 < nC ∨ (s.labels.any fun l => l.2.1 == nC) = true then .err else .ok c s.labels from by
        rw [HR.out, finishP, hus, HN.out.1, ← LS.out.cl])
      obtain ⟨c0, c1, c2, c3, c4⟩ := LS.out.R.cells
      clear hus
      by_cases hbig : 2048 < nC
      · have hbig2 : (2048 : Int) < (nC : Int) := by omega
        have FIN := Lib.hid (fun t v w' (hb : Below wr1.heap.size wr1 w') => show FinOut R rb mb n s (.slice Ac nC capc) (.slice Al nL capl) (.slice Au nU capu) w (.returned (.iface t v)) w' from by
          rw [E.out, if_pos (.inl hbig)]
          exact ERR.out _ _ _ (LS.out.o.trans (Only.of_below hb)))
        clear hbig
        go_wp2_with fail
        go_at_call 15
        refine (FA.out _ _ _ _).mono ?_
        rintro e w9 ⟨rfl, rfl⟩
        go_wp2_with fail
        go_ret
        exact FIN.out _ _ _ ((Below.refl _ _).alloc (Nat.le_refl _) _)
      · have hbig2 : ¬ (2048 : Int) < (nC : Int) := by omega
        go_wp2_with fail
        clear c0 c1 c2 c3 c4
        go_loopw [59] (fun vi wr => ∃ j, j ≤ nL ∧ vi = .int .i64 j ∧ Hid (∀ t q, t < j → s.labels[t]? = some q → q.2.1 ≠ nC) ∧ Hid (Below wr1.heap.size wr1 wr)) (fun vi _ => nL - (intOf vi).toNat)
        case atStart => exact ⟨0, by omega, rfl, Lib.hid (fun t q ht => by omega), Lib.hid (Below.refl _ _)⟩
        case round =>
          obtain ⟨j, hj, rfl, hok, HB⟩ := hrel
          by_cases hjl : j < nL
          · obtain ⟨q, hq⟩ : ∃ q, s.labels[j]? = some q := ⟨_, List.getElem?_eq_getElem (by rw [← HN.out.2.1]; exact hjl)⟩
            obtain ⟨hq1, hq2, hq3⟩ := HI.out.li q (List.mem_of_getElem? hq)
            have R2 := LS.out.R.only (F := []) (Only.of_below HB.out) (by simp)
            obtain ⟨gl, hAl⟩ : ∃ g, Al = some ⟨g, 0, none⟩ := by
              obtain ⟨g, cap, e⟩ := nil_form R2.l (show 0 < s.labels.length by rw [← HN.out.2.1]; omega)
              exact ⟨g, by injection e⟩
            subst hAl
            have RL := Lib.hid (show wr.ownsRow 0 41 2 (.slice (some ⟨gl, 0, none⟩) nL capl) nL (flatLab s.labels) from by have := R2.l; rwa [← HN.out.2.1] at this)
            obtain ⟨f0, f1⟩ := flatLab_get s.labels j q hq
            have l0 := own_cell RL.out _ _ f0
            have l1 := own_cell RL.out _ _ f1
            obtain ⟨qa, hqa⟩ : ∃ k, k = q.2.1 := ⟨_, rfl⟩
            obtain ⟨qs, hqs⟩ : ∃ k, k = bytesA q.1 := ⟨_, rfl⟩
            rw [← hqa] at l1
            rw [← hqs] at l0
            have HQE := Lib.hid (And.intro hqa hqs)
            have HQ := Lib.hid hq
            have R0 := Lib.hid (R2.alloc (.cells #[.string qs, .int .i64 (qa : Int)] 41))
            clear f0 f1 hq hqa hqs R2
            go_wp2_with fail
            obtain ⟨W0, hW0⟩ : ∃ W0, W0 = wr.alloc (.cells #[.string qs, .int .i64 (qa : Int)] 41) := ⟨_, rfl⟩
            obtain ⟨lb, hlb⟩ : ∃ lb, lb = wr.heap.size := ⟨_, rfl⟩
            have HB0 := Lib.hid (show Below wr1.heap.size wr1 W0 from by rw [hW0]; exact HB.out.alloc HB.out.size _)
            have v0 : W0.cell? ⟨lb, 0, none⟩ = some (.string qs) := by rw [hW0, hlb, World.cell?_alloc_at _ _ _ _ rfl]; rfl
            have v1 : W0.cell? ⟨lb, 1, none⟩ = some (.int .i64 (qa : Int)) := by rw [hW0, hlb, World.cell?_alloc_at _ _ _ _ rfl]; rfl
            rw [← hW0] at R0
            simp only [← hW0, ← hlb]
            clear hW0 hlb l0 l1
            go_upto_region 14 with fail
            obtain ⟨_, c1, _, c3, _⟩ := R0.out.cells
            obtain ⟨b, hb⟩ : ∃ b, b = ((qa : Int) == (nC : Int)) := ⟨_, rfl⟩
            have HBV := Lib.hid hb
            clear hb
            go_cut [70] from 63 to 70 (fun s70 w' => ∃ Wn, Wn = w' ∧ s70 = .bool b ∧ Hid (∃ k, Wn = W0.drewN k))
            case first =>
             as_aux_lemma =>
              go_region
              all_goals (go_wp2_with fail; go_meet)
              all_goals exact ⟨_, rfl, by rw [HBV.out], Lib.hid ⟨1, rfl⟩⟩
            case rest =>
            obtain ⟨Wn, rfl, rfl, HWN⟩ := hcut
            clear c1 c3
            have HBN := Lib.hid (show Below wr1.heap.size wr1 Wn from by
              obtain ⟨k, e⟩ := HWN.out
              rw [e]
              exact ⟨HB0.out.os, HB0.out.tape, HB0.out.output, HB0.out.size, HB0.out.block⟩)
            cases b with
            | false =>
              have NX := Lib.hid (show ∀ t q, t < j + 1 → s.labels[t]? = some q → q.2.1 ≠ nC from fun t q' ht hq' => by
                by_cases htj : t < j
                · exact hok.out t q' htj hq'
                · obtain rfl : t = j := by omega
                  rw [HQ.out] at hq'
                  cases hq'
                  have h9 := HBV.out.symm
                  rw [HQE.out.1] at h9
                  have := beq_eq_false_iff_ne.1 h9
                  omega)
              clear v0 v1
              go_wp2_with fail
              go_roundw
              case rel => exact ⟨j + 1, by omega, by go_num, NX, HBN⟩
              case measure => simp [intOf]; omega
            | true =>
              have RN := R0.out.block (W' := Wn) (fun k hk => by obtain ⟨k, e⟩ := HWN.out; rw [e]; rfl)
              obtain ⟨_, _, _, c3, _⟩ := RN.cells
              have x0 : Wn.cell? ⟨lb, 0, none⟩ = some (.string qs) := by obtain ⟨k, e⟩ := HWN.out; rw [e]; exact v0
              have hl0 := (RN.block (W' := Wn.drew) fun _ _ => rfl).m.look0 q.1 (by simp only [maxLen]; omega)
              obtain ⟨pa, hpa⟩ : ∃ k, k = ((placeOf s.labels q.1).getD (0, 0)).1 := ⟨_, rfl⟩
              obtain ⟨pl, hpl⟩ : ∃ k, k = ((placeOf s.labels q.1).getD (0, 0)).2 := ⟨_, rfl⟩
              rw [← hpa, ← hpl, ← HQE.out.2] at hl0
              have hfd := field_place (pa : Int) (pl : Int) Wn.drew
              have FIN := Lib.hid (fun t v w' (hb : Below wr1.heap.size wr1 w') => show FinOut R rb mb n s (.slice Ac nC capc) (.slice (some ⟨gl, 0, none⟩) nL capl) (.slice Au nU capu) w (.returned (.iface t v)) w' from by
                rw [E.out, if_pos (.inr (List.any_eq_true.2 ⟨q, List.mem_of_getElem? HQ.out, by
                  have h9 := beq_iff_eq.1 HBV.out.symm
                  rw [HQE.out.1] at h9
                  simpa using (by omega : q.2.1 = nC)⟩))]
                exact ERR.out _ _ _ (LS.out.o.trans (Only.of_below hb)))
              clear hpa hpl RN v0 v1
              go_wp2_with fail
              go_region_with (go_at_call 15; refine (FA.out _ _ _ _).mono ?_; rintro e w9 ⟨rfl, rfl⟩)
              all_goals
                go_wp2_with fail
                go_ret
                exact FIN.out _ _ _ (HBN.out.drew.alloc (show wr1.heap.size ≤ Wn.heap.size from HBN.out.size) _)
          · have FIN := Lib.hid (show FinOut R rb mb n s (.slice Ac nC capc) (.slice Al nL capl) (.slice Au nU capu) w (.returned .nilIface) wr from by
              rw [E.out, if_neg (fun h => by
                rcases h with h | h
                · exact hbig h
                · obtain ⟨q, hq1, hq2⟩ := List.any_eq_true.1 h
                  obtain ⟨t, ht⟩ := List.mem_iff_getElem?.1 hq1
                  have := (List.getElem?_eq_some_iff.1 ht).1
                  exact hok.out t q (by rw [← HN.out.2.1] at this; omega) ht (by simpa using hq2))]
              exact ⟨rfl, rfl, LS.out.R.only (F := []) (Only.of_below HB.out) (by simp), LS.out.o.trans (Only.of_below HB.out)⟩)
            go_wp2_with fail
            go_ret
            exact FIN.out
end Go.Proofs.YtneajiglkiffjaaGreatDoor
