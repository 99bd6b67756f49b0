/- The document's word on one instruction (layer 4): the contract of Right. -/
import Derived.Test.YtncgkhgjclodaaaDoorRefOf
import Derived.Deep.CutRange
import Derived.Deep.DeepCutAuto
import Derived.Deep.CutBlock
import Derived.Deep.Light
namespace Go.Proofs.YtncgkhgjclodaaaDoor
open Go.RowKit
set_option linter.unusedVariables false

set_option maxHeartbeats 400000 in
theorem reg_any (r : Int) (w : World) : Calls Tryd.prog 46 #[.int .i64 r] w fun e w' => e = .returned (.bool (regB r)) ∧ w = w' := by
  by_cases h0 : 0 ≤ r
  · by_cases h1 : r < 32
    · rw [show regB r = true by simp [regB, h0, h1]]
      go_enter Tryd.func46, Tryd.ntmps46
      go_wp2
      go_ret
      exact ⟨rfl, rfl⟩
    · rw [show regB r = false by simp [regB, h1]]
      go_enter Tryd.func46, Tryd.ntmps46
      go_wp2
      go_ret
      exact ⟨rfl, rfl⟩
  · rw [show regB r = false by simp [regB, h0]]
    go_enter Tryd.func46, Tryd.ntmps46
    go_wp2
    go_ret
    exact ⟨rfl, rfl⟩

/-! The same words, said of a row that is a letter. -/
def sideS (s : Shp) (x : Inst) (lib : Bool) : Bool := s.Is && (lib || (decide (x.op ≤ 22) && decide (x.m = 0))) && !(lib && decide (x.op = 22))
def markS (s : Shp) (x : Inst) : Bool := decide (0 ≤ x.m) && decide (x.m ≤ 99) && decide (0 ≤ x.wh) && decide (x.wh ≤ 2) && (!decide (x.m = 0) || decide (x.wh = 0)) && (decide (x.wh = 0) || s.A)
def fieldAS (s : Shp) (x : Inst) : Bool := if s.A then regB x.a else decide (x.a = 0)
def fieldBS (s : Shp) (x : Inst) : Bool := if s.B then regB x.b || (s.NoB && decide (x.b = -1)) else decide (x.b = 0)
def fieldCS (s : Shp) (x : Inst) : Bool := if s.C then regB x.c || (s.NoC && decide (x.c = -1)) else decide (x.c = 0)
def usesS (s : Shp) (x : Inst) : Bool := s.V && !(decide (x.op = 43) && !decide (x.b = -1)) && !(s.NoC && !decide (x.c = -1))
def fieldVS (s : Shp) (x : Inst) (n : Int) : Bool := (usesS s x || decide (x.v = 0)) && (!s.Place || decide (x.v < n)) && (!decide (x.op = 22) || decide (x.v < 1000))
def rightS (s : Shp) (x : Inst) (n : Int) (lib : Bool) : Bool := sideS s x lib && markS s x && fieldAS s x && fieldBS s x && fieldCS s x && fieldVS s x n
theorem right_eq (x : Inst) (n : Int) (lib : Bool) : rightB x n lib = rightS (shapeOf x.op) x n lib := rfl

/-- The boxes of an instruction and of a row. -/
def Boxes (W : World) (X Y : Nat) (x : Inst) (s : Shp) : Prop := Row W X x.cs ∧ Row W Y s.cs

set_option maxHeartbeats 0 in
set_option maxRecDepth 100000 in
theorem right_any (op a b c v m wh n : Int) (hn0 : 0 ≤ n) (hn1 : n ≤ 9223372036854775807) (lib : Bool) (w : World) :
    Calls Tryd.prog 32 #[.agg #[.int .i64 op, .int .i64 a, .int .i64 b, .int .i64 c, .int .u64 v, .int .i64 m, .int .i64 wh], .int .i64 n, .bool lib] w fun e w' =>
      e = .returned (.bool (rightB ⟨op, a, b, c, v, m, wh⟩ n lib)) ∧ Below w.heap.size w w' := by
  have OF := Lib.hid (fun W => of_any op W)
  have wn : IntKind.u64.wrap n = n := by rw [IntKind.wrap_u64]; omega
  clear hn0 hn1
  rw [right_eq]
  obtain ⟨s, hs⟩ : ∃ s, s = shapeOf op := ⟨_, rfl⟩
  rw [← hs] at OF
  rw [show shapeOf (⟨op, a, b, c, v, m, wh⟩ : Inst).op = s from hs.symm]
  clear hs
  obtain ⟨A, B, C, V, NoB, NoC, Pl, Is⟩ := s
  have OF2 := Lib.hid (show ∀ W, Calls Tryd.prog 24 #[.int .i64 op] W fun e w' => e = .returned (.agg #[.bool A, .bool B, .bool C, .bool V, .bool NoB, .bool NoC, .bool Pl, .bool Is]) ∧ Below W.heap.size W w' from fun W => OF.out W)
  have RG := Lib.hid reg_any
  obtain ⟨s, hs⟩ : ∃ s : Shp, s = ⟨A, B, C, V, NoB, NoC, Pl, Is⟩ := ⟨_, rfl⟩
  obtain ⟨xx, hxx⟩ : ∃ xx : Inst, xx = ⟨op, a, b, c, v, m, wh⟩ := ⟨_, rfl⟩
  rw [← hs, ← hxx]
  obtain ⟨R, hR⟩ : ∃ R, R = rightS s xx n lib := ⟨_, rfl⟩
  rw [← hR]
  have HR := Lib.hid hR
  have HS := Lib.hid (And.intro hs hxx)
  obtain ⟨Q1, hQ1⟩ : ∃ Q1, Q1 = sideS s xx lib := ⟨_, rfl⟩
  obtain ⟨Q2, hQ2⟩ : ∃ Q2, Q2 = markS s xx := ⟨_, rfl⟩
  obtain ⟨Q3, hQ3⟩ : ∃ Q3, Q3 = fieldAS s xx := ⟨_, rfl⟩
  obtain ⟨Q4, hQ4⟩ : ∃ Q4, Q4 = fieldBS s xx := ⟨_, rfl⟩
  obtain ⟨Q5, hQ5⟩ : ∃ Q5, Q5 = fieldCS s xx := ⟨_, rfl⟩
  obtain ⟨Q6, hQ6⟩ : ∃ Q6, Q6 = fieldVS s xx n := ⟨_, rfl⟩
  have hRQ : R = (Q1 && Q2 && Q3 && Q4 && Q5 && Q6) := by rw [hR, hQ1, hQ2, hQ3, hQ4, hQ5, hQ6]; rfl
  have HRQ := Lib.hid hRQ
  obtain ⟨G1, hG1⟩ : ∃ G1, G1 = (decide (op = 43) && !decide (b = -1)) := ⟨_, rfl⟩
  obtain ⟨G2, hG2⟩ : ∃ G2, G2 = (NoC && !decide (c = -1)) := ⟨_, rfl⟩
  have HG1 := Lib.hid hG1
  have HG2 := Lib.hid hG2
  clear hG1 hG2
  have HQ1 := Lib.hid hQ1
  have HQ2 := Lib.hid hQ2
  have HQ3 := Lib.hid hQ3
  have HQ4 := Lib.hid hQ4
  have HQ5 := Lib.hid hQ5
  have HQ6 := Lib.hid hQ6
  clear OF hs hxx hR hQ1 hQ2 hQ3 hQ4 hQ5 hQ6 hRQ
  go_enter Tryd.func32, Tryd.ntmps32
  go_wp2_with fail
  go_at_call 24
  refine (OF2.out _).mono ?_
  rintro e w1 ⟨rfl, hb⟩
  -- the two boxes; from here on nothing is written
  have hbx : Below w.heap.size w w1 := ((Below.refl _ w).alloc (Nat.le_refl _) _).trans (hb.mono (by simp))
  have rx : Row w1 w.heap.size [.int .i64 op, .int .i64 a, .int .i64 b, .int .i64 c, .int .u64 v, .int .i64 m, .int .i64 wh] := (Row.new w [.int .i64 op, .int .i64 a, .int .i64 b, .int .i64 c, .int .u64 v, .int .i64 m, .int .i64 wh] 55).below hb (by simp)
  clear hb
  go_upto_region 2 with fail
  obtain ⟨X, hX⟩ : ∃ X, X = w.heap.size := ⟨_, rfl⟩
  obtain ⟨Y, hY⟩ : ∃ Y, Y = w1.heap.size := ⟨_, rfl⟩
  obtain ⟨W, hW⟩ : ∃ W, W = w1.alloc (.cells #[.bool A, .bool B, .bool C, .bool V, .bool NoB, .bool NoC, .bool Pl, .bool Is] 49) := ⟨_, rfl⟩
  have ry : Row W Y [.bool A, .bool B, .bool C, .bool V, .bool NoB, .bool NoC, .bool Pl, .bool Is] := by rw [hW, hY]; exact Row.new w1 _ _
  have rx2 : Row W X [.int .i64 op, .int .i64 a, .int .i64 b, .int .i64 c, .int .u64 v, .int .i64 m, .int .i64 wh] := by rw [hW, hX]; exact rx.alloc _
  have BL := Lib.hid (show Below w.heap.size w W from by rw [hW]; exact hbx.alloc hbx.size _)
  rw [← hW, ← hX, ← hY]
  have x0 := rx2.cell 0 (by simp)
  have x1 := rx2.cell 1 (by simp)
  have x2 := rx2.cell 2 (by simp)
  have x3 := rx2.cell 3 (by simp)
  have x4 := rx2.cell 4 (by simp)
  have x5 := rx2.cell 5 (by simp)
  have x6 := rx2.cell 6 (by simp)
  have y0 := ry.cell 0 (by simp)
  have y1 := ry.cell 1 (by simp)
  have y2 := ry.cell 2 (by simp)
  have y3 := ry.cell 3 (by simp)
  have y4 := ry.cell 4 (by simp)
  have y5 := ry.cell 5 (by simp)
  have y6 := ry.cell 6 (by simp)
  have y7 := ry.cell 7 (by simp)
  simp only [List.getElem_cons_zero, List.getElem_cons_succ] at x0 x1 x2 x3 x4 x5 x6 y0 y1 y2 y3 y4 y5 y6 y7
  clear hX hY hW rx rx2 ry hbx OF2
  go_cut [0, 1, 2, 36] from 9 to 197 (fun s0 s1 s2 st w' => s0 = .agg #[.int .i64 op, .int .i64 a, .int .i64 b, .int .i64 c, .int .u64 v, .int .i64 m, .int .i64 wh] ∧ s1 = .int .i64 n ∧ s2 = .bool lib ∧ st = .bool (!Q1) ∧ W = w')
  case first =>
   as_aux_lemma =>
    go_wp2_with (fail)
    all_goals go_meet
    all_goals
      go_light
      refine ⟨by simp [*], by simp [*], by simp [*], congrArg Value.bool ?_, rfl⟩
      rw [HQ1.out, HS.out.1, HS.out.2]
      simp [sideS, *] <;> first | omega | (rw [Bool.eq_iff_iff]; simp; done) | (simp [show ¬ m < 0 by omega, show ¬ 99 < m by omega, show ¬ wh < 0 by omega, show ¬ 2 < wh by omega, *]; done)
  case rest =>
  as_aux_lemma =>
  obtain ⟨rfl, rfl, rfl, rfl, rfl⟩ := hcut
  by_cases hQ1 : Q1 = false
  · subst hQ1
    go_wp2_with fail
    go_ret
    exact ⟨by rw [HRQ.out]; simp, BL.out⟩
  have hQ1' : Q1 = true := by simpa using hQ1
  subst hQ1'
  clear hQ1
  go_upto_region 4 with fail
  go_cut [0, 1, 2, 74] from 9 to 197 (fun s0 s1 s2 st w' => s0 = .agg #[.int .i64 op, .int .i64 a, .int .i64 b, .int .i64 c, .int .u64 v, .int .i64 m, .int .i64 wh] ∧ s1 = .int .i64 n ∧ s2 = .bool lib ∧ st = .bool (!Q2) ∧ W = w')
  case first =>
   as_aux_lemma =>
    go_wp2_with (fail)
    all_goals go_meet
    all_goals
      go_light
      refine ⟨by simp [*], by simp [*], by simp [*], congrArg Value.bool ?_, rfl⟩
      rw [HQ2.out, HS.out.1, HS.out.2]
      simp [markS, *] <;> first | omega | (rw [Bool.eq_iff_iff]; simp; done) | (simp [show ¬ m < 0 by omega, show ¬ 99 < m by omega, show ¬ wh < 0 by omega, show ¬ 2 < wh by omega, *]; done)
  case rest =>
  as_aux_lemma =>
  obtain ⟨rfl, rfl, rfl, rfl, rfl⟩ := hcut
  by_cases hQ2 : Q2 = false
  · subst hQ2
    go_wp2_with fail
    go_ret
    exact ⟨by rw [HRQ.out]; simp, BL.out⟩
  have hQ2' : Q2 = true := by simpa using hQ2
  subst hQ2'
  clear hQ2
  go_upto_region 6 with fail
  go_cut [0, 1, 2, 92] from 9 to 197 (fun s0 s1 s2 st w' => s0 = .agg #[.int .i64 op, .int .i64 a, .int .i64 b, .int .i64 c, .int .u64 v, .int .i64 m, .int .i64 wh] ∧ s1 = .int .i64 n ∧ s2 = .bool lib ∧ st = .bool (!Q3) ∧ W = w')
  case first =>
   as_aux_lemma =>
    go_wp2_with (first | (go_at_call 46; refine (RG.out _ _).mono ?_; rintro e w' ⟨rfl, rfl⟩))
    all_goals go_meet
    all_goals
      go_light
      refine ⟨by simp [*], by simp [*], by simp [*], congrArg Value.bool ?_, rfl⟩
      rw [HQ3.out, HS.out.1, HS.out.2]
      simp [fieldAS, *] <;> first | omega | (rw [Bool.eq_iff_iff]; simp; done) | (simp [show ¬ m < 0 by omega, show ¬ 99 < m by omega, show ¬ wh < 0 by omega, show ¬ 2 < wh by omega, *]; done)
  case rest =>
  as_aux_lemma =>
  obtain ⟨rfl, rfl, rfl, rfl, rfl⟩ := hcut
  by_cases hQ3 : Q3 = false
  · subst hQ3
    go_wp2_with fail
    go_ret
    exact ⟨by rw [HRQ.out]; simp, BL.out⟩
  have hQ3' : Q3 = true := by simpa using hQ3
  subst hQ3'
  clear hQ3
  go_upto_block 0 with fail
  go_cut [0, 1, 2, 8] from 9 to 197 (fun s0 s1 s2 st w' => s0 = .agg #[.int .i64 op, .int .i64 a, .int .i64 b, .int .i64 c, .int .u64 v, .int .i64 m, .int .i64 wh] ∧ s1 = .int .i64 n ∧ s2 = .bool lib ∧ st = .bool (V && !G1) ∧ Q4 = true ∧ W = w')
  case first =>
    go_upto_region 9 with fail
    go_cut [0, 1, 2, 95] from 9 to 197 (fun s0 s1 s2 st w' => s0 = .agg #[.int .i64 op, .int .i64 a, .int .i64 b, .int .i64 c, .int .u64 v, .int .i64 m, .int .i64 wh] ∧ s1 = .int .i64 n ∧ s2 = .bool lib ∧ st = .bool (!Q4) ∧ W = w')
    case first =>
     as_aux_lemma =>
      go_wp2_with (first | (go_at_call 46; refine (RG.out _ _).mono ?_; rintro e w' ⟨rfl, rfl⟩))
      all_goals go_meet
      all_goals
        go_light
        refine ⟨by simp [*], by simp [*], by simp [*], congrArg Value.bool ?_, rfl⟩
        rw [HQ4.out, HS.out.1, HS.out.2]
        simp [fieldBS, *] <;> first | omega | (rw [Bool.eq_iff_iff]; simp; done) | (rw [Bool.eq_iff_iff]; simp [*]; done) | fail
    case rest =>
    as_aux_lemma =>
    obtain ⟨rfl, rfl, rfl, rfl, rfl⟩ := hcut
    by_cases hQ4 : Q4 = false
    · subst hQ4
      go_wp2_with fail
      go_ret
      exact ⟨by rw [HRQ.out]; simp, BL.out⟩
    have hQ4' : Q4 = true := by simpa using hQ4
    subst hQ4'
    clear hQ4
    go_upto_region 11 with fail
    go_cut [0, 1, 2, 124] from 9 to 197 (fun s0 s1 s2 st w' => s0 = .agg #[.int .i64 op, .int .i64 a, .int .i64 b, .int .i64 c, .int .u64 v, .int .i64 m, .int .i64 wh] ∧ s1 = .int .i64 n ∧ s2 = .bool lib ∧ st = .bool G1 ∧ W = w')
    case first =>
     as_aux_lemma =>
      go_wp2_with fail
      all_goals go_meet
      all_goals
        go_light
        refine ⟨by simp [*], by simp [*], by simp [*], congrArg Value.bool ?_, rfl⟩
        rw [HG1.out]
        simp [*] <;> first | omega | (rw [Bool.eq_iff_iff]; simp; done) | (rw [Bool.eq_iff_iff]; simp [*]; done) | fail
    case rest =>
    as_aux_lemma =>
    obtain ⟨rfl, rfl, rfl, rfl, rfl⟩ := hcut
    cases G1
    all_goals
      go_wp2_with fail
      go_meet
      refine ⟨?_, ?_, ?_, ?_, ?_, ?_⟩ <;> simp
  case rest =>
  as_aux_lemma =>
  obtain ⟨rfl, rfl, rfl, rfl, rfl, rfl⟩ := hcut
  obtain ⟨V1, hV1⟩ : ∃ V1, V1 = (V && !G1) := ⟨_, rfl⟩
  rw [← hV1]
  have HV1 := Lib.hid hV1
  clear hV1
  go_upto_block 1 with fail
  go_cut [0, 1, 2, 8] from 9 to 197 (fun s0 s1 s2 st w' => s0 = .agg #[.int .i64 op, .int .i64 a, .int .i64 b, .int .i64 c, .int .u64 v, .int .i64 m, .int .i64 wh] ∧ s1 = .int .i64 n ∧ s2 = .bool lib ∧ st = .bool (V1 && !G2) ∧ Q5 = true ∧ W = w')
  case first =>
    go_upto_region 13 with fail
    go_cut [0, 1, 2, 133] from 9 to 197 (fun s0 s1 s2 st w' => s0 = .agg #[.int .i64 op, .int .i64 a, .int .i64 b, .int .i64 c, .int .u64 v, .int .i64 m, .int .i64 wh] ∧ s1 = .int .i64 n ∧ s2 = .bool lib ∧ st = .bool (!Q5) ∧ W = w')
    case first =>
     as_aux_lemma =>
      go_wp2_with (first | (go_at_call 46; refine (RG.out _ _).mono ?_; rintro e w' ⟨rfl, rfl⟩))
      all_goals go_meet
      all_goals
        go_light
        refine ⟨by simp [*], by simp [*], by simp [*], congrArg Value.bool ?_, rfl⟩
        rw [HQ5.out, HS.out.1, HS.out.2]
        simp [fieldCS, *] <;> first | omega | (rw [Bool.eq_iff_iff]; simp; done) | (rw [Bool.eq_iff_iff]; simp [*]; done) | fail
    case rest =>
    as_aux_lemma =>
    obtain ⟨rfl, rfl, rfl, rfl, rfl⟩ := hcut
    by_cases hQ5 : Q5 = false
    · subst hQ5
      go_wp2_with fail
      go_ret
      exact ⟨by rw [HRQ.out]; simp, BL.out⟩
    have hQ5' : Q5 = true := by simpa using hQ5
    subst hQ5'
    clear hQ5
    go_upto_region 15 with fail
    go_cut [0, 1, 2, 162] from 9 to 197 (fun s0 s1 s2 st w' => s0 = .agg #[.int .i64 op, .int .i64 a, .int .i64 b, .int .i64 c, .int .u64 v, .int .i64 m, .int .i64 wh] ∧ s1 = .int .i64 n ∧ s2 = .bool lib ∧ st = .bool G2 ∧ W = w')
    case first =>
     as_aux_lemma =>
      go_wp2_with fail
      all_goals go_meet
      all_goals
        go_light
        refine ⟨by simp [*], by simp [*], by simp [*], congrArg Value.bool ?_, rfl⟩
        rw [HG2.out]
        simp [*] <;> first | omega | (rw [Bool.eq_iff_iff]; simp; done) | (rw [Bool.eq_iff_iff]; simp [*]; done) | fail
    case rest =>
    as_aux_lemma =>
    obtain ⟨rfl, rfl, rfl, rfl, rfl⟩ := hcut
    cases G2
    all_goals
      go_wp2_with fail
      go_meet
      refine ⟨?_, ?_, ?_, ?_, ?_, ?_⟩ <;> simp
  case rest =>
  as_aux_lemma =>
  obtain ⟨rfl, rfl, rfl, rfl, rfl, rfl⟩ := hcut
  obtain ⟨V2, hV2⟩ : ∃ V2, V2 = (V1 && !G2) := ⟨_, rfl⟩
  rw [← hV2]
  have HV2 := Lib.hid hV2
  clear hV2
  have h6 : Q6 = ((V2 || decide (v = 0)) && (!Pl || decide (v < n)) && (!decide (op = 22) || decide (v < 1000))) := by
    rw [HQ6.out, HS.out.1, HS.out.2, HV2.out, HV1.out, HG1.out, HG2.out]; rfl
  have H6 := Lib.hid h6
  clear h6
  go_upto_region 17 with fail
  go_cut [0, 1, 2, 8, 197] from 9 to 197 (fun s0 s1 s2 s8 st w' => s0 = .agg #[.int .i64 op, .int .i64 a, .int .i64 b, .int .i64 c, .int .u64 v, .int .i64 m, .int .i64 wh] ∧ s1 = .int .i64 n ∧ s2 = .bool lib ∧ s8 = .bool V2 ∧ st = .bool (!Q6) ∧ W = w')
  case first =>
   as_aux_lemma =>
    go_wp2_with fail
    all_goals go_meet
    all_goals
      go_light
      refine ⟨by simp [*], by simp [*], by simp [*], by simp [*], congrArg Value.bool ?_, rfl⟩
      rw [H6.out]
      simp [*] <;> first | omega | (rw [Bool.eq_iff_iff]; simp; done) | (rw [Bool.eq_iff_iff]; simp [*]; omega) | fail
  case rest =>
  as_aux_lemma =>
  obtain ⟨rfl, rfl, rfl, rfl, rfl, rfl⟩ := hcut
  by_cases hQ6 : Q6 = false
  · subst hQ6
    go_wp2_with fail
    go_ret
    exact ⟨by rw [HRQ.out]; simp, BL.out⟩
  have hQ6' : Q6 = true := by simpa using hQ6
  subst hQ6'
  clear hQ6
  go_wp2_with fail
  go_ret
  exact ⟨by rw [HRQ.out]; simp, BL.out⟩
end Go.Proofs.YtncgkhgjclodaaaDoor
