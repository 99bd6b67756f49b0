/- Contract of the statements' own example of layer 6 (awake): it answers true; of what was there nothing has turned. No condition. -/
import Derived.Test.YtobbmhboahognaaDoorVmBoth
import Derived.Test.YtobbmhboahognaaDoorVmStepA
import Derived.Test.YtobbmhboahognaaDoorVmStepC
import Derived.Test.YtobbmhboahognaaDoorVmNewFrame
import Derived.Test.YtobbmhboahognaaDoorInsFlat
namespace Go.Proofs.YtobbmhboahognaaDoor
open Go.RowKit
set_option linter.unusedVariables false

theorem frmOk_of_all {f : Frm} (h : (f.r.all fun z => decide (0 ≤ z) && decide (z ≤ 18446744073709551615)) = true) (hb : f.back.length ≤ 8) : FrmOk f := by
  have k : ∀ i, 0 ≤ f.r.getD i 0 ∧ f.r.getD i 0 ≤ 18446744073709551615 := fun i => by
    by_cases hi : i < f.r.length
    · have hm : f.r.getD i 0 ∈ f.r := by simp [hi]
      have := List.all_eq_true.1 h _ hm
      simp only [Bool.and_eq_true, decide_eq_true_eq] at this
      exact this
    · have : f.r.getD i 0 = 0 := by simp [List.getD, List.getElem?_eq_none (show f.r.length ≤ i by omega)]
      rw [this]; omega
  exact ⟨fun i => (k i).1, fun i => (k i).2, hb⟩
/-- The example's registers, code. -/
def awR : List Int := (((List.replicate 32 0).set 1 3).set 2 9).set 3 18446744073709551615
def awR2 : List Int := awR.set 1 3
def awR3 : List Int := awR2.set 2 8
def awC : List Inst := [⟨21, 1, -1, 2, 0, 0, 0⟩, ⟨3, 2, 2, 3, 0, 0, 0⟩]
def awM : Cells := Vm0 (stI [3] 1) 1
def awM2 : Cells := Vm0 ((stI [3] 1).set 0 9) 2
theorem aw_lit : (flatIns awC).toArray = #[.int .i64 21, .int .i64 1, .int .i64 (-1), .int .i64 2, .int .u64 0, .int .i64 0, .int .i64 0, .int .i64 3, .int .i64 2, .int .i64 2, .int .i64 3, .int .u64 0, .int .i64 0, .int .i64 0] := by kernel_rfl
/-- A slice literal whose run is known. -/
theorem wpList_build_run {P : Program} {ops : Array Oper} {rest : List Oper} {o : Oper} {a : Act} {w : World} {Q : Exit → Act → World → Prop} (hg : o.guard = none) (t : TypeId) (len : Nat) (parts : Array (Nat × Operand)) (ho : o.op = .buildSlice t len parts)
    (vs : Array (Nat × Value)) (hv : (parts.map fun (i, x) => (i, a.eval x)) = vs) (v' : Value) (w' : World) (hr : (Instr.buildSlice t len vs).run P w = .ok v' w') (h : wpList P ops Q rest (a.put o.dst v') w') : wpList P ops Q (o :: rest) a w :=
  wpList_plain hg fun _ hK => by
    unfold Oper.wp execOp
    simp only [ho, hv, Sem.run_bind, hr, Result.andThen_ok]
    exact hK _ _ h
theorem aw_build (w : World) : (Instr.buildSlice 22 2 #[(0, .agg #[.int .i64 21, .int .i64 1, .int .i64 (-1), .int .i64 2, .int .u64 0, .int .i64 0, .int .i64 0]), (1, .agg #[.int .i64 3, .int .i64 2, .int .i64 2, .int .i64 3, .int .u64 0, .int .i64 0, .int .i64 0])]).run Tryd.prog w =
    .ok (.slice (some ⟨w.heap.size, 0, none⟩) 2 2) (w.alloc (.cells (flatIns awC).toArray 52)) := by kernel_rfl
theorem awC_ok (i : Nat) (h : i < awC.length) : InsOk (awC.getD i inst0) := by
  match i, h with
  | 0, _ | 1, _ => exact ⟨by decide, by decide⟩
theorem aw_in0 {W : World} {b : Nat} {N : List Nat} {A : Option Addr} {cap : Nat} {C : Option Addr} (h : FrameIn W b N ⟨0, awR, []⟩ A cap) (hc : InsIn W C awC) : StepIn W b N ⟨0, awR, []⟩ A cap C awC 0 ⟨21, (1 : Nat), -1, 2, 0, 0, 0⟩ :=
  ⟨h, frmOk_of_all (by kernel_rfl) (by decide), hc, rfl, by decide, by decide, rfl, ⟨by decide, by decide⟩⟩
theorem aw_in1 {W : World} {b : Nat} {N : List Nat} {A : Option Addr} {cap : Nat} {C : Option Addr} (h : FrameIn W b N ⟨1, awR2, []⟩ A cap) (hc : InsIn W C awC) : StepIn W b N ⟨1, awR2, []⟩ A cap C awC 1 ⟨3, (2 : Nat), 2, 3, 0, 0, 0⟩ :=
  ⟨h, frmOk_of_all (by kernel_rfl) (by decide), hc, rfl, by decide, by decide, rfl, ⟨by decide, by decide⟩⟩
theorem aw_cas {W : World} {b bm bc : Nat} {A : Option Addr} {cap : Nat} {C : Option Addr} (h : FrameIn W b [bm, bc] ⟨0, awR, []⟩ A cap) (hc : InsIn W C awC) (M : MemAt W bm bc awM 11) (g : Good awM) (hb : b ∉ [bm, bc]) :
    Calls Tryd.prog 12 #[.pointer (some ⟨b, 0, none⟩), .slice C 2 2, .iface 25 (.pointer (some ⟨bm, 0, none⟩))] W (AccWent b [bm, bc] ⟨1, awR2, []⟩ bm bc awM2 11 W) := by
  have := step_accgood (aw_in0 h hc) (by kernel_rfl) 2 bm bc awM 11 M g (by decide) (by decide) (by decide) 0 (by kernel_rfl) (by decide) (by decide) hb (fun k hk => hk)
  have e1 : (⟨((0 : Nat) : Int) + 1, awR.set 1 (accR 21 (awM.hs.getD 0 0) (awR.getD 1 0)), []⟩ : Frm) = ⟨1, awR2, []⟩ := by kernel_rfl
  have e2 : ({ ws := awM.ws, hs := awM.hs.set 0 (accV 21 (widthAt awM.ws 0) (awM.hs.getD 0 0) (awR.getD 1 0) (valP ⟨0, awR, []⟩ ⟨21, (1 : Nat), -1, 2, 0, 0, 0⟩)), n := awM.n + 1 } : Cells) = awM2 := by kernel_rfl
  rw [e1, e2] at this
  exact this
theorem aw_add {W : World} {b : Nat} {N : List Nat} {A : Option Addr} {cap : Nat} {C : Option Addr} (M : Value) (h : FrameIn W b N ⟨1, awR2, []⟩ A cap) (hc : InsIn W C awC) :
    Calls Tryd.prog 12 #[.pointer (some ⟨b, 0, none⟩), .slice C 2 2, M] W (WentPost b N ⟨2, awR3, []⟩ [b] W) := by
  have := step_set (aw_in1 h hc) (by kernel_rfl) 2 M (by decide) (by decide)
  have e1 : (⟨((1 : Nat) : Int) + 1, awR2.set 2 (resP 3 0 (regV ⟨1, awR2, []⟩ 2) (valP ⟨1, awR2, []⟩ ⟨3, (2 : Nat), 2, 3, 0, 0, 0⟩)), []⟩ : Frm) = ⟨2, awR3, []⟩ := by kernel_rfl
  rw [e1] at this
  exact this
theorem aw_load {W : World} {b bc : Nat} (h : MemAt W b bc awM2 11) (g : Good awM2) :
    Calls Tryd.prog 40 #[.pointer (some ⟨b, 0, none⟩), .int .u64 0] W fun e w' => e = .returned (.tuple #[.int .u64 9, .nilIface]) ∧ Only [b, bc] W w' := by
  have := memLoad h g (by decide) (by decide) 0 (by decide)
  exact this.mono fun e w' hp => ⟨hp.1, hp.2.2⟩
theorem err_eql_nil (w : World) : (binOp .eql 37 .nilIface .nilIface).run Tryd.prog w = .ok (.bool true) w := by kernel_rfl
theorem aw_good2 (g : Good awM) : Good awM2 := g.acc (i := 0) (y := 9) (by decide) (by decide) (by decide) (by kernel_rfl)

set_option maxHeartbeats 4000000 in
set_option maxRecDepth 100000 in
theorem vawake_any (w : World) : Calls Tryd.prog 8 #[] w fun e w' => e = .returned (.bool true) ∧ Below w.heap.size w w' := by
  have hI : IntsIn (w.alloc (.cells #[.int .u64 3] 47)) .u64 (some ⟨w.heap.size, 0, none⟩) [3] := fun i hi => by
    obtain rfl : i = 0 := by simpa using hi
    refine ⟨_, rfl, by simp, ?_⟩
    have e0 : (⟨w.heap.size, 0, none⟩ : Addr).add 0 = ⟨w.heap.size, 0, none⟩ := by unfold Addr.add; simp
    rw [e0, World.cell?_alloc_at _ _ _ _ rfl]; rfl
  have BO := Lib.hid (both_any (some ⟨w.heap.size, 0, none⟩) 1 [3] _ (by decide) hI (fun i => by
    match i with
    | 0 => decide
    | i + 1 => simp))
  have HB0 := Lib.hid (show Below w.heap.size w (w.alloc (.cells #[.int .u64 3] 47)) from (Below.refl _ _).alloc (Nat.le_refl _) _)
  clear hI
  go_enter Tryd.func8, Tryd.ntmps8
  go_wp2_with fail
  go_at_call 7
  refine BO.out.mono ?_
  rintro e w1 ⟨bm, bc, r, bw, bh, n, rfl, hn, vb, hb, h1, h2, h3, h4, h5⟩
  obtain rfl : n = 1 := hn
  have VB := Lib.hid vb
  have HB1 := Lib.hid (HB0.out.trans (hb.mono HB0.out.size))
  have hs1 : w.heap.size ≤ bm ∧ w.heap.size ≤ bc := by have := HB0.out.size; omega
  have HS := Lib.hid hs1
  have hlm := vb.p.top.lt
  have hlc := vb.p.lt
  obtain ⟨b, hbb⟩ : ∃ b, b = w1.heap.size := ⟨_, rfl⟩
  obtain ⟨w2, hw2⟩ : ∃ w2, w2 = w1.alloc (.cells (emptyCs 0).toArray 50) := ⟨_, rfl⟩
  have F2 : FrameIn w2 b [bm, bc] ⟨0, List.replicate 32 0, []⟩ none 0 := by rw [hw2]; exact frame_empty w1 b _ 0 _ hbb
  have M2 := Lib.hid (show MemAt w2 bm bc awM 11 from by rw [hw2]; exact vb.p.alloc _)
  have HB2 := Lib.hid (show Below w.heap.size w w2 from by rw [hw2]; exact HB1.out.alloc HB1.out.size _)
  have G := Lib.hid (show Good awM from vb.g)
  have HBB := Lib.hid (show b ∉ [bm, bc] from by simp; omega)
  have HBS := Lib.hid (show w.heap.size ≤ b from by rw [hbb]; exact HB1.out.size)
  have c1 := F2.reg 1 (by decide)
  have c2 := F2.reg 2 (by decide)
  have c3 := F2.reg 3 (by decide)
  have z1 := F2.free (1 + 1) (by decide)
  have z2 := F2.free (1 + 2) (by decide)
  have z3 := F2.free (1 + 3) (by decide)
  have FF := Lib.hid F2
  have HW2 := Lib.hid hw2
  have HBE := Lib.hid hbb
  clear hbb hw2 vb hb h1 h2 h3 h4 h5 hs1 hlm hlc F2 VB BO HB0 HB1
  go_upto_region 4 with fail
  go_cut [0, 1, 3] from 3 to 96 (fun s0 s1 s3 w' => s0 = .bool false ∧ s1 = .pointer (some ⟨bm, 0, none⟩) ∧ s3 = .pointer (some ⟨b, 0, none⟩) ∧ w2 = w')
  case first =>
    go_wp2_with fail
    go_meet
    exact ⟨rfl, rfl, by rw [HBE.out], HW2.out⟩
  case rest =>
  obtain ⟨rfl, rfl, rfl, rfl⟩ := hcut
  clear HW2 HBE
  have d1 : FrameIn ((((w2.setCell ⟨b, 1 + 1, none⟩ (.int .u64 3)).setCell ⟨b, 1 + 2, none⟩ (.int .u64 9)).setCell ⟨b, 1 + 3, none⟩ (.int .u64 18446744073709551615))) b [bm, bc] ⟨0, awR, []⟩ none 0 :=
    ((FF.out.setReg 1 (by decide) 3).setReg 2 (by decide) 9).setReg 3 (by decide) 18446744073709551615
  have d2 : Only [b] w2 (((w2.setCell ⟨b, 1 + 1, none⟩ (.int .u64 3)).setCell ⟨b, 1 + 2, none⟩ (.int .u64 9)).setCell ⟨b, 1 + 3, none⟩ (.int .u64 18446744073709551615)) :=
    (((Only.refl [b] w2).setCell (Or.inl (by simp)) _).setCell (Or.inl (by simp)) _).setCell (Or.inl (by simp)) _
  have D1 := Lib.hid d1
  have D2 := Lib.hid d2
  clear d1 d2
  simp only [Nat.reduceAdd] at c1 c2 c3 z1 z2 z3
  go_upto_region 5 with fail
  go_cut [0, 1, 3] from 20 to 96 (fun s0 s1 s3 w' => s0 = .bool false ∧ s1 = .pointer (some ⟨bm, 0, none⟩) ∧ s3 = .pointer (some ⟨b, 0, none⟩) ∧ FrameIn w' b [bm, bc] ⟨0, awR, []⟩ none 0 ∧ Only [b] w2 w')
  case first =>
    go_region
    go_wp2_with fail
    go_meet
    exact ⟨rfl, rfl, rfl, D1.out.drewN 1, D2.out.drew⟩
  case rest =>
  obtain ⟨rfl, rfl, rfl, F3, O3⟩ := hcut
  clear c1 c2 c3 z1 z2 z3 D1 D2 FF
  have M3 := Lib.hid (M2.out.only O3 (by have := HBB.out; simp at this ⊢; omega) (by have := HBB.out; simp at this ⊢; omega))
  have HB3 := Lib.hid (HB2.out.trans (O3.below (B := w.heap.size) (by have := HBS.out; simp; omega) HB2.out.size))
  obtain ⟨w4, hw4⟩ : ∃ w4, w4 = wc.alloc (.cells (flatIns awC).toArray 52) := ⟨_, rfl⟩
  obtain ⟨g, hg⟩ : ∃ g, g = wc.heap.size := ⟨_, rfl⟩
  have C4 := Lib.hid (show InsIn w4 (some ⟨g, 0, none⟩) awC by rw [hw4, hg]; exact insIn_new wc awC _)
  have B4 : Below wc.heap.size wc w4 := by rw [hw4]; exact (Below.refl _ _).alloc (Nat.le_refl _) _
  have F4 := Lib.hid (F3.below B4)
  have M4 := Lib.hid (M3.out.only (F := []) (Only.of_below B4) (by simp) (by simp))
  have HB4 := Lib.hid (HB3.out.trans (B4.mono HB3.out.size))
  have HGB := Lib.hid (show b < g from by rw [hg]; exact F3.top.lt)
  have HGM := Lib.hid (show bm < g ∧ bc < g from by rw [hg]; exact ⟨M3.out.top.lt, M3.out.lt⟩)
  have HW4 := Lib.hid hw4
  have HG := Lib.hid hg
  have bs := aw_build wc
  rw [← hw4, ← hg] at bs
  have HBS4 := Lib.hid bs
  clear F3 O3 M2 M3 HB2 HB3 hw4 hg B4 bs
  go_upto_region 6 with fail
  go_cut [0, 1, 3, 4] from 4 to 96 (fun s0 s1 s3 s4 w' => s0 = .bool false ∧ s1 = .pointer (some ⟨bm, 0, none⟩) ∧ s3 = .pointer (some ⟨b, 0, none⟩) ∧ s4 = .slice (some ⟨g, 0, none⟩) 2 2 ∧ w4 = w')
  case first =>
    go_wp2_with fail
    go_meet
    exact ⟨rfl, rfl, rfl, by rw [HG.out], by rw [HW4.out, aw_lit]⟩
  case rest =>
  obtain ⟨rfl, rfl, rfl, rfl, rfl⟩ := hcut
  clear HW4 HG HBS4
  go_wp2_with fail
  go_at_call 12
  refine (aw_cas F4.out C4.out M4.out G.out HBB.out).mono ?_
  rintro e w5 ⟨rfl, ⟨A5, cap5, f5⟩, m5, o5⟩
  have F5 := Lib.hid f5
  have M5 := Lib.hid m5
  have C5 := Lib.hid (C4.out.only o5 (fun a ha => by cases ha; have := HGB.out; have := HGM.out; simp; omega))
  have HB5 := Lib.hid (HB4.out.trans (o5.below (B := w.heap.size) (by have := HBS.out; have := HS.out; simp; omega) HB4.out.size))
  clear f5 m5 o5 F4 M4 C4 HB4
  go_wp2_with fail
  go_at_call 12
  refine (aw_add _ F5.out C5.out).mono ?_
  rintro e w6 ⟨rfl, ⟨A6, cap6, f6⟩, o6⟩
  have F6 := Lib.hid f6
  have M6 := Lib.hid (M5.out.only o6 (by have := HBB.out; simp at this ⊢; omega) (by have := HBB.out; simp at this ⊢; omega))
  have HB6 := Lib.hid (HB5.out.trans (o6.below (B := w.heap.size) (by have := HBS.out; simp; omega) HB5.out.size))
  clear f6 o6 F5 M5 C5 HB5
  go_wp2_with fail
  go_at_call 40
  refine (aw_load M6.out (aw_good2 G.out)).mono ?_
  rintro e w7 ⟨rfl, o7⟩
  have f7 := F6.out.only o7 HBB.out (fun k hk => hk)
  have c0 := f7.pc
  have c1 := f7.reg 1 (by decide)
  have c2 := f7.reg 2 (by decide)
  rw [show (⟨2, awR3, []⟩ : Frm).r.getD 1 0 = 3 by kernel_rfl] at c1
  rw [show (⟨2, awR3, []⟩ : Frm).r.getD 2 0 = 8 by kernel_rfl] at c2
  simp only [Nat.reduceAdd] at c0 c1 c2
  have HB7 := Lib.hid (HB6.out.trans (o7.below (B := w.heap.size) (by have := HS.out; simp; omega) HB6.out.size))
  have q1 := err_eql_nil
  clear f7 o7 F6 M6 HB6
  go_wp2_with fail
  go_ret
  exact ⟨rfl, HB7.out⟩
end Go.Proofs.YtobbmhboahognaaDoor
