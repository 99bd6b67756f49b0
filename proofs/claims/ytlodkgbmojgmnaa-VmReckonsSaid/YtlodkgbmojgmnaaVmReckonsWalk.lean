/- The walk of VmReckons: it returns true; of what was there nothing has turned. No condition. -/
import Derived.Test.YtlodkgbmojgmnaaVmAwake
import Derived.Test.YtlodkgbmojgmnaaVmReckPlain
import Derived.Test.YtlodkgbmojgmnaaLawClose
import Derived.StillTailTactics
namespace Go.Proofs.Ytlodkgbmojgmnaa
open Go.RowKit
set_option linter.unusedVariables false
set_option linter.unusedSimpArgs false

/-- The instructions, one behind the other; the registers behind i of them. -/
def reC (m : Int) : List Inst := [⟨3, 3, 1, 2, 0, 0, 0⟩, ⟨4, 3, 3, 2, 0, 0, 0⟩, ⟨7, 4, 1, 2, 0, 0, 0⟩, ⟨7, 4, 4, 2, 0, 0, 0⟩, ⟨11, 5, 1, 2, 0, 0, 0⟩, ⟨11, 6, 2, 1, 0, 0, 0⟩, ⟨10, 7, 1, 2, 0, 0, 0⟩, ⟨5, 8, 1, 2, 0, 0, 0⟩, ⟨6, 9, 1, 2, 0, 0, 0⟩, ⟨8, 10, 1, 2, 0, 0, 0⟩, ⟨8, 11, 1, -1, m, 0, 0⟩, ⟨9, 12, 1, 2, 0, 0, 0⟩]
def reV (r : List Int) (x : Inst) : List Int := r.set x.a.toNat (resP x.op x.v (regV ⟨0, r, []⟩ x.b) (valP ⟨0, r, []⟩ x))
def reR (a b m : Int) : Nat → List Int
  | 0 => ((List.replicate 32 0).set 1 a).set 2 b
  | i + 1 => reV (reR a b m i) ((reC m).getD i inst0)
theorem re_at (m : Int) (i : Nat) (hi : i < 12) : okB ((reC m).getD i inst0) 1 = true ∧ (1 ≤ ((reC m).getD i inst0).op ∧ ((reC m).getD i inst0).op ≤ 11) ∧ ∃ r : Nat, ((reC m).getD i inst0).a = r ∧ r < 32 := by
  have k : ∀ (x : Inst), okB x 1 = true → (1 ≤ x.op ∧ x.op ≤ 11) → (∃ r : Nat, x.a = r ∧ r < 32) → okB x 1 = true ∧ (1 ≤ x.op ∧ x.op ≤ 11) ∧ ∃ r : Nat, x.a = r ∧ r < 32 := fun x a b c => ⟨a, b, c⟩
  match i, hi with
  | 0, _ => exact k _ (by kernel_rfl) (by simp [reC]) ⟨3, rfl, by decide⟩
  | 1, _ => exact k _ (by kernel_rfl) (by simp [reC]) ⟨3, rfl, by decide⟩
  | 2, _ => exact k _ (by kernel_rfl) (by simp [reC]) ⟨4, rfl, by decide⟩
  | 3, _ => exact k _ (by kernel_rfl) (by simp [reC]) ⟨4, rfl, by decide⟩
  | 4, _ => exact k _ (by kernel_rfl) (by simp [reC]) ⟨5, rfl, by decide⟩
  | 5, _ => exact k _ (by kernel_rfl) (by simp [reC]) ⟨6, rfl, by decide⟩
  | 6, _ => exact k _ (by kernel_rfl) (by simp [reC]) ⟨7, rfl, by decide⟩
  | 7, _ => exact k _ (by kernel_rfl) (by simp [reC]) ⟨8, rfl, by decide⟩
  | 8, _ => exact k _ (by kernel_rfl) (by simp [reC]) ⟨9, rfl, by decide⟩
  | 9, _ => exact k _ (by kernel_rfl) (by simp [reC]) ⟨10, rfl, by decide⟩
  | 10, _ => exact k _ (by rw [ok_eq]; simp [reC, fieldA, fieldB, fieldC, fieldV, usesV, shapeOf, shpTab, regB]) (by simp [reC]) ⟨11, rfl, by decide⟩
  | 11, _ => exact k _ (by kernel_rfl) (by simp [reC]) ⟨12, rfl, by decide⟩
theorem re_v (m : Int) (h0 : 0 ≤ m) (h1 : m ≤ 63) (i : Nat) (hi : i < 12) : InsOk ((reC m).getD i inst0) := by
  match i, hi with
  | 10, _ => exact ⟨h0, by show m ≤ _; omega⟩
  | 0, _ | 1, _ | 2, _ | 3, _ | 4, _ | 5, _ | 6, _ | 7, _ | 8, _ | 9, _ | 11, _ => exact ⟨by simp [reC], by simp [reC]⟩
/-- What one leaves. -/
def OnePost (b : Nat) (N : List Nat) (f : Frm) (w : World) (e : Ending) (w' : World) : Prop := e = .returned (.bool true) ∧ FrameAt w' b N f ∧ Only [b] w w'

set_option maxHeartbeats 4000000 in
set_option maxRecDepth 100000 in
theorem one_any {w : World} {b : Nat} {f : Frm} {A : Option Addr} {cap : Nat} (h : FrameIn w b [] f A cap) (ho : FrmOk f) (op b' c v : Int) (r : Nat) (hr2 : r < 32) (hx : okB ⟨op, r, b', c, v, 0, 0⟩ 1 = true) (hop : 1 ≤ op ∧ op ≤ 11) (v0 : 0 ≤ v) (v1 : v ≤ 18446744073709551615) :
    Calls Try.prog 13 #[.pointer (some ⟨b, 0, none⟩), .agg #[.int .i64 op, .int .i64 r, .int .i64 b', .int .i64 c, .int .u64 v, .int .i64 0, .int .i64 0]] w
      (OnePost b [] ⟨1, f.r.set r (resP op v (regV f b') (valP f ⟨op, r, b', c, v, 0, 0⟩)), f.back⟩ w) := by
  have hlt := h.top.lt
  obtain ⟨w1, hw1⟩ : ∃ w1, w1 = w.alloc (.cells #[.int .i64 op, .int .i64 r, .int .i64 b', .int .i64 c, .int .u64 v, .int .i64 0, .int .i64 0] 24) := ⟨_, rfl⟩
  obtain ⟨X, hX⟩ : ∃ X, X = w.heap.size := ⟨_, rfl⟩
  have I1 := IBox.new w op r b' c v 0 0
  rw [← hw1, ← hX] at I1
  have F1 := h.below I1.b
  have c0 := F1.pc
  have z0 := F1.free 0 (by omega)
  have F2 := F1.setPc 0
  have X2 := I1.r.other ⟨b, 0, none⟩ (by have := I1.x; simp; omega) (.int .i64 0)
  obtain ⟨w2, hw2⟩ : ∃ w2, w2 = w1.setCell ⟨b, 0, none⟩ (.int .i64 0) := ⟨_, rfl⟩
  rw [← hw2] at F2 X2
  have O2 : Only [b] w w2 := by rw [hw2]; exact (went_below I1.b).setCell (Or.inl (by simp)) _
  obtain ⟨w3, hw3⟩ : ∃ w3, w3 = w2.alloc (.cells (flatIns [⟨op, r, b', c, v, 0, 0⟩]).toArray 24) := ⟨_, rfl⟩
  obtain ⟨g, hg⟩ : ∃ g, g = w2.heap.size := ⟨_, rfl⟩
  have C3 : InsIn w3 (some ⟨g, 0, none⟩) [⟨op, r, b', c, v, 0, 0⟩] := by rw [hw3, hg]; exact insIn_new w2 _ _
  have B3 : Below w2.heap.size w2 w3 := by rw [hw3]; exact (Below.refl _ _).alloc (Nat.le_refl _) _
  have ST := Lib.hid (step_set (k := 0) (⟨F2.below B3, ⟨ho.r0, ho.r1, ho.bl⟩, C3, rfl, by simp, by simp, rfl, ⟨v0, v1⟩⟩ : StepIn w3 b [] ⟨0, f.r, f.back⟩ A cap (some ⟨g, 0, none⟩) [⟨op, r, b', c, v, 0, 0⟩] 0 ⟨op, r, b', c, v, 0, 0⟩) hx 1 .nilIface hr2 hop)
  have O3 := Lib.hid (O2.trans (went_below B3))
  have e1 : regV (⟨0, f.r, f.back⟩ : Frm) b' = regV f b' := rfl
  have e2 : valP (⟨0, f.r, f.back⟩ : Frm) ⟨op, r, b', c, v, 0, 0⟩ = valP f ⟨op, r, b', c, v, 0, 0⟩ := rfl
  rw [e1, e2] at ST
  obtain ⟨y, hy⟩ : ∃ y, y = resP op v (regV f b') (valP f ⟨op, r, b', c, v, 0, 0⟩) := ⟨_, rfl⟩
  rw [← hy] at ST ⊢
  have x0 := X2.cell 0 (by simp)
  have x1 := X2.cell 1 (by simp)
  have x2 := X2.cell 2 (by simp)
  have x3 := X2.cell 3 (by simp)
  have x4 := X2.cell 4 (by simp)
  have x5 := X2.cell 5 (by simp)
  have x6 := X2.cell 6 (by simp)
  simp only [List.getElem_cons_zero, List.getElem_cons_succ] at x0 x1 x2 x3 x4 x5 x6
  have q1 := err_eql_nil
  have HW1 := Lib.hid hw1
  have HX := Lib.hid hX
  have HW2 := Lib.hid hw2
  have HW3 := Lib.hid (show w3 = w2.alloc (.cells #[.int .i64 op, .int .i64 r, .int .i64 b', .int .i64 c, .int .u64 v, .int .i64 0, .int .i64 0] 24) from hw3)
  have HG := Lib.hid hg
  clear h ho hx hop v0 v1 hlt I1 F1 F2 X2 O2 C3 B3 e1 e2 hy hw1 hX hw2 hw3 hg
  go_enter Try.func13, Try.ntmps13
  go_upto_region 1 with fail
  rw [← HW1.out, ← HX.out]
  go_cut [0, 3] from 7 to 22 (fun s0 s3 w' => s0 = .pointer (some ⟨b, 0, none⟩) ∧ s3 = .pointer (some ⟨X, 0, none⟩) ∧ w2 = w')
  case first =>
    go_wp2_with fail
    go_meet
    exact ⟨rfl, rfl, HW2.out⟩
  case rest =>
  obtain ⟨rfl, rfl, rfl⟩ := hcut
  clear c0 z0 HW1 HW2 HX
  go_wp2_with fail
  rw [← HW3.out, ← HG.out]
  go_at_call 15
  refine ST.out.mono ?_
  rintro e w4 ⟨rfl, hf, ho4⟩
  have K1 := Lib.hid hf
  have K2 := Lib.hid (O3.out.trans ho4)
  clear hf ho4
  go_wp2_with fail
  go_ret
  exact ⟨rfl, K1.out, K2.out⟩
theorem reR_ok (a b m : Int) (a0 : 0 ≤ a) (a1 : a ≤ 18446744073709551615) (b0 : 0 ≤ b) (b1 : b ≤ 18446744073709551615) (m0 : 0 ≤ m) (m1 : m ≤ 63) (pc : Int) : ∀ i, i ≤ 12 → FrmOk ⟨pc, reR a b m i, []⟩
  | 0, _ => frmOk_of_all (by simp [reR, a0, a1, b0, b1, List.replicate]) (by simp)
  | i + 1, h => by
    have ih := reR_ok a b m a0 a1 b0 b1 m0 m1 0 i (by omega)
    obtain ⟨h1, h2, r, h3, h4⟩ := re_at m i (by omega)
    have hv := re_v m m0 m1 i (by omega)
    generalize hx : (reC m).getD i inst0 = x at h1 h2 h3 hv
    have y := ih.regV x.b
    have z := ih.val (x := x) hv.1 hv.2
    have k := resP_range x.op x.v _ _ h2 hv.1 hv.2 y.1 y.2 z.1 z.2
    show FrmOk ⟨pc, reV (reR a b m i) ((reC m).getD i inst0), []⟩
    rw [hx]
    exact ih.setReg x.a.toNat _ k.1 k.2 pc
theorem re_one {w : World} {b : Nat} {A : Option Addr} {cap : Nat} (x y m pc : Int) (x0 : 0 ≤ x) (x1 : x ≤ 18446744073709551615) (y0 : 0 ≤ y) (y1 : y ≤ 18446744073709551615) (m0 : 0 ≤ m) (m1 : m ≤ 63) (i : Nat) (hi : i < 12) (h : FrameIn w b [] ⟨pc, reR x y m i, []⟩ A cap) :
    Calls Try.prog 13 #[.pointer (some ⟨b, 0, none⟩), .agg #[.int .i64 ((reC m).getD i inst0).op, .int .i64 ((reC m).getD i inst0).a, .int .i64 ((reC m).getD i inst0).b, .int .i64 ((reC m).getD i inst0).c, .int .u64 ((reC m).getD i inst0).v, .int .i64 ((reC m).getD i inst0).m, .int .i64 ((reC m).getD i inst0).wh]] w
      (OnePost b [] ⟨1, reR x y m (i + 1), []⟩ w) := by
  obtain ⟨h1, h2, r, h3, h4⟩ := re_at m i hi
  have hv := re_v m m0 m1 i hi
  have e : reR x y m (i + 1) = reV (reR x y m i) ((reC m).getD i inst0) := rfl
  have hmw : ((reC m).getD i inst0).m = 0 ∧ ((reC m).getD i inst0).wh = 0 := by
    match i, hi with
    | 0, _ | 1, _ | 2, _ | 3, _ | 4, _ | 5, _ | 6, _ | 7, _ | 8, _ | 9, _ | 10, _ | 11, _ => exact ⟨rfl, rfl⟩
  rw [e]
  generalize (reC m).getD i inst0 = q at h1 h2 h3 hv hmw
  obtain ⟨op, a, b', c, v, mm, wh⟩ := q
  obtain ⟨hm, hw⟩ := hmw
  simp only at hm hw h3 h2 hv
  subst hm; subst hw; subst h3
  exact one_any h (reR_ok x y m x0 x1 y0 y1 m0 m1 pc i (by omega)) op b' c v r h4 h1 h2 hv.1 hv.2
theorem re_lit (m : Int) : (flatIns (reC m)).toArray = #[.int .i64 3, .int .i64 3, .int .i64 1, .int .i64 2, .int .u64 0, .int .i64 0, .int .i64 0, .int .i64 4, .int .i64 3, .int .i64 3, .int .i64 2, .int .u64 0, .int .i64 0, .int .i64 0, .int .i64 7, .int .i64 4, .int .i64 1, .int .i64 2, .int .u64 0, .int .i64 0, .int .i64 0, .int .i64 7, .int .i64 4, .int .i64 4, .int .i64 2, .int .u64 0, .int .i64 0, .int .i64 0, .int .i64 11, .int .i64 5, .int .i64 1, .int .i64 2, .int .u64 0, .int .i64 0, .int .i64 0, .int .i64 11, .int .i64 6, .int .i64 2, .int .i64 1, .int .u64 0, .int .i64 0, .int .i64 0, .int .i64 10, .int .i64 7, .int .i64 1, .int .i64 2, .int .u64 0, .int .i64 0, .int .i64 0, .int .i64 5, .int .i64 8, .int .i64 1, .int .i64 2, .int .u64 0, .int .i64 0, .int .i64 0, .int .i64 6, .int .i64 9, .int .i64 1, .int .i64 2, .int .u64 0, .int .i64 0, .int .i64 0, .int .i64 8, .int .i64 10, .int .i64 1, .int .i64 2, .int .u64 0, .int .i64 0, .int .i64 0, .int .i64 8, .int .i64 11, .int .i64 1, .int .i64 (-1), .int .u64 m, .int .i64 0, .int .i64 0, .int .i64 9, .int .i64 12, .int .i64 1, .int .i64 2, .int .u64 0, .int .i64 0, .int .i64 0] := by kernel_rfl
theorem re_regs (a b m : Int) : reR a b m 12 = [0, a, b, resP 4 0 (resP 3 0 a b) b, resP 7 0 (resP 7 0 a b) b, resP 11 0 a b, resP 11 0 b a, resP 10 0 a b, resP 5 0 a b, resP 6 0 a b, resP 8 0 a b, resP 8 m a m, resP 9 0 a b, 0, 0, 0, 0, 0, 0, 0, 0, 0, 0, 0, 0, 0, 0, 0, 0, 0, 0, 0] := by kernel_rfl

set_option maxHeartbeats 8000000 in
set_option maxRecDepth 100000 in
theorem vmReckons_walk (a b : Int) (wa : (Lit.int .u64 a).wf = true) (wb : (Lit.int .u64 b).wf = true) (w : World) : Calls Try.prog 4 #[.int .u64 a, .int .u64 b] w fun e w' => e = .returned (.bool true) ∧ Below w.heap.size w w' := by
  obtain ⟨a0, a1⟩ := u64_wf wa
  obtain ⟨b0, b1⟩ := u64_wf wb
  obtain ⟨m, hm⟩ : ∃ m, m = b % 64 := ⟨_, rfl⟩
  have m0 : 0 ≤ m := by omega
  have m1 : m ≤ 63 := by omega
  have HM := Lib.hid hm
  obtain ⟨f, hf⟩ : ∃ f, f = w.heap.size := ⟨_, rfl⟩
  obtain ⟨w1, hw1⟩ : ∃ w1, w1 = w.alloc (.cells (emptyCs 0).toArray 35) := ⟨_, rfl⟩
  have F1 : FrameIn w1 f [] ⟨0, List.replicate 32 0, []⟩ none 0 := by rw [hw1]; exact frame_empty w f [] 0 _ hf
  have B1 : Below w.heap.size w w1 := by rw [hw1]; exact (Below.refl _ _).alloc (Nat.le_refl _) _
  have c1 := F1.reg 1 (by decide)
  have c2 := F1.reg 2 (by decide)
  have z1 := F1.free (1 + 1) (by decide)
  have z2 := F1.free (1 + 2) (by decide)
  have D1 := Lib.hid (show FrameIn ((w1.setCell ⟨f, 1 + 1, none⟩ (.int .u64 a)).setCell ⟨f, 1 + 2, none⟩ (.int .u64 b)) f [] ⟨0, reR a b m 0, []⟩ none 0 from (F1.setReg 1 (by decide) a).setReg 2 (by decide) b)
  have D2 := Lib.hid ((B1.setCell (p := ⟨f, 1 + 1, none⟩) (Nat.le_of_eq hf.symm) (.int .u64 a)).setCell (p := ⟨f, 1 + 2, none⟩) (Nat.le_of_eq hf.symm) (.int .u64 b))
  simp only [Nat.reduceAdd] at c1 c2 z1 z2
  have HW1 := Lib.hid hw1
  have HF := Lib.hid hf
  clear wa wb F1 B1 hw1 hf hm
  go_enter Try.func4, Try.ntmps4
  go_upto_region 1 with fail
  go_cut [0, 1, 5] from 5 to 126 (fun s0 s1 s5 w' => s0 = .int .u64 a ∧ s1 = .int .u64 b ∧ s5 = .pointer (some ⟨f, 0, none⟩) ∧ w1 = w')
  case first =>
    go_wp2_with fail
    go_meet
    exact ⟨rfl, rfl, by rw [HF.out], HW1.out⟩
  case rest =>
  obtain ⟨rfl, rfl, rfl, rfl⟩ := hcut
  clear HW1
  go_upto_region 2 with fail
  go_cut [0, 1, 5] from 10 to 126 (fun s0 s1 s5 w' => s0 = .int .u64 a ∧ s1 = .int .u64 b ∧ s5 = .pointer (some ⟨f, 0, none⟩) ∧ FrameIn w' f [] ⟨0, reR a b m 0, []⟩ none 0 ∧ Below w.heap.size w w')
  case first =>
    go_region
    go_wp2_with fail
    go_meet
    exact ⟨rfl, rfl, rfl, D1.out.drewN 1, D2.out.drew⟩
  case rest =>
  obtain ⟨rfl, rfl, rfl, F2, B2⟩ := hcut
  clear c1 c2 z1 z2 D1 D2
  obtain ⟨w3, hw3⟩ : ∃ w3, w3 = wc.alloc (.cells (flatIns (reC m)).toArray 24) := ⟨_, rfl⟩
  obtain ⟨g, hg⟩ : ∃ g, g = wc.heap.size := ⟨_, rfl⟩
  have C3 := Lib.hid (show InsIn w3 (some ⟨g, 0, none⟩) (reC m) by rw [hw3, hg]; exact insIn_new wc _ _)
  have B3 : Below wc.heap.size wc w3 := by rw [hw3]; exact (Below.refl _ _).alloc (Nat.le_refl _) _
  have F3 := Lib.hid (F2.below B3)
  have HB3 := Lib.hid (B2.trans (B3.mono B2.size))
  have HFG := Lib.hid (show f < g by rw [hg]; exact F2.top.lt)
  have HW3 := Lib.hid hw3
  have HG := Lib.hid hg
  have hmb : b % 64 = m := HM.out.symm
  clear F2 B2 hw3 hg B3
  go_upto_region 3 with fail
  go_cut [0, 1, 5, 34, 35, 36] from 20 to 126 (fun s0 s1 s5 s34 s35 s36 w' => s0 = .int .u64 a ∧ s1 = .int .u64 b ∧ s5 = .pointer (some ⟨f, 0, none⟩) ∧ s34 = .slice (some ⟨g, 0, none⟩) 12 12 ∧ s35 = .int .i64 12 ∧ s36 = .int .i64 0 ∧ w3 = w')
  case first =>
    go_wp2_with fail
    go_meet
    exact ⟨rfl, rfl, rfl, by rw [HG.out], rfl, rfl, by rw [HW3.out, re_lit]⟩
  case rest =>
  obtain ⟨rfl, rfl, rfl, rfl, rfl, rfl, rfl⟩ := hcut
  clear HW3
  go_wp2_with fail
  go_loopw [36] (fun vi wr => ∃ (i : Nat) (pc : Int), i ≤ 12 ∧ vi = .int .i64 i ∧ FrameAt wr f [] ⟨pc, reR a b m i, []⟩ ∧ InsIn wr (some ⟨g, 0, none⟩) (reC m) ∧ Below w.heap.size w wr) (fun vi _ => 12 - (intOf vi).toNat)
  case atStart => exact ⟨0, 0, by omega, rfl, ⟨_, _, F3.out⟩, C3.out, HB3.out⟩
  case round =>
    obtain ⟨i, pc, hi, rfl, ⟨A, cap, hf⟩, hc, hbl⟩ := hrel
    by_cases hlt : i < 12
    · obtain ⟨p, e', hp, c0, c1, c2, c3, c4, c5, c6⟩ := hc i hlt
      obtain rfl : (⟨g, 0, none⟩ : Addr) = p := Option.some.inj e'
      have BB := (Below.refl wr.heap.size wr).alloc (Nat.le_refl _) (.cells #[.int .i64 ((reC m).getD i inst0).op, .int .i64 ((reC m).getD i inst0).a, .int .i64 ((reC m).getD i inst0).b, .int .i64 ((reC m).getD i inst0).c, .int .u64 ((reC m).getD i inst0).v, .int .i64 ((reC m).getD i inst0).m, .int .i64 ((reC m).getD i inst0).wh] 24)
      have ON := Lib.hid (re_one a b m pc a0 a1 b0 b1 m0 m1 i hlt (hf.below BB))
      have K3 := Lib.hid (hc.below BB)
      have K4 := Lib.hid (hbl.trans (BB.mono hbl.size))
      have hlt2 : (i : Int) < 12 := by omega
      have ea : (⟨g, 0, none⟩ : Addr).add (i * 7) = ⟨g, i * 7, none⟩ := by
        unfold Addr.add; split
        · rename_i h0; rw [h0]
        · simp
      have pb : g < wr.heap.size := hp
      rw [ea] at c0 c1 c2 c3 c4 c5 c6
      simp only at c0 c1 c2 c3 c4 c5 c6
      generalize (reC m).getD i inst0 = x at c0 c1 c2 c3 c4 c5 c6 ON K3 K4
      clear hf hc hbl BB e' hp ea
      go_wp2_with fail
      go_at_call 13
      refine ON.out.mono ?_
      rintro e w4 ⟨rfl, hf, ho⟩
      have J1 := Lib.hid hf
      have J3 := Lib.hid (K3.out.only ho (fun a h => by cases h; have := HFG.out; simp; omega))
      have J4 := Lib.hid (K4.out.trans (ho.below (B := w.heap.size) (by have := HF.out; simp; omega) K4.out.size))
      clear hf ho ON K3 K4 c0 c1 c2 c3 c4 c5 c6 pb
      go_wp2_with fail
      go_roundw
      case rel => exact ⟨i + 1, 1, by omega, by go_num, J1.out, J3.out, J4.out⟩
      case measure => simp [intOf]; omega
    · obtain rfl : i = 12 := by omega
      rw [re_regs] at hf
      have d3 := hf.reg 3 (by decide)
      have d4 := hf.reg 4 (by decide)
      have d5 := hf.reg 5 (by decide)
      have d6 := hf.reg 6 (by decide)
      have d7 := hf.reg 7 (by decide)
      have d8 := hf.reg 8 (by decide)
      have d9 := hf.reg 9 (by decide)
      have d10 := hf.reg 10 (by decide)
      have d11 := hf.reg 11 (by decide)
      have d12 := hf.reg 12 (by decide)
      simp only [List.getD_cons_succ, List.getD_cons_zero, Nat.reduceAdd] at d3 d4 d5 d6 d7 d8 d9 d10 d11 d12
      rw [re_sum a b a0 a1] at d3
      rw [re_xor a b a0 a1 b0 b1] at d4
      rw [HM.out, re_shl a b _ b0 b1] at d11
      rw [re_shr a b b0 b1, ← HM.out] at d12
      have h567 := re_less a b
      have h89 := re_bits a b a0 a1 b0 b1
      have v0 : (0 : Int) ≤ 0 := Int.le_refl 0
      have v1 : (0 : Int) ≤ 18446744073709551615 := by omega
      have g5 := resP_range 11 0 a b (by omega) v0 v1 a0 a1 b0 b1
      have g6 := resP_range 11 0 b a (by omega) v0 v1 b0 b1 a0 a1
      have g7 := resP_range 10 0 a b (by omega) v0 v1 a0 a1 b0 b1
      have g8 := resP_range 5 0 a b (by omega) v0 v1 a0 a1 b0 b1
      have g9 := resP_range 6 0 a b (by omega) v0 v1 a0 a1 b0 b1
      obtain ⟨t5, ht5⟩ : ∃ t, t = resP 11 0 a b := ⟨_, rfl⟩
      obtain ⟨t6, ht6⟩ : ∃ t, t = resP 11 0 b a := ⟨_, rfl⟩
      obtain ⟨t7, ht7⟩ : ∃ t, t = resP 10 0 a b := ⟨_, rfl⟩
      obtain ⟨t8, ht8⟩ : ∃ t, t = resP 5 0 a b := ⟨_, rfl⟩
      obtain ⟨t9, ht9⟩ : ∃ t, t = resP 6 0 a b := ⟨_, rfl⟩
      obtain ⟨t10, ht10⟩ : ∃ t, t = resP 8 0 a b := ⟨_, rfl⟩
      rw [← ht5] at d5 h567 g5
      rw [← ht6] at d6 h567 g6
      rw [← ht7] at d7 h567 g7
      rw [← ht8] at d8 h89 g8
      rw [← ht9] at d9 h89 g9
      rw [← ht10] at d10 d11
      obtain ⟨k, rfl⟩ : ∃ k : Nat, m = k := ⟨m.toNat, by omega⟩
      have hk : k < 64 := by omega
      rw [show ((k : Int)).toNat = k by omega] at d12
      have HB := Lib.hid hbl
      have AW := Lib.hid (vawake_any wr)
      clear hf hc hbl ht5 ht6 ht7 ht8 ht9 ht10 hlt HM
      obtain ⟨g50, g51⟩ := g5
      obtain ⟨g60, g61⟩ := g6
      obtain ⟨g70, g71⟩ := g7
      obtain ⟨g80, g81⟩ := g8
      obtain ⟨g90, g91⟩ := g9
      obtain ⟨P, hP⟩ : ∃ P : Int, P = 2 ^ k := ⟨_, rfl⟩
      have hP0 : 0 < P := by rw [hP]; exact Int.pow_pos (by decide)
      have hP1 : P ≤ 9223372036854775808 := by
        rw [hP]
        have h2 : (2 : Nat) ^ k ≤ 2 ^ 63 := Nat.pow_le_pow_right (by decide) (by omega)
        have h3 : ((2 ^ k : Nat) : Int) ≤ ((2 ^ 63 : Nat) : Int) := Int.ofNat_le.2 h2
        simpa using h3
      obtain ⟨Q, hQ⟩ : ∃ Q : Int, Q = a / P := ⟨_, rfl⟩
      rw [← hP, ← hQ] at d12
      have hQ0 : 0 ≤ Q := by rw [hQ]; exact Int.ediv_nonneg a0 (Int.le_of_lt hP0)
      have hQ1 : Q ≤ 18446744073709551615 := by rw [hQ]; exact Int.le_trans (Int.ediv_le_self _ a0) a1
      obtain ⟨Z, hZ⟩ : ∃ Z, Z = (a + b) % 18446744073709551616 := ⟨_, rfl⟩
      obtain ⟨S56, hS⟩ : ∃ S, S = t5 + t6 := ⟨_, rfl⟩
      have w56 : IntKind.u64.wrap (t5 + t6) = S56 := by rw [hS, IntKind.wrap_u64]; omega
      have w567 : IntKind.u64.wrap (S56 + t7) = 1 := by rw [hS, IntKind.wrap_u64]; omega
      have w89 : IntKind.u64.wrap (t8 + t9) = Z := by rw [hZ, IntKind.wrap_u64, h89]
      have wab : IntKind.u64.wrap (a + b) = Z := by rw [hZ, IntKind.wrap_u64]
      have wt : b.tmod 64 = k := by rw [Int.tmod_eq_emod_of_nonneg b0]; exact hmb
      have wk : IntKind.u64.wrap (k : Int) = k := by rw [IntKind.wrap_u64]; omega
      have wD : IntKind.u64.wrap (2 ^ min k 64) = P := by rw [IntKind.wrap_u64, Nat.min_eq_left (by omega), ← hP]; omega
      have wD2 : IntKind.u64.wrap (2 ^ k) = P := by rw [IntKind.wrap_u64, ← hP]; omega
      have wq : a.tdiv P = Q := by rw [Int.tdiv_eq_ediv_of_nonneg a0]; exact hQ.symm
      have wq2 : IntKind.u64.wrap Q = Q := by rw [IntKind.wrap_u64]; omega
      have hPz : ¬ P = 0 := by omega
      have hPz2 : (P == 0) = false := by simp [hPz]
      have HQ := Lib.hid hQ
      clear hP hQ hZ hS h567 h89 hP0 hP1 hQ0 hQ1 g50 g51 g60 g61 g70 g71 g80 g81 g90 g91 v0 v1 HQ
      go_wp2_with fail
      simp only [List.append_eq, List.cons_append, List.nil_append]
      go_still_tail 80, (by kernel_rfl)
      change wpList _ _ _ _ _ wr.drew
      generalize hw5 : wr.drew = w5
      have HB5 := Lib.hid (show Below w.heap.size w w5 by rw [← hw5]; exact HB.out.drew)
      clear hw5
      go_wp2_with fail
      go_at_call 12
      refine (vawake_any _).mono ?_
      rintro e w6 ⟨rfl, hb6⟩
      have HB6 := Lib.hid (HB5.out.trans (hb6.mono HB5.out.size))
      clear hb6
      go_wp2_with fail
      go_ret
      exact ⟨rfl, HB6.out⟩
end Go.Proofs.Ytlodkgbmojgmnaa
