/- What an instruction makes of a frame's registers (layer 6): contracts of result, jumps and copied. The conditions: the frame lies there; what it holds are words. -/
import Derived.Test.YtobbmhboahognaaDoorVmFrame
import Derived.Test.YtobbmhboahognaaDoorLess
import Derived.Deep.RegionHeld3
import Derived.Deep.AppendSrc
import Derived.Deep.Upon
import Derived.Deep.CutRange
import Derived.Deep.DeepCutAuto
import Derived.Deep.CutBlock
import Derived.Deep.Light
import Derived.Lib.AppendZeros
namespace Go.Proofs.YtobbmhboahognaaDoor
open Go.RowKit
set_option linter.unusedVariables false

set_option maxHeartbeats 400000 in
theorem truth_any (q : Bool) (w : World) : Calls Tryd.prog 77 #[.bool q] w fun e w' => e = .returned (.int .u64 (truthP q)) ∧ w = w' := by
  cases q
  all_goals
    go_enter Tryd.func77, Tryd.ntmps77
    go_wp2
    go_ret
    exact ⟨rfl, rfl⟩

section
variable {w : World} {b : Nat} {N : List Nat} {f : Frm} {A : Option Addr} {cap : Nat}
/-- The registers' call and the value's, whichever comes first. -/
theorem six_wrap (c : Int) : bits .and .u64 c 63 = six c := rfl
theorem lss_wide (c : Int) : lss 64 0 c = (0 - c) % 18446744073709551616 := by unfold lss; rfl
theorem sub_wide (a c : Int) : summ 64 a ((0 - c) % 18446744073709551616) = (a - c) % 18446744073709551616 := by
  rw [summ_wide]; omega

/-- The box of an instruction beside the frame, in a world of which nothing that was in w has turned. -/
structure RBox (w W : World) (X b : Nat) (N : List Nat) (f : Frm) (A : Option Addr) (cap : Nat) (op a' b' c v m wh : Int) : Prop where
  x : IBox w W X op a' b' c v m wh
  f : FrameIn W b N f A cap
theorem RBox.below {W W' : World} {X : Nat} {op a' b' c v m wh : Int} (h : RBox w W X b N f A cap op a' b' c v m wh) (hb : Below W.heap.size W W') : RBox w W' X b N f A cap op a' b' c v m wh :=
  ⟨⟨h.x.r.below hb h.x.r.lt, h.x.b.trans (hb.mono h.x.b.size), h.x.x⟩, h.f.below hb⟩
theorem RBox.new (h : FrameIn w b N f A cap) (op a' b' c v m wh : Int) : RBox w (w.alloc (.cells #[.int .i64 op, .int .i64 a', .int .i64 b', .int .i64 c, .int .u64 v, .int .i64 m, .int .i64 wh] 52)) w.heap.size b N f A cap op a' b' c v m wh :=
  ⟨IBox.new w op a' b' c v m wh, h.below ((Below.refl _ _).alloc (Nat.le_refl _) _)⟩
theorem RBox.drew {W : World} {X : Nat} {op a' b' c v m wh : Int} (h : RBox w W X b N f A cap op a' b' c v m wh) : RBox w W.drew X b N f A cap op a' b' c v m wh := h.below (Below.refl _ _).drew

theorem ret_word {a c : Int} (h : a = c) : Ending.returned (.int .u64 a) = .returned (.int .u64 c) := by rw [h]
theorem res1 (v y z : Int) : resP 1 v y z = v := by simp [resP]
theorem res2 (v y z : Int) : resP 2 v y z = y := by simp [resP]
theorem res3 (v y z : Int) : resP 3 v y z = summ 64 y z := by rw [summ_wide]; simp [resP]
theorem res4 (v y z : Int) : resP 4 v y z = summ 64 y (lss 64 0 z) := by rw [lss_wide, sub_wide]; simp [resP]
theorem res5 (v y z : Int) : resP 5 v y z = bits .and .u64 y z := by simp [resP]
theorem res6 (v y z : Int) : resP 6 v y z = bits .or .u64 y z := by simp [resP]
theorem res7 (v y z : Int) : resP 7 v y z = bits .xor .u64 y z := by simp [resP]
theorem res8 (v y z : Int) : resP 8 v y z = IntKind.u64.wrap (y * 2 ^ min (six z).toNat 64) := by simp [resP]
theorem res9 (v y z : Int) : resP 9 v y z = y / 2 ^ min (six z).toNat 64 := by simp [resP]
theorem res10 (v y z : Int) : resP 10 v y z = truthP (y == z) := by simp [resP]
theorem res11 (v y z : Int) : resP 11 v y z = truthP (decide (y < z)) := by simp [resP]

set_option maxHeartbeats 4000000 in
set_option maxRecDepth 100000 in
theorem result_any (h : FrameIn w b N f A cap) (ho : FrmOk f) (op a' b' c v m wh : Int) (hop : 1 ≤ op ∧ op ≤ 11) (v0 : 0 ≤ v) (v1 : v ≤ 18446744073709551615) :
    Calls Tryd.prog 46 #[.pointer (some ⟨b, 0, none⟩), .agg #[.int .i64 op, .int .i64 a', .int .i64 b', .int .i64 c, .int .u64 v, .int .i64 m, .int .i64 wh]] w (WordPost (resP op v (regV f b') (valP f ⟨op, a', b', c, v, m, wh⟩)) w) := by
  obtain ⟨y0, y1⟩ := ho.regV b'
  obtain ⟨z0, z1⟩ := ho.val (x := ⟨op, a', b', c, v, m, wh⟩) v0 v1
  have R0 := RBox.new h op a' b' c v m wh
  obtain ⟨W, hW⟩ : ∃ W, W = w.alloc (.cells #[.int .i64 op, .int .i64 a', .int .i64 b', .int .i64 c, .int .u64 v, .int .i64 m, .int .i64 wh] 52) := ⟨_, rfl⟩
  obtain ⟨X, hX⟩ : ∃ X, X = w.heap.size := ⟨_, rfl⟩
  rw [← hW, ← hX] at R0
  have RG := Lib.hid (fun V (hV : RBox w V X b N f A cap op a' b' c v m wh) => register_any hV.f b')
  have VL := Lib.hid (fun V (hV : RBox w V X b N f A cap op a' b' c v m wh) => (value_any hV.f op a' b' c v m wh).mono fun e w' hp => (⟨hp.1, hV.below hp.2⟩ : e = .returned (.int .u64 (valP f ⟨op, a', b', c, v, m, wh⟩)) ∧ RBox w w' X b N f A cap op a' b' c v m wh))
  generalize valP f ⟨op, a', b', c, v, m, wh⟩ = z at VL z0 z1 ⊢
  generalize regV f b' = y at RG y0 y1 ⊢
  obtain ⟨x0, x1, x2, x3, x4, x5, x6⟩ := R0.x.cells
  have s0 := (six_range z z0 z1).1
  have SM := Lib.hid (fun V => sum_any 64 y z y0 y1 z0 z1 V)
  have LS := Lib.hid (fun V => less_any 64 0 z (by omega) (by omega) z0 z1 V)
  have SM2 := Lib.hid (fun V => sum_any 64 y (lss 64 0 z) y0 y1 (lss_range 64 0 z).1 (lss_range 64 0 z).2 V)
  obtain ⟨R, hR⟩ : ∃ R, R = resP op v y z := ⟨_, rfl⟩
  rw [← hR]
  have HR := Lib.hid hR
  clear hR
  have RD : RBox w W.drew X b N f A cap op a' b' c v m wh := R0.drew
  have RR := Lib.hid R0
  clear h ho y0 y1 z0 z1 v0 v1 R0
  go_enter Tryd.func46, Tryd.ntmps46
  go_upto_region 1 with fail
  rw [← hW, ← hX]
  clear hW hX
  go_cut [3, 5, 6] from 5 to 68 (fun s3 s5 s6 w' => s3 = .pointer (some ⟨X, 0, none⟩) ∧ s5 = .int .u64 y ∧ s6 = .int .u64 z ∧ RBox w w' X b N f A cap op a' b' c v m wh)
  case first =>
    go_region_held3 (fun w' => w'.cell? ⟨X, 0, none⟩ = some (.int .i64 op) ∧ w'.cell? ⟨X, 1, none⟩ = some (.int .i64 a') ∧ w'.cell? ⟨X, 2, none⟩ = some (.int .i64 b') ∧ w'.cell? ⟨X, 3, none⟩ = some (.int .i64 c) ∧ w'.cell? ⟨X, 4, none⟩ = some (.int .u64 v) ∧ w'.cell? ⟨X, 5, none⟩ = some (.int .i64 m) ∧ w'.cell? ⟨X, 6, none⟩ = some (.int .i64 wh)) (go_keep)
      (first
        | (go_at_call 74; ((with_reducible refine (RG.out _ (by first | exact RD | exact R2)).mono ?_); rintro e w1 ⟨rfl, rfl⟩))
        | (go_at_call 73; ((with_reducible refine (VL.out _ (by first | exact RD | exact R2)).mono ?_); rintro e w1 ⟨rfl, R2⟩; obtain ⟨x0, x1, x2, x3, x4, x5, x6⟩ := R2.x.cells)))
    all_goals
      go_wp2_with fail
      go_meet
      exact ⟨rfl, rfl, rfl, R2⟩
  case rest =>
  obtain ⟨rfl, rfl, rfl, R2⟩ := hcut
  clear x0 x1 x2 x3 x4 x5 x6 RD RR RG VL
  obtain ⟨x0, x1, x2, x3, x4, x5, x6⟩ := R2.x.cells
  have FIN := Lib.hid R2.x.b
  clear R2
  have hc : op = 1 ∨ op = 2 ∨ op = 3 ∨ op = 4 ∨ op = 5 ∨ op = 6 ∨ op = 7 ∨ op = 8 ∨ op = 9 ∨ op = 10 ∨ op = 11 := by omega
  clear hop
  rcases hc with rfl | rfl | rfl | rfl | rfl | rfl | rfl | rfl | rfl | rfl | rfl
  · go_wp2_with fail
    go_ret
    exact ⟨ret_word (by rw [HR.out, res1]), FIN.out⟩
  · go_wp2_with fail
    go_ret
    exact ⟨ret_word (by rw [HR.out, res2]), FIN.out⟩
  · go_wp2_with fail
    go_at_call 76
    refine (SM.out _).mono ?_
    rintro e w' ⟨rfl, rfl⟩
    go_wp2_with fail
    go_ret
    exact ⟨ret_word (by rw [HR.out, res3]), FIN.out⟩
  · go_wp2_with fail
    go_at_call 75
    refine (LS.out _).mono ?_
    rintro e w' ⟨rfl, rfl⟩
    go_wp2_with fail
    go_at_call 76
    refine (SM2.out _).mono ?_
    rintro e w' ⟨rfl, rfl⟩
    go_wp2_with fail
    go_ret
    exact ⟨ret_word (by rw [HR.out, res4]), FIN.out⟩
  · go_wp2_with fail
    go_ret
    exact ⟨ret_word (by rw [HR.out, res5]), FIN.out⟩
  · go_wp2_with fail
    go_ret
    exact ⟨ret_word (by rw [HR.out, res6]), FIN.out⟩
  · go_wp2_with fail
    go_ret
    exact ⟨ret_word (by rw [HR.out, res7]), FIN.out⟩
  · unfold six at s0
    go_wp2_with fail
    go_ret
    exact ⟨ret_word (by rw [HR.out, res8]; rfl), FIN.out⟩
  · unfold six at s0
    go_wp2_with fail
    go_ret
    exact ⟨ret_word (by rw [HR.out, res9]; rfl), FIN.out⟩
  · go_wp2_with fail
    go_at_call 77
    refine (truth_any _ _).mono ?_
    rintro e w' ⟨rfl, rfl⟩
    go_wp2_with fail
    go_ret
    exact ⟨ret_word (by rw [HR.out, res10]), FIN.out⟩
  · go_wp2_with fail
    go_at_call 77
    refine (truth_any _ _).mono ?_
    rintro e w' ⟨rfl, rfl⟩
    go_wp2_with fail
    go_ret
    exact ⟨ret_word (by rw [HR.out, res11]), FIN.out⟩

set_option maxHeartbeats 1000000 in
/-- Does a jump go on at its target? -/
def jumpP (op y : Int) : Bool := if op = 13 then y == 0 else if op = 14 then !(y == 0) else true
theorem jumps_any (h : FrameIn w b N f A cap) (op b' c v m wh : Int) (k : Nat) (hk : k < 32) (hop : 12 ≤ op ∧ op ≤ 15) :
    Calls Tryd.prog 43 #[.pointer (some ⟨b, 0, none⟩), .agg #[.int .i64 op, .int .i64 k, .int .i64 b', .int .i64 c, .int .u64 v, .int .i64 m, .int .i64 wh]] w fun e w' => e = .returned (.bool (jumpP op (f.r.getD k 0))) ∧ Below w.heap.size w w' := by
  have R0 := RBox.new h op k b' c v m wh
  have FIN := Lib.hid R0.x.b
  have r := h.reg k hk
  have hlt := h.top.lt
  have hk' : (k : Int) < 32 := by omega
  generalize f.r.getD k 0 = y at r ⊢
  clear h R0
  have hc : op = 12 ∨ op = 13 ∨ op = 14 ∨ op = 15 := by omega
  clear hop
  rcases hc with rfl | rfl | rfl | rfl
  all_goals
    simp only [jumpP]
    go_enter Tryd.func43, Tryd.ntmps43
    go_wp2_with fail
    go_quiet (fail)
    go_wp2_with fail
    go_ret
    exact ⟨by simp, ⟨FIN.out.os, FIN.out.tape, FIN.out.output, FIN.out.size, FIN.out.block⟩⟩
end
end Go.Proofs.YtobbmhboahognaaDoor
