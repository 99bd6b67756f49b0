/- The document's queue (layer 8: in the clock): the contract of Put. The condition: fewer than 2^30 things. -/
import Derived.Test.YtobbmhboahognaaDoorClkRefB
namespace Go.Proofs.YtobbmhboahognaaDoor
open Go.RowKit
set_option linter.unusedVariables false
variable {t : Int}

set_option maxHeartbeats 4000000 in
set_option maxRecDepth 100000 in
theorem crefPut_nil {w : World} {r N : Nat} {last : Nat} (h : RefC t w r N (.slice none 0 0) [] last) (d u : Int) (hlast : last < 1073741823) :
    Calls Tryd.prog 62 #[.pointer (some ⟨r, 1, none⟩), .int .u64 d, .int .u64 u] w fun e w' => e = .returned (.int .i64 ((last : Int) + 1)) ∧ ∃ v', RefCLed t w r N (.slice none 0 0) w' v' (([] : List Itm).take (spot d []) ++ ⟨d, u, (last : Int) + 1⟩ :: ([] : List Itm).drop (spot d [])) (last + 1) := by
  have c0 := h.c0
  have c1 := h.c1
  have f1 := h.f1
  have hrl := h.top.lt
  have o1 : Only [r] w (w.setCell ⟨r, 2, none⟩ (.int .i64 ((last : Int) + 1))) := (Only.refl [r] w).setCell (p := ⟨r, 2, none⟩) (Or.inl (by simp)) _
  have hrN := h.rN
  have hq1 : RefC t (w.setCell ⟨r, 2, none⟩ (.int .i64 ((last : Int) + 1))) r N (.slice none 0 0) [] (last + 1) :=
    ⟨h.top.set 2 (by simp) (.int .i64 ((last : Int) + 1)), ownsRow_only h.row o1 (fun k hk => by have := (h.row.lt k hk).1; simp; omega), h.rN, Nat.le_trans h.NW o1.size⟩
  have hsp := spot_le d []
  have x1 : SrcT (w.setCell ⟨r, 2, none⟩ (.int .i64 ((last : Int) + 1))) (.slice none 0 0) (([] : List Itm).take (spot d [])) := .inl ⟨rfl, rfl⟩
  have x3 : SrcT (w.setCell ⟨r, 2, none⟩ (.int .i64 ((last : Int) + 1))) (.slice none 0 0) (([] : List Itm).drop (spot d [])) := .inl ⟨rfl, rfl⟩
  obtain ⟨v1, w6, v2, w8, ad, l, c, w9, r1, r2, r3, o9, b6, b8, b9, hv1, hv2⟩ := refApp3 (L := []) (spot d []) (by simp) ⟨d, u, (last : Int) + 1⟩ x1 x3
  have FIN := Lib.hid (crefLed_of (W := w) (W9 := w9) hq1 o1 h.NW o9 b9)
  have hrl1 := hq1.top.lt
  have q0 := hq1.c0
  have q6 := (b6.cell (p := ⟨r, 2, none⟩) hrl1).trans hq1.c1
  have q8 := (b8.cell (p := ⟨r, 1, none⟩) hrl1).trans hq1.c0
  have q9 : w9.frozen? ⟨r, 1, none⟩ = false := (b9.frozen (p := ⟨r, 1, none⟩) hrl1).trans hq1.f0
  have qa := (b9.cell (p := ⟨r, 1, none⟩) hrl1).trans hq1.c0
  have q60 := (b6.cell (p := ⟨r, 1, none⟩) hrl1).trans hq1.c0
  have qb := FIN.out.at1.c1
  have hr6 : r < w6.heap.size := Nat.lt_of_lt_of_le hrl1 b6.size
  obtain ⟨pv, mv, cv, rfl⟩ := hv1
  obtain ⟨pu, mu, cu, rfl⟩ := hv2
  have FIN2 := Lib.hid (show ∃ v', RefCLed t w r N _ (w9.setCell ⟨r, 1, none⟩ (.slice ad l c)) v' (([] : List Itm).take (spot d []) ++ ⟨d, u, (last : Int) + 1⟩ :: ([] : List Itm).drop (spot d [])) (last + 1) from ⟨_, FIN.out⟩)
  clear FIN
  rw [show (((last + 1 : Nat)) : Int) = (last : Int) + 1 by omega] at q6 qb
  have R1 := Lib.hid r1
  have R2 := Lib.hid r2
  have R3 := Lib.hid r3
  clear h hq1 o1 x1 x3 r1 r2 r3 o9 b6 b8 b9 hsp
  dsimp only at R2
  go_enter Tryd.func62, Tryd.ntmps62
  go_wp2
  go_loop [7] (fun vi => vi = .int .i64 0) (fun _ => 0)
  case atStart => exact rfl
  case round =>
    obtain rfl := hrel
    go_wp2_with (first
      | (at_builtin; refine Lib.wpList_append_run _ rfl _ _ 63 63 rfl _ _ rfl rfl _ _ R1.out ?_)
      | (at_builtin; refine Lib.wpList_append_run _ rfl _ _ 63 63 rfl _ _ rfl rfl _ _ R2.out ?_)
      | (at_builtin; refine Lib.wpList_append_run _ rfl _ _ 63 63 rfl _ _ rfl rfl _ _ R3.out ?_))
    go_ret
    exact ⟨rfl, FIN2.out⟩
end Go.Proofs.YtobbmhboahognaaDoor
