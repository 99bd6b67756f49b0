/- The document's queue (layer 8: in the clock): the contract of Put. The condition: fewer than 2^30 things. -/
import Derived.Test.YtobbmhboahognaaDoorClkRefB
namespace Go.Proofs.YtobbmhboahognaaDoor
open Go.RowKit
set_option linter.unusedVariables false
variable {t : Int}

set_option maxHeartbeats 4000000 in
set_option maxRecDepth 100000 in
theorem crefPut_end {w : World} {r N : Nat} {g cap : Nat} {S : List Itm} {last : Nat} (h : RefC t w r N (.slice (some ⟨g, 0, none⟩) S.length cap) S last) (d u : Int) (hl : S.length < 1073741823) (hlast : last < 1073741823) (hcap : cap = spot d S) :
    Calls Tryd.prog 62 #[.pointer (some ⟨r, 1, none⟩), .int .u64 d, .int .u64 u] w fun e w' => e = .returned (.int .i64 ((last : Int) + 1)) ∧ ∃ v', RefCLed t w r N (.slice (some ⟨g, 0, none⟩) S.length cap) w' v' (S.take (spot d S) ++ ⟨d, u, (last : Int) + 1⟩ :: S.drop (spot d S)) (last + 1) := by
  have c0 := h.c0
  have c1 := h.c1
  have f1 := h.f1
  have hrl := h.top.lt
  have o1 : Only [r] w (w.setCell ⟨r, 2, none⟩ (.int .i64 ((last : Int) + 1))) := (Only.refl [r] w).setCell (p := ⟨r, 2, none⟩) (Or.inl (by simp)) _
  have hrN := h.rN
  have hq1 : RefC t (w.setCell ⟨r, 2, none⟩ (.int .i64 ((last : Int) + 1))) r N (.slice (some ⟨g, 0, none⟩) S.length cap) S (last + 1) :=
    ⟨h.top.set 2 (by simp) (.int .i64 ((last : Int) + 1)), ownsRow_only h.row o1 (fun k hk => by have := (h.row.lt k hk).1; simp; omega), h.rN, Nat.le_trans h.NW o1.size⟩
  have hsp := spot_le d S
  rcases hq1.two with ⟨e, _⟩ | ⟨g', cap', e, hgr, hlc, hcm, hc⟩
  · cases e
  cases e
  have x1 : SrcT (w.setCell ⟨r, 2, none⟩ (.int .i64 ((last : Int) + 1))) (.slice (some ⟨g, 0, none⟩) (spot d S) cap) (S.take (spot d S)) := srcT_take hc _ _ hsp
  have x3 : SrcT (w.setCell ⟨r, 2, none⟩ (.int .i64 ((last : Int) + 1))) (.slice (some ⟨g, 0, none⟩) 0 0) (S.drop (spot d S)) := srcT_end _ _ (by omega)
  obtain ⟨v1, w6, v2, w8, ad, l, c, w9, r1, r2, r3, o9, b6, b8, b9, hv1, hv2⟩ := refApp3 (spot d S) (by omega) ⟨d, u, (last : Int) + 1⟩ x1 x3
  have FIN := Lib.hid (crefLed_of (W := w) (W9 := w9) hq1 o1 h.NW o9 b9)
  have hrl1 := hq1.top.lt
  have q0 := hq1.c0
  have q6 := (b6.cell (p := ⟨r, 2, none⟩) hrl1).trans hq1.c1
  have q8 := (b8.cell (p := ⟨r, 1, none⟩) hrl1).trans hq1.c0
  have q9 : w9.frozen? ⟨r, 1, none⟩ = false := (b9.frozen (p := ⟨r, 1, none⟩) hrl1).trans hq1.f0
  have qa := (b9.cell (p := ⟨r, 1, none⟩) hrl1).trans hq1.c0
  have q60 := (b6.cell (p := ⟨r, 1, none⟩) hrl1).trans hq1.c0
  have qb := FIN.out.at1.c1
  have hr6 : r < w6.heap.size := Nat.lt_of_lt_of_le hrl1 b6.size
  obtain ⟨pv, mv, cv, rfl⟩ := hv1
  obtain ⟨pu, mu, cu, rfl⟩ := hv2
  have FIN2 := Lib.hid (show ∃ v', RefCLed t w r N _ (w9.setCell ⟨r, 1, none⟩ (.slice ad l c)) v' (S.take (spot d S) ++ ⟨d, u, (last : Int) + 1⟩ :: S.drop (spot d S)) (last + 1) from ⟨_, FIN.out⟩)
  clear FIN
  rw [show (((last + 1 : Nat)) : Int) = (last : Int) + 1 by omega] at q6 qb
  have HB := Lib.hid (spot_before d S)
  have HA := Lib.hid (spot_at d S)
  obtain ⟨k, hk⟩ : ∃ k, k = spot d S := ⟨_, rfl⟩
  obtain ⟨n, hn⟩ : ∃ n, n = S.length := ⟨_, rfl⟩
  rw [← hn] at c0 q0 q8 qa q60 hsp hlc hl
  rw [← hk] at r1 HB HA hsp hcap
  have HN := Lib.hid hn
  have HC := Lib.hid hc
  have R1 := Lib.hid r1
  have R2 := Lib.hid r2
  have R3 := Lib.hid r3
  have hkc : k ≤ cap := by omega
  have hi1 : (k : Int) ≤ (n : Int) := by omega
  clear h hq1 o1 x1 x3 r1 r2 r3 o9 b6 b8 b9 hc hn hk
  dsimp only at R2
  obtain rfl : cap = k := hcap
  obtain rfl : cap = n := by omega
  go_enter Tryd.func62, Tryd.ntmps62
  go_wp2
  go_loop [7] (fun vi => ∃ i : Nat, i ≤ cap ∧ vi = .int .i64 i) (fun vi => cap - (intOf vi).toNat)
  case atStart => exact ⟨0, Nat.zero_le _, rfl⟩
  case round =>
    obtain ⟨i, hi, rfl⟩ := hrel
    by_cases hij : i < cap
    · obtain ⟨p0, p1, p2⟩ := cells_itm HC.out i (by rw [← HN.out]; omega)
      have hle := HB.out i hij
      obtain ⟨x, hx⟩ : ∃ x, x = at_ S i := ⟨_, rfl⟩
      rw [← hx] at p0 p1 p2 hle
      obtain ⟨x0, x1, x2⟩ := x
      dsimp only at p0 p1 p2 hle
      have hin : (i : Int) < (cap : Int) := by omega
      have hdd : decide (x0 ≤ d) = true := by simpa using hle
      clear hx
      go_wp2
      go_round
      case rel => exact ⟨i + 1, by omega, by go_num⟩
      case measure => simp [intOf]; omega
    · obtain rfl : cap = i := by omega
      go_wp2_with (first
        | (at_builtin; refine Lib.wpList_append_run _ rfl _ _ 63 63 rfl _ _ rfl rfl _ _ R1.out ?_)
        | (at_builtin; refine Lib.wpList_append_run _ rfl _ _ 63 63 rfl _ _ rfl rfl _ _ R2.out ?_)
        | (at_builtin; refine Lib.wpList_append_run _ rfl _ _ 63 63 rfl _ _ rfl rfl _ _ R3.out ?_))
      go_ret
      exact ⟨rfl, FIN2.out⟩
end Go.Proofs.YtobbmhboahognaaDoor
