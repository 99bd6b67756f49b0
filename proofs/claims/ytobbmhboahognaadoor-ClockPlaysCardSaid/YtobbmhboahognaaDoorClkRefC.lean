/- The document's queue (layer 8: in the clock): the contracts of Drop and Put. The condition: fewer than 2^30 things. -/
import Derived.Test.YtobbmhboahognaaDoorClkRefB
namespace Go.Proofs.YtobbmhboahognaaDoor
open Go.RowKit
set_option linter.unusedVariables false
variable {t : Int}

set_option maxHeartbeats 2000000 in
theorem crefDrop_no {w : World} {r N : Nat} {v : Value} {S : List Itm} {last : Nat} (h : RefC t w r N v S last) (k : Int) (hn : ∀ j, j < S.length → (at_ S j).h ≠ k) (hl : S.length < 1073741824) :
    Calls Tryd.prog 57 #[.pointer (some ⟨r, 1, none⟩), .int .i64 k] w fun e w' => e = .returned (.tuple #[.int .u64 0, .bool false]) ∧ w = w' := by
  have c0 := h.c0
  rcases h.two with ⟨rfl, rfl⟩ | ⟨g, cap, rfl, _, hlc, _, hc⟩
  · clear h hn
    go_enter Tryd.func57, Tryd.ntmps57
    go_wp2
    go_loop [6] (fun vi => vi = .int .i64 0) (fun _ => 0)
    case atStart => exact rfl
    case round =>
      obtain rfl := hrel
      go_wp2
      go_ret2
      exact ⟨rfl, rfl⟩
  · obtain ⟨n, hn2⟩ : ∃ n, n = S.length := ⟨_, rfl⟩
    rw [← hn2] at c0 hl
    have HN := Lib.hid hn2
    have HC := Lib.hid hc
    have HNO := Lib.hid hn
    clear h hc hn hn2 hlc
    go_enter Tryd.func57, Tryd.ntmps57
    go_wp2
    go_loop [6] (fun vi => ∃ i : Nat, i ≤ n ∧ vi = .int .i64 i) (fun vi => n - (intOf vi).toNat)
    case atStart => exact ⟨0, Nat.zero_le _, rfl⟩
    case round =>
      obtain ⟨i, hi, rfl⟩ := hrel
      by_cases hlt : i < n
      · obtain ⟨p0, p1, p2⟩ := cells_itm HC.out i (by rw [← HN.out]; exact hlt)
        have hne := HNO.out i (by rw [← HN.out]; exact hlt)
        obtain ⟨x, hx⟩ : ∃ x, x = at_ S i := ⟨_, rfl⟩
        rw [← hx] at p0 p1 p2 hne
        obtain ⟨x0, x1, x2⟩ := x
        dsimp only at p0 p1 p2 hne
        have e1 : (x2 == k) = false := beq_eq_false_iff_ne.2 hne
        clear hx
        go_wp2
        go_round
        case rel => exact ⟨i + 1, by omega, by go_num⟩
        case measure => simp [intOf]; omega
      · go_wp2
        go_ret2
        exact ⟨rfl, rfl⟩

set_option maxHeartbeats 4000000 in
set_option maxRecDepth 100000 in
theorem crefDrop_yes {w : World} {r N : Nat} {v : Value} {S : List Itm} {last : Nat} (h : RefC t w r N v S last) (k : Int) (j : Nat) (hj : j < S.length) (hk : (at_ S j).h = k) (hn : ∀ i, i < j → (at_ S i).h ≠ k) (hl : S.length < 1073741824) :
    Calls Tryd.prog 57 #[.pointer (some ⟨r, 1, none⟩), .int .i64 k] w fun e w' => e = .returned (.tuple #[.int .u64 (at_ S j).w, .bool true]) ∧ ∃ v', RefCLed t w r N v w' v' (S.take j ++ S.drop (j + 1)) last := by
  have c0 := h.c0
  have hrl := h.top.lt
  rcases h.two with ⟨rfl, rfl⟩ | ⟨g, cap, rfl, hgr, hlc, hcm, hc⟩
  · simp at hj
  · obtain ⟨z0, z1, z2⟩ := cells_itm hc j hj
    obtain ⟨z, hz⟩ : ∃ z, z = at_ S j := ⟨_, rfl⟩
    rw [← hz] at z0 z1 z2 hk ⊢
    have x1 := fun c => srcT_take hc j c (Nat.le_of_lt hj)
    have x3 : SrcT w (if cap = j + 1 then .slice (some ⟨g, 0, none⟩) (S.length - (j + 1)) (cap - (j + 1)) else .slice (some ⟨g, (j + 1) * 3, none⟩) (S.length - (j + 1)) (cap - (j + 1))) (S.drop (j + 1)) := by
      by_cases h1 : cap = j + 1
      · rw [if_pos h1, show S.length - (j + 1) = 0 by omega]
        exact srcT_end (j + 1) _ (by omega)
      · rw [if_neg h1]
        exact srcT_drop hc _ _
    obtain ⟨v1, w6, ad, l, c, w9, r1, r3, o9, b6, b9, hv1⟩ := refApp2 j (by omega) (x1 cap) x3
    have FIN := Lib.hid (crefLed_of (W := w) (W1 := w) (W9 := w9) h (Only.refl _ _) h.NW o9 b9)
    have q0 := (b6.cell (p := ⟨r, 1, none⟩) hrl).trans c0
    have q1 : w9.frozen? ⟨r, 1, none⟩ = false := (b9.frozen (p := ⟨r, 1, none⟩) hrl).trans h.f0
    have q2 := (b9.cell (p := ⟨r, 1, none⟩) hrl).trans c0
    obtain ⟨pv, mv, cv, rfl⟩ := hv1
    obtain ⟨n, hn2⟩ : ∃ n, n = S.length := ⟨_, rfl⟩
    rw [← hn2] at c0 q0 q2 hl hlc hj r3
    have HN := Lib.hid hn2
    have HC := Lib.hid hc
    have HNO := Lib.hid hn
    have R1 := Lib.hid r1
    have R3 := Lib.hid r3
    obtain ⟨y0, y1, y2⟩ := z
    dsimp only at z0 z1 z2 hk
    subst hk
    have exx : (y2 == y2) = true := beq_self_eq_true y2
    have hb4 : j + 1 ≤ cap := by omega
    have hb5 : j ≤ cap := by omega
    have hw1 : IntKind.i64.wrap ((j : Int) + 1) = (j : Int) + 1 := by rw [IntKind.wrap_i64]; omega
    have htn : ((j : Int) + 1).toNat = j + 1 := by omega
    have hb2 : ((j : Int) + 1) ≤ (n : Int) := by omega
    have hb3 : (0 : Int) ≤ (j : Int) + 1 := by omega
    have hi1 : (j : Int) < (n : Int) := by omega
    by_cases h1 : cap = j + 1
    · rw [if_pos h1] at R3
      obtain rfl : n = j + 1 := by omega
      subst h1
      rw [Nat.sub_self] at R3
      clear h hc hn hn2 hz x1 x3 r1 r3 o9 b6 b9
      go_enter Tryd.func57, Tryd.ntmps57
      go_wp2
      go_loop [6] (fun vi => ∃ i : Nat, i ≤ j ∧ vi = .int .i64 i) (fun vi => j - (intOf vi).toNat)
      case atStart => exact ⟨0, Nat.zero_le _, rfl⟩
      case round =>
        obtain ⟨i, hi, rfl⟩ := hrel
        by_cases hij : i < j
        · obtain ⟨p0, p1, p2⟩ := cells_itm HC.out i (by rw [← HN.out]; omega)
          have hne := HNO.out i hij
          obtain ⟨x, hx⟩ : ∃ x, x = at_ S i := ⟨_, rfl⟩
          rw [← hx] at p0 p1 p2 hne
          obtain ⟨x0, x1, x2⟩ := x
          dsimp only at p0 p1 p2 hne
          have e1 : (x2 == y2) = false := beq_eq_false_iff_ne.2 hne
          clear hx
          go_wp2
          go_round
          case rel => exact ⟨i + 1, by omega, by go_num⟩
          case measure => simp [intOf]; omega
        · obtain rfl : i = j := by omega
          go_wp2_with (first
            | (at_builtin; refine Lib.wpList_append_run _ rfl _ _ 63 63 rfl _ _ rfl rfl _ _ R1.out ?_)
            | (at_builtin; refine Lib.wpList_append_run _ rfl _ _ 63 63 rfl _ _ rfl rfl _ _ R3.out ?_))
          go_ret2
          exact ⟨rfl, _, FIN.out⟩
    · rw [if_neg h1] at R3
      clear h hc hn hn2 hz x1 x3 r1 r3 o9 b6 b9
      go_enter Tryd.func57, Tryd.ntmps57
      go_wp2
      go_loop [6] (fun vi => ∃ i : Nat, i ≤ j ∧ vi = .int .i64 i) (fun vi => j - (intOf vi).toNat)
      case atStart => exact ⟨0, Nat.zero_le _, rfl⟩
      case round =>
        obtain ⟨i, hi, rfl⟩ := hrel
        by_cases hij : i < j
        · obtain ⟨p0, p1, p2⟩ := cells_itm HC.out i (by rw [← HN.out]; omega)
          have hne := HNO.out i hij
          obtain ⟨x, hx⟩ : ∃ x, x = at_ S i := ⟨_, rfl⟩
          rw [← hx] at p0 p1 p2 hne
          obtain ⟨x0, x1, x2⟩ := x
          dsimp only at p0 p1 p2 hne
          have e1 : (x2 == y2) = false := beq_eq_false_iff_ne.2 hne
          clear hx
          go_wp2
          go_round
          case rel => exact ⟨i + 1, by omega, by go_num⟩
          case measure => simp [intOf]; omega
        · obtain rfl : i = j := by omega
          go_wp2_with (first
            | (at_builtin; refine Lib.wpList_append_run _ rfl _ _ 63 63 rfl _ _ rfl rfl _ _ R1.out ?_)
            | (at_builtin; refine Lib.wpList_append_run _ rfl _ _ 63 63 rfl _ _ rfl rfl _ _ R3.out ?_))
          go_ret2
          exact ⟨rfl, _, FIN.out⟩
end Go.Proofs.YtobbmhboahognaaDoor
