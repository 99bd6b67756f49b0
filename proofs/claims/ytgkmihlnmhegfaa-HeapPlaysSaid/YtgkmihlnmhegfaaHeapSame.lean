/- The statements' help same (layer 7): what was told is what the document's queue holds. The condition: fewer than 2^30. -/
import Derived.Test.YtgkmihlnmhegfaaHeapAll
import Derived.Test.YtgkmihlnmhegfaaHeapRefB
namespace Go.Proofs.Ytgkmihlnmhegfaa
open Go.RowKit
set_option linter.unusedVariables false

theorem below_draws (w : World) (n : Nat) : Below w.heap.size w (w.drewN n) := ((Only.refl [] w).drewN n).below (by simp) (Nat.le_refl _)
/-- What was told: nil, or a row. -/
theorem told_two {W : World} {B : Nat} {u : Value} {S : List Itm} (h : W.ownsRow B 43 2 u S.length (flatP S)) : (u = .slice none 0 0 ∧ S = []) ∨ ∃ g cap, u = .slice (some ⟨g, 0, none⟩) S.length cap ∧ (∀ i, i < S.length → W.cell? ⟨g, i * 2, none⟩ = some (.int .u64 (at_ S i).d) ∧ W.cell? ⟨g, i * 2 + 1, none⟩ = some (.int .u64 (at_ S i).w)) ∧ g < W.heap.size := by
  rcases h.2 with ⟨e1, e2⟩ | ⟨g, cap, cur, rfl, hb, hgg, hn, hm, hs, ht⟩
  · exact .inl ⟨e1, List.eq_nil_of_length_eq_zero e2⟩
  · refine .inr ⟨g, cap, rfl, fun i hi => ?_, (Array.getElem?_eq_some_iff.1 hgg).1⟩
    obtain ⟨h1, h2⟩ := flatP_at S i hi
    have a1 := h.cells (g := g) rfl _ _ h1
    have a2 := h.cells (g := g) rfl _ _ h2
    rw [add0] at a1 a2
    exact ⟨a1, a2⟩

set_option maxHeartbeats 4000000 in
set_option maxRecDepth 100000 in
theorem same_any {w : World} {u : Value} {B r N : Nat} {v : Value} {S : List Itm} {last : Nat} (hu : w.ownsRow B 43 2 u S.length (flatP S)) (h : RefQ w r N v S last) (hl : S.length < 1073741824) :
    Calls Try.prog 20 #[u, .pointer (some ⟨r, 0, none⟩)] w fun e w' => e = .returned (.bool true) ∧ Below w.heap.size w w' := by
  have c0 := h.c0
  have hrl := h.top.lt
  have hemp : S = [] → Calls Try.prog 20 #[u, .pointer (some ⟨r, 0, none⟩)] w fun e w' => e = .returned (.bool true) ∧ Below w.heap.size w w' := by
    rintro rfl
    obtain ⟨p1, q1, rfl⟩ := ownsT_slice hu
    obtain ⟨p2, q2, rfl⟩ := ownsT_slice h.row
    clear hu h
    dsimp only [List.length_nil] at c0 ⊢
    go_enter Try.func20, Try.ntmps20
    go_wp2_with fail
    go_loop [5] (fun vi => vi = .int .i64 0) (fun _ => 0)
    case atStart => exact rfl
    case round =>
      obtain rfl := hrel
      go_wp2_with fail
      go_ret
      exact ⟨rfl, Below.refl _ _⟩
  rcases told_two hu with ⟨_, e⟩ | ⟨g1, cap1, rfl, hc1, hg1⟩
  · exact hemp e
  rcases h.two with ⟨_, e⟩ | ⟨g, cap, rfl, _, _, _, hc⟩
  · exact hemp e
  obtain ⟨n, hn⟩ : ∃ n, n = S.length := ⟨_, rfl⟩
  rw [← hn] at c0 hl ⊢
  have HN := Lib.hid hn
  have HC := Lib.hid hc
  have HC1 := Lib.hid hc1
  clear hu h hemp hc hc1 hn
  go_enter Try.func20, Try.ntmps20
  go_wp2_with fail
  go_loopw [5] (fun vi wr => ∃ i : Nat, i ≤ n ∧ vi = .int .i64 i ∧ Hid (Below w.heap.size w wr)) (fun vi _ => n - (intOf vi).toNat)
  case atStart => exact ⟨0, Nat.zero_le _, rfl, Lib.hid (Below.refl _ _)⟩
  case round =>
    obtain ⟨i, hi, rfl, hbl⟩ := hrel
    by_cases hlt : i < n
    · obtain ⟨a0, a1⟩ := HC1.out i (by rw [← HN.out]; exact hlt)
      obtain ⟨b0, b1, b2⟩ := cells_itm HC.out i (by rw [← HN.out]; exact hlt)
      have x0 := (hbl.out.cell (p := ⟨g1, i * 2, none⟩) hg1).trans a0
      have x1 := (hbl.out.cell (p := ⟨g1, i * 2 + 1, none⟩) hg1).trans a1
      have y0 := (hbl.out.cell (p := ⟨g, i * 3, none⟩) (World.block_lt_of_cell? _ _ b0)).trans b0
      have y1 := (hbl.out.cell (p := ⟨g, i * 3 + 1, none⟩) (World.block_lt_of_cell? _ _ b1)).trans b1
      have cr := (hbl.out.cell (p := ⟨r, 0, none⟩) hrl).trans c0
      obtain ⟨x, hx⟩ : ∃ x, x = at_ S i := ⟨_, rfl⟩
      rw [← hx] at x0 x1 y0 y1
      obtain ⟨z0, z1, z2⟩ := x
      dsimp only at x0 x1 y0 y1
      have t0 : (z0 != z0) = false := bne_self_eq_false z0
      have t1 : (z1 != z1) = false := bne_self_eq_false z1
      clear hx a0 a1 b0 b1 b2
      go_wp2_with fail
      go_quiet (fail)
      have hb5 := below_draws wr nq
      have B5 := Lib.hid (hbl.out.trans (hb5.mono hbl.out.size))
      clear hb5
      go_wp2_with fail
      go_roundw
      case rel => exact ⟨i + 1, by omega, by go_num, B5⟩
      case measure => simp [intOf]; omega
    · have cr := (hbl.out.cell (p := ⟨r, 0, none⟩) hrl).trans c0
      go_wp2_with fail
      go_ret
      exact ⟨rfl, hbl.out⟩
end Go.Proofs.Ytgkmihlnmhegfaa
