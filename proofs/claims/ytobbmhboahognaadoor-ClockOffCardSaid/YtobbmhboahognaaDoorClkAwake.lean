/- The document's example (layer 8): awake returns true; of what was there nothing has turned. No condition. -/
import Derived.Test.YtobbmhboahognaaDoorClkTick2
namespace Go.Proofs.YtobbmhboahognaaDoor
open Go.RowKit
set_option linter.unusedVariables false

/-- A row of ids that was told, cell by cell. -/
theorem ids_at {W : World} {B : Nat} {v : Value} {L : List Itm} (h : W.ownsRow B 47 1 v L.length (idsV L)) (hl : 0 < L.length) : ∃ g cap, v = .slice (some ⟨g, 0, none⟩) L.length cap ∧ ∀ j, j < L.length → W.cell? ⟨g, j, none⟩ = some (.int .u64 (at_ L j).w) := by
  rcases h.2 with ⟨_, e⟩ | ⟨g, cap, cur, rfl, hb, hgg, rest⟩
  · omega
  · refine ⟨g, cap, rfl, fun j hj => ?_⟩
    have := h.cells (g := g) rfl j (.int .u64 (at_ L j).w) (by unfold idsV; rw [List.getElem?_map, List.getElem?_eq_getElem hj, at_get _ _ hj]; rfl)
    rwa [add0] at this
theorem ClockAt.led_arm {W W' : World} {F : List Nat} {b : Nat} {now : Int} {S : List Itm} {last m : Nat} : True := trivial

set_option maxHeartbeats 4000000 in
set_option maxRecDepth 100000 in
theorem awake_any (w : World) : Calls Tryd.prog 33 #[] w fun e w' => e = .returned (.bool true) ∧ Below w.heap.size w w' := by
  have NW := Lib.hid (clkNew w w.heap.size w (Below.refl _ _) (Nat.le_refl _))
  have S1 := Lib.hid (show insI [] ⟨0, 7, ((0 : Nat) : Int) + 1⟩ = [⟨0, 7, 1⟩] from rfl)
  have S2 := Lib.hid (show insI [⟨0, 7, 1⟩] ⟨2, 8, ((0 + 1 : Nat) : Int) + 1⟩ = [⟨0, 7, 1⟩, ⟨2, 8, 2⟩] by simp [insI, ltI])
  go_enter Tryd.func33, Tryd.ntmps33
  go_wp2_with fail
  go_at_call 21
  refine NW.out.mono ?_
  rintro e w1 ⟨b, F1, rfl, h1⟩
  have A1 := Lib.hid (clkArm_yes h1.at1 7 0 (by decide) (by omega) (by simp) (by omega) (by omega))
  have H1 := Lib.hid h1
  clear h1
  go_wp2_with fail
  go_at_call 29
  refine A1.out.mono ?_
  rintro e w2 ⟨rfl, F2, l2⟩
  rw [S1.out] at l2
  have h2 := H1.out.led l2
  have A2 := Lib.hid (clkArm_yes h2.at1 8 2 (by decide) (by omega) (by simp) (by omega) (by omega))
  have H2 := Lib.hid h2
  clear h2 l2
  go_wp2_with fail
  go_at_call 29
  refine A2.out.mono ?_
  rintro e w3 ⟨rfl, F3, l3⟩
  rw [S2.out] at l3
  have h3 := H2.out.led l3
  have T3 := Lib.hid (clkTick h3.at1 (by omega) (by omega) (by omega))
  have H3 := Lib.hid h3
  clear h3 l3
  go_wp2_with fail
  go_at_call 27
  refine T3.out.mono ?_
  rintro e w4 ⟨n, v4, F4, hn, rfl, o4, l4, d4, p4, q4⟩
  obtain rfl : n = 1 := by
    simp at hn
    rcases n with _ | _ | _ | n
    · have := q4 _ _ rfl; simp at this
    · rfl
    · have := p4 1 (by omega); simp [at_] at this
    · omega
  have h4 := H3.out.led l4
  have T4 := Lib.hid (clkTick h4.at1 (by omega) (by omega) (by omega))
  have H4 := Lib.hid h4
  have O4 := Lib.hid o4
  have D4 := Lib.hid d4
  clear h4 l4 o4 p4 q4 d4
  go_wp2_with fail
  go_at_call 27
  refine T4.out.mono ?_
  rintro e w5 ⟨n, v5, F5, hn, rfl, o5, l5, d5, p5, q5⟩
  obtain rfl : n = 1 := by
    simp at hn
    rcases n with _ | _ | n
    · have := q5 _ _ rfl; simp at this
    · rfl
    · omega
  have h5 := H4.out.led l5
  have N5 := Lib.hid (clkNow h5.at1)
  obtain ⟨g4, cap4, rfl, c4⟩ := ids_at (ownsRow_only O4.out l5.only D4.out) (by simp)
  obtain ⟨g5, cap5, rfl, c5⟩ := ids_at o5 (by simp)
  have x4 := c4 0 (by simp)
  have x5 := c5 0 (by simp)
  have H5 := Lib.hid h5.bel
  clear h5 l5 o5 p5 q5 d5 c4 c5
  simp [at_] at x4 x5
  simp
  go_wp2_with fail
  go_at_call 31
  refine N5.out.mono ?_
  rintro e w6 ⟨rfl, rfl⟩
  go_wp2_with fail
  go_ret
  exact ⟨rfl, H5.out⟩
end Go.Proofs.YtobbmhboahognaaDoor
