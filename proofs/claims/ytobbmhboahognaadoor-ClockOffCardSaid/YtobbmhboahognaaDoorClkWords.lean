/- The statements' help Words at two rows of the same ids (layer 8): true. -/
import Derived.Test.YtobbmhboahognaaDoorClkLaw
import Derived.Deep.QuietTactic
import Derived.BigQuiet
namespace Go.Proofs.YtobbmhboahognaaDoor
open Go.RowKit
set_option linter.unusedVariables false

theorem owns_sliceW {W : World} {B : Nat} {t : TypeId} {s : Nat} {v : Value} {n : Nat} {xs : List Value} (h : W.ownsRow B t s v n xs) : ∃ ad c, v = .slice ad n c := by
  rcases h.2 with ⟨rfl, e⟩ | ⟨g, cap, cur, rfl, _⟩
  · exact ⟨none, 0, by rw [e]⟩
  · exact ⟨_, _, rfl⟩
theorem below_drewW (w : World) (n : Nat) : Below w.heap.size w (w.drewN n) := ⟨rfl, rfl, rfl, Nat.le_refl _, fun _ _ => rfl⟩
set_option maxHeartbeats 4000000 in
set_option maxRecDepth 100000 in
theorem words_same {W : World} {V1 V2 : Value} {L : List Itm} {B1 B2 : Nat} (h1 : W.ownsRow B1 47 1 V1 L.length (idsV L)) (h2 : W.ownsRow B2 47 1 V2 L.length (idsV L)) (hl : L.length < 1073741824) :
    Calls Tryd.prog 26 #[V1, V2] W fun e w' => e = .returned (.bool true) ∧ Below W.heap.size W w' := by
  have HC := Lib.hid (fun i (hi : i < L.length) => (show ∃ g1 c1 g2 c2, V1 = .slice (some ⟨g1, 0, none⟩) L.length c1 ∧ V2 = .slice (some ⟨g2, 0, none⟩) L.length c2 ∧ W.cell? ⟨g1, i, none⟩ = some (.int .u64 (at_ L i).w) ∧ W.cell? ⟨g2, i, none⟩ = some (.int .u64 (at_ L i).w) by
    obtain ⟨g1, c1, e1, q1⟩ := ids_at h1 (by omega)
    obtain ⟨g2, c2, e2, q2⟩ := ids_at h2 (by omega)
    exact ⟨g1, c1, g2, c2, e1, e2, q1 i hi, q2 i hi⟩))
  obtain ⟨a1, k1, rfl⟩ := owns_sliceW h1
  obtain ⟨a2, k2, rfl⟩ := owns_sliceW h2
  obtain ⟨n, hn⟩ : ∃ n, n = L.length := ⟨_, rfl⟩
  rw [← hn] at hl HC ⊢
  have hne : ((n : Int) != (n : Int)) = false := by simp
  clear h1 h2 hn
  go_enter Tryd.func26, Tryd.ntmps26
  go_wp2_with fail
  go_loopw [5] (fun vi wr => ∃ (i : Nat), i ≤ n ∧ vi = .int .i64 i ∧ Hid (∃ m, wr = W.drewN m)) (fun vi _ => n - (intOf vi).toNat)
  case atStart => exact ⟨0, Nat.zero_le _, rfl, Lib.hid ⟨0, rfl⟩⟩
  case round =>
    obtain ⟨i, hi, rfl, hwr⟩ := hrel
    have hcw : ∀ a, wr.cell? a = W.cell? a := fun a => by obtain ⟨m, rfl⟩ := hwr.out; rfl
    by_cases hlt : i < n
    · obtain ⟨g1, c1, g2, c2, e1, e2, q1, q2⟩ := HC.out i hlt
      cases e1
      cases e2
      rw [← hcw] at q1 q2
      generalize (at_ L i).w = x at q1 q2
      have hx : (x != x) = false := by simp
      have hin : (i : Int) < (n : Int) := by omega
      clear hcw
      go_upto_region 6 with fail
      go_quiet (fail)
      go_wp2_with fail
      go_roundw
      case rel => exact ⟨i + 1, by omega, by go_num, Lib.hid (by obtain ⟨m, e⟩ := hwr.out; exact ⟨_, by rw [e, World.drewN_drewN]⟩)⟩
      case measure => simp [intOf]; omega
    · obtain rfl : n = i := by omega
      clear hcw
      go_wp2_with fail
      go_ret
      exact ⟨rfl, by obtain ⟨m, rfl⟩ := hwr.out; exact below_drewW _ _⟩
end Go.Proofs.YtobbmhboahognaaDoor
