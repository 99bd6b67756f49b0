/- The document's queue (layer 8: in the clock): the contracts of First, Pop and Drop. The condition: fewer than 2^30 things. -/
import Derived.Test.YtobbmhboahognaaDoorClkRef
import Derived.BigQuiet
import Derived.Lib.AppendZeros
namespace Go.Proofs.YtobbmhboahognaaDoor
open Go.RowKit
set_option linter.unusedVariables false
variable {t : Int}

theorem cells_itm {W : World} {g : Nat} {S : List Itm} (hc : ∀ j u, (flatI S)[j]? = some u → W.cell? ⟨g, j, none⟩ = some u) (i : Nat) (hi : i < S.length) : W.cell? ⟨g, i * 3, none⟩ = some (.int .u64 (at_ S i).d) ∧ W.cell? ⟨g, i * 3 + 1, none⟩ = some (.int .u64 (at_ S i).w) ∧ W.cell? ⟨g, i * 3 + 2, none⟩ = some (.int .i64 (at_ S i).h) := by
  obtain ⟨h1, h2, h3⟩ := flatI_at S i hi
  exact ⟨hc _ _ h1, hc _ _ h2, hc _ _ h3⟩

set_option maxHeartbeats 1000000 in
theorem crefPop_no {w : World} {r N : Nat} {v : Value} {S : List Itm} {last : Nat} (h : RefC t w r N v S last) (now : Int) (hn : ∀ y T, S = y :: T → now < y.d) (hl : S.length < 1073741824) :
    Calls Tryd.prog 59 #[.pointer (some ⟨r, 1, none⟩), .int .u64 now] w fun e w' => e = .returned (.tuple #[.int .u64 0, .bool false]) ∧ w = w' := by
  have c0 := h.c0
  cases S with
  | nil =>
    rcases h.two with ⟨rfl, _⟩ | ⟨g, cap, rfl, _⟩
    all_goals
      clear h hn
      go_enter Tryd.func59, Tryd.ntmps59
      go_wp2
      go_ret2
      exact ⟨rfl, rfl⟩
  | cons y T =>
    have hd := hn y T rfl
    rcases h.two with ⟨_, e⟩ | ⟨g, cap, rfl, _, _, _, hc⟩
    · cases e
    · obtain ⟨p0, p1, p2⟩ := cells_itm hc 0 (by simp)
      rw [show at_ (y :: T) 0 = y from rfl] at p0 p1 p2
      obtain ⟨n, hn2⟩ : ∃ n, n = (y :: T).length := ⟨_, rfl⟩
      rw [← hn2] at c0 hl
      have hn0 : 0 < n := by rw [hn2]; simp
      obtain ⟨x0, x1, x2⟩ := y
      have hnz : ((n : Int) == 0) = false := by simp; omega
      have hn1 : (0 : Int) < (n : Int) := by omega
      clear h hc hn2 hn
      dsimp only at p0 p1 p2 hd
      go_enter Tryd.func59, Tryd.ntmps59
      go_wp2
      go_ret2
      exact ⟨rfl, rfl⟩

set_option maxHeartbeats 4000000 in
set_option maxRecDepth 100000 in
theorem crefPop_yes {w : World} {r N : Nat} {v : Value} {y : Itm} {T : List Itm} {last : Nat} (h : RefC t w r N v (y :: T) last) (now : Int) (hd : y.d ≤ now) (hl : (y :: T).length < 1073741824) :
    Calls Tryd.prog 59 #[.pointer (some ⟨r, 1, none⟩), .int .u64 now] w fun e w' => e = .returned (.tuple #[.int .u64 y.w, .bool true]) ∧ ∃ v', RefCLed t w r N v w' v' T last := by
  have c0 := h.c0
  rcases h.two with ⟨_, e⟩ | ⟨g, cap, rfl, hgr, hlc, hcm, hc⟩
  · cases e
  · obtain ⟨p0, p1, p2⟩ := cells_itm hc 0 (by simp)
    rw [show at_ (y :: T) 0 = y from rfl] at p0 p1 p2
    have hb1 : Below w.heap.size w (w.alloc (.cells #[] 128)) := (Below.refl _ _).alloc (Nat.le_refl _) _
    have hrl := h.top.lt
    have own0 : (w.alloc (.cells #[] 128)).ownsRow w.heap.size 128 3 (.slice (some ⟨w.heap.size, 0, none⟩) 0 0) ([] : List Itm).length (flatI []) :=
      ⟨rfl, .inr ⟨w.heap.size, 0, #[], rfl, Nat.le_refl _, World.alloc_heap_new _ _, Nat.le_refl _, by simp [maxLen], by simp, by simp [flatI]⟩⟩
    have src : SrcT w (if cap = 1 then .slice (some ⟨g, 0, none⟩) (T.length + 1 - 1) (cap - 1) else .slice (some ⟨g, 3, none⟩) (T.length + 1 - 1) (cap - 1)) T := by
      by_cases h1 : cap = 1
      · rw [if_pos h1]
        have hT : T = [] := List.eq_nil_of_length_eq_zero (by simp at hlc; omega)
        subst hT
        exact srcT_end (L := [y]) 1 _ rfl
      · rw [if_neg h1]
        exact srcT_drop hc 1 _
    obtain ⟨v', w9, hr, o9, b9⟩ := run_app_thing own0 (src.below hb1) (by simp at hl ⊢; omega) (by simp) 63
    rw [List.nil_append] at o9
    have FIN := Lib.hid (crefLed_of (W := w) (W1 := w) (W9 := w9) h (Only.refl _ _) h.NW o9 (hb1.trans b9))
    have q0 : (w.alloc (.cells #[] 128)).cell? ⟨r, 1, none⟩ = some (.slice (some ⟨g, 0, none⟩) (y :: T).length cap) := (hb1.cell (p := ⟨r, 1, none⟩) hrl).trans c0
    have q1 : w9.frozen? ⟨r, 1, none⟩ = false := ((hb1.trans b9).frozen (p := ⟨r, 1, none⟩) hrl).trans h.f0
    have q2 : w9.cell? ⟨r, 1, none⟩ = some (.slice (some ⟨g, 0, none⟩) (y :: T).length cap) := ((hb1.trans b9).cell (p := ⟨r, 1, none⟩) hrl).trans c0
    obtain ⟨p9, c9, rfl⟩ := ownsT_slice o9
    obtain ⟨n, hn2⟩ : ∃ n, n = T.length := ⟨_, rfl⟩
    rw [List.length_cons, ← hn2] at c0 q0 q2 hl hlc
    rw [← hn2] at hr FIN
    obtain ⟨x0, x1, x2⟩ := y
    have HR := Lib.hid hr
    have hnz : ((n : Int) + 1 == 0) = false := by simp; omega
    have hn1 : (0 : Int) < (n : Int) + 1 := by omega
    have hdd : decide (now < x0) = false := by simp; exact hd
    by_cases h1 : cap = 1
    · subst h1
      rw [if_pos rfl] at HR
      obtain rfl : n = 0 := by omega
      clear h hc hn2 own0 src hr o9 b9 hb1
      dsimp only at p0 p1 p2 hd ⊢
      go_enter Tryd.func59, Tryd.ntmps59
      go_wp2_with (at_builtin; refine Lib.wpList_append_run _ rfl _ _ 63 63 rfl _ _ rfl rfl _ _ HR.out ?_)
      go_ret2
      exact ⟨rfl, _, FIN.out⟩
    · rw [if_neg h1] at HR
      clear h hc hn2 own0 src hr o9 b9 hb1
      dsimp only at p0 p1 p2 hd ⊢
      go_enter Tryd.func59, Tryd.ntmps59
      go_wp2_with (at_builtin; refine Lib.wpList_append_run _ rfl _ _ 63 63 rfl _ _ rfl rfl _ _ HR.out ?_)
      go_ret2
      exact ⟨rfl, _, FIN.out⟩
end Go.Proofs.YtobbmhboahognaaDoor
