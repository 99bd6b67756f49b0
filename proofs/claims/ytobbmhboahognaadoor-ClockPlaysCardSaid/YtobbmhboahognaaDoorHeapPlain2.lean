/- Plain words on queues (layer 7), nothing of the program: an item taken out of a list that is a heap, the last one in its place. -/
import Derived.Test.YtobbmhboahognaaDoorHeapPlain
namespace Go.Proofs.YtobbmhboahognaaDoor
set_option linter.unusedVariables false

theorem at_take (L : List Itm) (n i : Nat) (h : i < n) : at_ (L.take n) i = at_ L i := by
  unfold at_
  rw [List.getD_eq_getElem?_getD, List.getElem?_take, if_pos h, List.getD_eq_getElem?_getD]
theorem Heaped.take {L : List Itm} (h : Heaped L) (n : Nat) : Heaped (L.take n) := by
  intro i i0 il
  simp only [List.length_take] at il
  rw [at_take _ _ _ (by omega), at_take _ _ _ (by omega)]
  exact h i i0 (by omega)
theorem remove_perm (L : List Itm) (i : Nat) (hi : i < L.length - 1) : (at_ L i :: (L.take (L.length - 1)).set i (at_ L (L.length - 1))).Perm L := by
  have hp := List.set_set_perm (as := L) (i := i) (j := L.length - 1) (by omega) (by omega)
  rw [← at_get L i (by omega), ← at_get L (L.length - 1) (by omega)] at hp
  have e : (L.set i (at_ L (L.length - 1))).set (L.length - 1) (at_ L i) = (L.take (L.length - 1)).set i (at_ L (L.length - 1)) ++ [at_ L i] := by
    refine List.ext_getElem? fun j => ?_
    have hz : ((L.take (L.length - 1)).set i (at_ L (L.length - 1))).length = L.length - 1 := by simp
    rcases Nat.lt_trichotomy j (L.length - 1) with h1 | h1 | h1
    · rw [List.getElem?_append_left (by rw [hz]; exact h1), List.getElem?_set, if_neg (show ¬ L.length - 1 = j by omega), List.getElem?_set, List.getElem?_set, List.getElem?_take, if_pos h1]
      by_cases h2 : i = j
      · rw [if_pos h2, if_pos h2, if_pos (by omega), if_pos (by simp; omega)]
      · rw [if_neg h2, if_neg h2]
    · subst h1
      rw [List.getElem?_append_right (by rw [hz]; exact Nat.le_refl _), hz, List.getElem?_set, if_pos rfl, if_pos (by simp; omega)]
      simp
    · rw [List.getElem?_eq_none (by simp; omega), List.getElem?_eq_none (by simp; omega)]
  rw [e] at hp
  exact (List.perm_append_comm (l₁ := [at_ L i])).trans hp
theorem remove_last (L : List Itm) (h : 0 < L.length) : (at_ L (L.length - 1) :: L.take (L.length - 1)).Perm L := by
  have e : L.take (L.length - 1) ++ [at_ L (L.length - 1)] = L := by
    rw [at_get _ _ (by omega)]
    have := List.take_append_drop (L.length - 1) L
    rw [List.drop_eq_getElem_cons (by omega), show L.length - 1 + 1 = L.length by omega, List.drop_length] at this
    exact this
  refine (List.perm_append_comm (l₁ := [_])).trans ?_
  rw [e]
theorem Distinct.tail {x : Itm} {L : List Itm} (h : Distinct (x :: L)) : Distinct L := by
  rw [distinct_iff] at *
  exact (List.nodup_cons.1 h).2
theorem PosAll.gap {L : List Itm} {f : Int → Option Nat} (h : PosAll L f) (hd : Distinct L) (i : Nat) (hi : i < L.length - 1) : PosOK (L.take (L.length - 1)) i (at_ L (L.length - 1)) (fdel f (at_ L i).h) := by
  intro k hk j
  unfold fdel
  rw [List.length_take]
  by_cases e : k = (at_ L i).h
  · rw [if_pos e]
    constructor
    · intro h'; cases h'
    · rintro ⟨h1, h2, h3⟩
      rw [at_take _ _ _ (by omega)] at h3
      exact absurd (hd j i (by omega) (by omega) (by rw [h3, e])) h2
  · rw [if_neg e, h k j]
    constructor
    · rintro ⟨h1, h2⟩
      have h3 : j ≠ L.length - 1 := fun h' => hk (by rw [← h2, h'])
      refine ⟨by omega, fun h' => e (by rw [← h2, h']), by rw [at_take _ _ _ (by omega)]; exact h2⟩
    · rintro ⟨h1, h2, h3⟩
      rw [at_take _ _ _ (by omega)] at h3
      exact ⟨by omega, h3⟩
theorem PosAll.last {L : List Itm} {f : Int → Option Nat} (h : PosAll L f) (hd : Distinct L) (hl : 0 < L.length) : PosAll (L.take (L.length - 1)) (fdel f (at_ L (L.length - 1)).h) := by
  intro k j
  unfold fdel
  rw [List.length_take]
  by_cases e : k = (at_ L (L.length - 1)).h
  · rw [if_pos e]
    constructor
    · intro h'; cases h'
    · rintro ⟨h1, h3⟩
      rw [at_take _ _ _ (by omega)] at h3
      exact absurd (hd j (L.length - 1) (by omega) (by omega) (by rw [h3, e])) (by omega)
  · rw [if_neg e, h k j]
    constructor
    · rintro ⟨h1, h2⟩
      have h3 : j ≠ L.length - 1 := fun h' => e (by rw [← h2, h'])
      exact ⟨by omega, by rw [at_take _ _ _ (by omega)]; exact h2⟩
    · rintro ⟨h1, h3⟩
      rw [at_take _ _ _ (by omega)] at h3
      exact ⟨by omega, h3⟩
end Go.Proofs.YtobbmhboahognaaDoor
