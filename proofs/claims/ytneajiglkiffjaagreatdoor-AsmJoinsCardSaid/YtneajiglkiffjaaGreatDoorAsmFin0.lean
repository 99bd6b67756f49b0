/- Towards the contract of package asm's finish (layer 5): a label's place laid into an instruction; what is read of the rows. -/
import Derived.Test.YtneajiglkiffjaaGreatDoorAsmRd
namespace Go.Proofs.YtneajiglkiffjaaGreatDoor
open Go.RowKit
set_option linter.unusedVariables false

theorem flatUse_get : ∀ (l : Labs) (i : Nat) (q : List UInt8 × Nat × Nat), l[i]? = some q → (flatUse l)[i * 3]? = some (.string (bytesA q.1)) ∧ (flatUse l)[i * 3 + 1]? = some (.int .i64 (q.2.1 : Int)) ∧ (flatUse l)[i * 3 + 2]? = some (.int .i64 (q.2.2 : Int))
  | [], i, q, h => by simp at h
  | p :: l, 0, q, h => by
    simp at h; subst h
    simp [flatUse]
  | p :: l, i + 1, q, h => by
    have ih := flatUse_get l i q (by simpa using h)
    have e : flatUse (p :: l) = .string (bytesA p.1) :: .int .i64 (p.2.1 : Int) :: .int .i64 (p.2.2 : Int) :: flatUse l := by simp [flatUse]
    rw [e, show (i + 1) * 3 = i * 3 + 1 + 1 + 1 by omega, show i * 3 + 1 + 1 + 1 + 1 = (i * 3 + 1) + 1 + 1 + 1 by omega, show i * 3 + 1 + 1 + 1 + 2 = (i * 3 + 2) + 1 + 1 + 1 by omega]
    simpa using ih
theorem flatLab_get : ∀ (l : Labs) (i : Nat) (q : List UInt8 × Nat × Nat), l[i]? = some q → (flatLab l)[i * 2]? = some (.string (bytesA q.1)) ∧ (flatLab l)[i * 2 + 1]? = some (.int .i64 (q.2.1 : Int))
  | [], i, q, h => by simp at h
  | p :: l, 0, q, h => by
    simp at h; subst h
    simp [flatLab]
  | p :: l, i + 1, q, h => by
    have ih := flatLab_get l i q (by simpa using h)
    have e : flatLab (p :: l) = .string (bytesA p.1) :: .int .i64 (p.2.1 : Int) :: flatLab l := by simp [flatLab]
    rw [e, show (i + 1) * 2 = i * 2 + 1 + 1 by omega, show i * 2 + 1 + 1 + 1 = (i * 2 + 1) + 1 + 1 by omega]
    simpa using ih
theorem flatCs_len (l : List Inst) : (flatCs l).length = l.length * 7 := by
  induction l with
  | nil => rfl
  | cons x l ih =>
    have e : flatCs (x :: l) = x.cs ++ flatCs l := by simp [flatCs]
    rw [e, List.length_append, ih]; simp [Inst.cs]; omega
theorem flatCs_set : ∀ (l : List Inst) (i : Nat) (v : Int), i < l.length → (flatCs l).set (i * 7 + 4) (.int .u64 v) = flatCs (l.set i { l.getD i inst0 with v := v })
  | [], i, v, h => by simp at h
  | x :: l, 0, v, h => by simp [flatCs, Inst.cs]
  | x :: l, i + 1, v, h => by
    have ih := flatCs_set l i v (by simpa using h)
    have e : ∀ (x : Inst) l, flatCs (x :: l) = x.cs ++ flatCs l := fun x l => by simp [flatCs]
    have h7 : (i + 1) * 7 + 4 - x.cs.length = i * 7 + 4 := by simp [Inst.cs]; omega
    rw [e, List.set_append, if_neg (by simp [Inst.cs]; omega), h7, ih, List.set_cons_succ, e]
    simp
theorem flatCs_get : ∀ (l : List Inst) (i k : Nat), i < l.length → k < 7 → (flatCs l)[i * 7 + k]? = (l.getD i inst0).cs[k]?
  | [], i, k, h, _ => by simp at h
  | x :: l, 0, k, h, hk => by
    have e : flatCs (x :: l) = x.cs ++ flatCs l := by simp [flatCs]
    rw [e, Nat.zero_mul, Nat.zero_add, List.getElem?_append_left (by simpa [Inst.cs] using hk)]; rfl
  | x :: l, i + 1, k, h, hk => by
    have e : flatCs (x :: l) = x.cs ++ flatCs l := by simp [flatCs]
    have ih := flatCs_get l i k (by simpa using h) hk
    rw [e, List.getElem?_append_right (by simp [Inst.cs]; omega)]
    have h7 : (i + 1) * 7 + k - x.cs.length = i * 7 + k := by simp [Inst.cs]; omega
    rw [h7, ih]; simp
/-- The cells of a row of one's own. -/
theorem own_cell {W : World} {base : Nat} {e : TypeId} {size : Nat} {g cap n : Nat} {xs : List Value} (h : W.ownsRow base e size (.slice (some ⟨g, 0, none⟩) n cap) n xs) (j : Nat) (u : Value) (hu : xs[j]? = some u) : W.cell? ⟨g, j, none⟩ = some u := by
  have := h.cells (g := g) rfl j u hu
  rwa [show (⟨g, 0, none⟩ : Addr).add j = ⟨g, j, none⟩ by unfold Addr.add; split <;> simp_all] at this
theorem own_free {W : World} {base : Nat} {e : TypeId} {size : Nat} {v : Value} {n : Nat} {xs : List Value} (h : W.ownsRow base e size v n xs) {g : Nat} (hg : v.ownBlock = some g) (j : Nat) : W.frozen? ⟨g, j, none⟩ = false := by
  obtain ⟨c, e⟩ := ownsRow_tag h hg
  simp [World.frozen?, e]
theorem own_set {W : World} {base : Nat} {e : TypeId} {size : Nat} {g cap n : Nat} {xs : List Value} (h : W.ownsRow base e size (.slice (some ⟨g, 0, none⟩) n cap) n xs) (j : Nat) (hj : j < xs.length) (u : Value) : (W.setCell ⟨g, j, none⟩ u).ownsRow base e size (.slice (some ⟨g, 0, none⟩) n cap) n (xs.set j u) := by
  obtain ⟨h1, h2⟩ := h
  refine ⟨by rw [List.length_set]; exact h1, ?_⟩
  rcases h2 with ⟨hv, _⟩ | ⟨g', cap', cur, hv, hg, hh, q1, q2, q3, q4⟩
  · cases hv
  · cases hv
    refine .inr ⟨g, cap, cur.set! j u, rfl, hg, heap_setA u hh, q1, q2, by simpa using q3, ?_⟩
    rw [← q4]
    simp only [Array.set!_eq_setIfInBounds, Array.toList_setIfInBounds]
    rw [List.take_set]
theorem nil_form {W : World} {base : Nat} {e : TypeId} {size : Nat} {v : Value} {n : Nat} {xs : List Value} (h : W.ownsRow base e size v n xs) (hn : 0 < n) : ∃ g cap, v = .slice (some ⟨g, 0, none⟩) n cap := by
  rcases h.2 with ⟨_, h0⟩ | ⟨g, cap, cur, hv, _⟩
  · omega
  · exact ⟨g, cap, hv⟩
section
variable {W : World} {rb mb n : Nat} {s : AsmS} {vl vu : Value} {g cap : Nat}
/-- A place is laid into an instruction. -/
theorem Rd.setV (h : Rd W rb mb n s (.slice (some ⟨g, 0, none⟩) s.code.length cap) vl vu) (i : Nat) (hi : i < s.code.length) (v : Int) :
    Rd (W.setCell ⟨g, i * 7 + 4, none⟩ (.int .u64 v)) rb mb n { s with code := s.code.set i { s.code.getD i inst0 with v := v } } (.slice (some ⟨g, 0, none⟩) s.code.length cap) vl vu ∧ Only (foot rb mb (.slice (some ⟨g, 0, none⟩) s.code.length cap) vl vu) W (W.setCell ⟨g, i * 7 + 4, none⟩ (.int .u64 v)) := by
  obtain ⟨a1, a2, a3, a4⟩ := h.cApart g rfl
  have kp : ∀ k, k ≠ g → (W.setCell ⟨g, i * 7 + 4, none⟩ (.int .u64 v)).heap[k]? = W.heap[k]? := fun k hk => Below.heap_setCell _ _ _ _ hk
  refine ⟨⟨by rw [kp rb a1.symm]; exact h.r, ?_, ownsRow_block h.l fun k hk => kp k (fun e => a3 (e ▸ hk)), ownsRow_block h.u fun k hk => kp k (fun e => a4 (e ▸ hk)), h.m.block (kp mb a2.symm)⟩, (Only.refl _ _).setCell (.inl (by simp [foot, Value.ownBlock])) _⟩
  have := own_set h.c (i * 7 + 4) (by rw [flatCs_len]; omega) (.int .u64 v)
  rw [flatCs_set _ _ _ hi] at this
  simpa using this
end
end Go.Proofs.YtneajiglkiffjaaGreatDoor
