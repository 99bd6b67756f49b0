/- The clock's ids and its queue (layer 8), plain: what the map says of each id, read off the queue. -/
import Derived.Test.YtobbmhboahognaaDoorHeapSpec
namespace Go.Proofs.YtobbmhboahognaaDoor
open Go.RowKit
set_option linter.unusedVariables false

/-- No id twice. -/
def WD (S : List Itm) : Prop := S.Pairwise fun x y => x.w ≠ y.w
/-- What is said of an id. -/
def fOf (S : List Itm) (k : Int) : Option (Int × Int) := (S.find? fun x => x.w == k).map fun x => (x.h, x.d)
def aput (f : Int → Option (Int × Int)) (k : Int) (p : Int × Int) : Int → Option (Int × Int) := fun j => if j = k then some p else f j
def adel (f : Int → Option (Int × Int)) (k : Int) : Int → Option (Int × Int) := fun j => if j = k then none else f j
theorem WD.perm {S T : List Itm} (h : WD S) (p : S.Perm T) : WD T := (p.pairwise_iff (fun {_ _} h => Ne.symm h)).1 h
theorem fOf_none {S : List Itm} {k : Int} (h : ∀ x ∈ S, x.w ≠ k) : fOf S k = none := by
  unfold fOf
  rw [List.find?_eq_none.2 (fun x hx => by simpa using h x hx)]; rfl
theorem fOf_at {A B : List Itm} {y : Itm} (h : ∀ x ∈ A, x.w ≠ y.w) : fOf (A ++ y :: B) y.w = some (y.h, y.d) := by
  unfold fOf
  rw [List.find?_append, List.find?_eq_none.2 (fun x hx => by simpa using h x hx)]
  simp
theorem fOf_cases (S : List Itm) (k : Int) : ((∀ x ∈ S, x.w ≠ k) ∧ fOf S k = none) ∨ ∃ A y B, S = A ++ y :: B ∧ y.w = k ∧ (∀ x ∈ A, x.w ≠ k) ∧ fOf S k = some (y.h, y.d) := by
  induction S with
  | nil => exact .inl ⟨by simp, rfl⟩
  | cons y S ih =>
    by_cases hy : y.w = k
    · exact .inr ⟨[], y, S, rfl, hy, by simp, by rw [← hy]; exact fOf_at (A := []) (by simp)⟩
    · rcases ih with ⟨h, e⟩ | ⟨A, z, B, rfl, hz, hA, e⟩
      · have h' : ∀ x ∈ y :: S, x.w ≠ k := fun x hx => by
          rcases List.mem_cons.1 hx with rfl | hx
          · exact hy
          · exact h x hx
        exact .inl ⟨h', fOf_none h'⟩
      · have hA' : ∀ x ∈ y :: A, x.w ≠ k := fun x hx => by
          rcases List.mem_cons.1 hx with rfl | hx
          · exact hy
          · exact hA x hx
        exact .inr ⟨y :: A, z, B, rfl, hz, hA', by rw [← hz]; exact fOf_at (A := y :: A) (fun x hx => by rw [hz]; exact hA' x hx)⟩
theorem fOf_mem {S : List Itm} (h : WD S) {x : Itm} (hx : x ∈ S) : fOf S x.w = some (x.h, x.d) := by
  rcases fOf_cases S x.w with ⟨h1, _⟩ | ⟨A, y, B, rfl, hy, hA, e⟩
  · exact absurd rfl (h1 x hx)
  · rw [e]
    rcases List.mem_append.1 hx with hx | hx
    · exact absurd rfl (hA x hx)
    · rcases List.mem_cons.1 hx with rfl | hx
      · rfl
      · have := (List.pairwise_cons.1 (List.pairwise_append.1 h).2.1).1 x hx
        exact absurd hy this
theorem fOf_perm {S T : List Itm} (h : WD S) (p : S.Perm T) (k : Int) : fOf S k = fOf T k := by
  rcases fOf_cases S k with ⟨h1, e⟩ | ⟨A, y, B, rfl, hy, hA, e⟩
  · rw [e, fOf_none (fun x hx => h1 x (p.mem_iff.2 hx))]
  · rw [e, ← hy, fOf_mem (h.perm p) (p.mem_iff.1 (by simp))]
theorem WD.ins {S : List Itm} (h : WD S) {x : Itm} (hx : ∀ y ∈ S, y.w ≠ x.w) : WD (insI S x) :=
  WD.perm (S := x :: S) (List.pairwise_cons.2 ⟨fun y hy e => hx y hy e.symm, h⟩) (insI_perm S x).symm
theorem fOf_ins {S : List Itm} (h : WD S) {x : Itm} (hx : ∀ y ∈ S, y.w ≠ x.w) : fOf (insI S x) = aput (fOf S) x.w (x.h, x.d) := by
  funext k
  rw [fOf_perm (h.ins hx) (insI_perm S x)]
  unfold aput
  by_cases e : k = x.w
  · subst e; rw [if_pos rfl]; exact fOf_at (A := []) (by simp)
  · rw [if_neg e]
    unfold fOf
    rw [List.find?_cons_of_neg (by simpa using fun h => e h.symm)]
theorem WD.del {A B : List Itm} {y : Itm} (h : WD (A ++ y :: B)) : WD (A ++ B) := List.Pairwise.sublist (List.Sublist.append_left (List.sublist_cons_self _ _) _) h
theorem WD.apart {A B : List Itm} {y : Itm} (h : WD (A ++ y :: B)) : (∀ x ∈ A, x.w ≠ y.w) ∧ ∀ x ∈ B, x.w ≠ y.w := by
  obtain ⟨h1, h2, h3⟩ := List.pairwise_append.1 h
  exact ⟨fun x hx => h3 x hx y (by simp), fun x hx e => (List.pairwise_cons.1 h2).1 x hx e.symm⟩
theorem fOf_del {A B : List Itm} {y : Itm} (h : WD (A ++ y :: B)) : fOf (A ++ B) = adel (fOf (A ++ y :: B)) y.w := by
  obtain ⟨h1, h2⟩ := h.apart
  funext k
  unfold adel
  by_cases e : k = y.w
  · subst e
    rw [if_pos rfl]
    exact fOf_none fun x hx => by
      rcases List.mem_append.1 hx with hx | hx
      · exact h1 x hx
      · exact h2 x hx
  · rw [if_neg e]
    unfold fOf
    rw [List.find?_append, List.find?_append, List.find?_cons_of_neg (by simpa using fun h => e h.symm)]
theorem insI_length (S : List Itm) (x : Itm) : (insI S x).length = S.length + 1 := (insI_perm S x).length_eq
end Go.Proofs.YtobbmhboahognaaDoor
