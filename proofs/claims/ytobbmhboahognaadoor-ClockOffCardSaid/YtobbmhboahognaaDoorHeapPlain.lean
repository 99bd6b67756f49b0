/- Plain words on queues (layer 7), nothing of the program: items, their order, a list that is a binary heap but for a gap, the two ways in which the gap moves, and what is at the end. -/
import Derived.WalkKit
import Derived.Lib.Hide
namespace Go.Proofs.YtobbmhboahognaaDoor
set_option linter.unusedVariables false

/-- An item: its deadline, its what, its handle. -/
structure Itm where
  d : Int
  w : Int
  h : Int
def itm0 : Itm := ⟨0, 0, 0⟩
/-- x comes earlier than y. -/
def ltI (x y : Itm) : Prop := x.d < y.d ∨ (x.d = y.d ∧ x.h < y.h)
instance (x y : Itm) : Decidable (ltI x y) := by unfold ltI; exact inferInstance
/-- What compare answers. -/
def cmpD (x y : Int) : Int := if x < y then -1 else if y < x then 1 else 0
def cmpI (x y : Itm) : Int := if cmpD x.d y.d = 0 then cmpD x.h y.h else cmpD x.d y.d
theorem cmpI_neg (x y : Itm) : cmpI x y < 0 ↔ ltI x y := by
  unfold cmpI cmpD ltI
  repeat' split
  all_goals first | omega | (simp_all; omega) | simp_all
theorem cmpI_pos (x y : Itm) : 0 < cmpI x y ↔ ltI y x := by
  unfold cmpI cmpD ltI
  repeat' split
  all_goals first | omega | (simp_all; omega) | simp_all

/-- The item at an index. -/
def at_ (L : List Itm) (i : Nat) : Itm := L.getD i itm0
theorem at_get (L : List Itm) (i : Nat) (h : i < L.length) : at_ L i = L[i] := by simp [at_, h]
theorem at_set (L : List Itm) (g : Nat) (v : Itm) (hg : g < L.length) (i : Nat) : at_ (L.set g v) i = if i = g then v else at_ L i := by
  unfold at_
  rw [List.getD_eq_getElem?_getD, List.getElem?_set]
  by_cases h : g = i
  · subst h; simp [hg]
  · rw [if_neg h, if_neg (fun e => h e.symm), List.getD_eq_getElem?_getD]

/-- A binary heap. -/
def Heaped (C : List Itm) : Prop := ∀ i, 0 < i → i < C.length → ¬ ltI (at_ C i) (at_ C ((i - 1) / 2))
/-- A binary heap but for a gap at g, whose children come not earlier than the one above it. -/
structure Hole (C : List Itm) (g : Nat) : Prop where
  lt : g < C.length
  ord : ∀ i, 0 < i → i < C.length → i ≠ g → (i - 1) / 2 ≠ g → ¬ ltI (at_ C i) (at_ C ((i - 1) / 2))
  up : 0 < g → ∀ i, 0 < i → i < C.length → (i - 1) / 2 = g → ¬ ltI (at_ C i) (at_ C ((g - 1) / 2))
theorem ltI_trans {x y z : Itm} (h : ¬ ltI y x) (k : ¬ ltI z y) : ¬ ltI z x := by unfold ltI at *; omega
theorem ltI_asymm {x y : Itm} (h : ltI x y) : ¬ ltI y x := by unfold ltI at *; omega
theorem ltI_irrefl (x : Itm) : ¬ ltI x x := by unfold ltI; omega

/-- The smaller child n of the gap goes up; the gap goes to n. -/
theorem Hole.down {C : List Itm} {g n : Nat} (h : Hole C g) (hn : n < C.length) (hp : (n - 1) / 2 = g) (h0 : 0 < n) (hm : ∀ m, 0 < m → m < C.length → (m - 1) / 2 = g → ¬ ltI (at_ C m) (at_ C n)) :
    Hole (C.set g (at_ C n)) n := by
  have hl := h.lt
  have hng : n ≠ g := by omega
  refine ⟨by simpa using hn, fun i i0 il hi hpi => ?_, fun _ i i0 il hpi => ?_⟩
  · simp only [List.length_set] at il
    rw [at_set _ _ _ hl, at_set _ _ _ hl]
    by_cases e : i = g
    · subst e
      rw [if_pos rfl, if_neg (by omega)]
      exact h.up i0 n h0 hn hp
    · rw [if_neg e]
      by_cases e2 : (i - 1) / 2 = g
      · rw [if_pos e2]; exact hm i i0 il e2
      · rw [if_neg e2]; exact h.ord i i0 il e e2
  · simp only [List.length_set] at il
    rw [at_set _ _ _ hl, at_set _ _ _ hl, if_neg (by omega), if_pos hp]
    have := h.ord i i0 il (by omega) (by omega)
    rwa [hpi] at this
/-- All that lies below the gap comes not earlier than x. -/
def Under (C : List Itm) (g : Nat) (x : Itm) : Prop := ∀ i, 0 < i → i < C.length → (i - 1) / 2 = g → ¬ ltI (at_ C i) x
/-- The item above the gap, later than x, goes down; the gap goes up. -/
theorem Hole.above {C : List Itm} {g : Nat} {x : Itm} (h : Hole C g) (h0 : 0 < g) (hu : Under C g x) (hx : ¬ ltI (at_ C ((g - 1) / 2)) x) :
    Hole (C.set g (at_ C ((g - 1) / 2))) ((g - 1) / 2) ∧ Under (C.set g (at_ C ((g - 1) / 2))) ((g - 1) / 2) x := by
  have hl := h.lt
  refine ⟨⟨by simp; omega, fun i i0 il hi hpi => ?_, fun hg i i0 il hpi => ?_⟩, fun i i0 il hpi => ?_⟩
  · simp only [List.length_set] at il
    rw [at_set _ _ _ hl, at_set _ _ _ hl]
    by_cases e : i = g
    · omega
    · rw [if_neg e]
      by_cases e2 : (i - 1) / 2 = g
      · rw [if_pos e2]; exact h.up h0 i i0 il e2
      · rw [if_neg e2]; exact h.ord i i0 il e e2
  · simp only [List.length_set] at il
    rw [at_set _ _ _ hl, at_set _ _ _ hl, if_neg (show ¬ ((g - 1) / 2 - 1) / 2 = g by omega)]
    have hpp := h.ord ((g - 1) / 2) hg (by omega) (by omega) (by omega)
    by_cases e : i = g
    · rw [if_pos e]; exact hpp
    · rw [if_neg e]
      have := h.ord i i0 il e (by omega)
      rw [hpi] at this
      exact ltI_trans hpp this
  · simp only [List.length_set] at il
    rw [at_set _ _ _ hl]
    by_cases e : i = g
    · rw [if_pos e]; exact hx
    · rw [if_neg e]
      have := h.ord i i0 il e (by omega)
      rw [hpi] at this
      exact ltI_trans hx this
/-- x fills the gap. -/
theorem Hole.fill {C : List Itm} {g : Nat} {x : Itm} (h : Hole C g) (hu : Under C g x) (hx : 0 < g → ¬ ltI x (at_ C ((g - 1) / 2))) : Heaped (C.set g x) := by
  have hl := h.lt
  intro i i0 il
  simp only [List.length_set] at il
  rw [at_set _ _ _ hl, at_set _ _ _ hl]
  by_cases e : i = g
  · subst e; rw [if_pos rfl, if_neg (by omega)]; exact hx i0
  · rw [if_neg e]
    by_cases e2 : (i - 1) / 2 = g
    · rw [if_pos e2]; exact hu i i0 il e2
    · rw [if_neg e2]; exact h.ord i i0 il e e2
theorem Heaped.hole {C : List Itm} (h : Heaped C) {g : Nat} (hg : g < C.length) : Hole C g :=
  ⟨hg, fun i i0 il _ _ => h i i0 il, fun g0 i i0 il hp => by
    have h1 := h i i0 il
    rw [hp] at h1
    exact ltI_trans (h g g0 hg) h1⟩
theorem Heaped.min {C : List Itm} (h : Heaped C) : ∀ i, i < C.length → ¬ ltI (at_ C i) (at_ C 0) := by
  intro i
  induction i using Nat.strongRecOn with
  | _ i ih =>
    intro hi
    by_cases e : i = 0
    · subst e; exact ltI_irrefl _
    · have h1 := h i (by omega) hi
      have h2 := ih ((i - 1) / 2) (by omega) (by omega)
      exact ltI_trans h2 h1
/-- One step of the gap leaves the same items, once x is laid in. -/
theorem step_perm (C : List Itm) (g n : Nat) (x : Itm) (hg : g < C.length) (hn : n < C.length) (hne : g ≠ n) : ((C.set g (at_ C n)).set n x).Perm (C.set g x) := by
  have hp := List.set_set_perm (as := C.set g x) (i := g) (j := n) (by simpa using hg) (by simpa using hn)
  have e1 : (C.set g x)[g]'(by simpa using hg) = x := by simp
  have e2 : (C.set g x)[n]'(by simpa using hn) = at_ C n := by rw [List.getElem_set_ne hne, at_get]
  rw [e1, e2, List.set_set] at hp
  exact hp
/-- Where the handles lie, but for the gap and for x. -/
def PosOK (C : List Itm) (g : Nat) (x : Itm) (f : Int → Option Nat) : Prop := ∀ k, k ≠ x.h → ∀ i, f k = some i ↔ i < C.length ∧ i ≠ g ∧ (at_ C i).h = k
def PosAll (L : List Itm) (f : Int → Option Nat) : Prop := ∀ k i, f k = some i ↔ i < L.length ∧ (at_ L i).h = k
def fput (f : Int → Option Nat) (k : Int) (i : Nat) : Int → Option Nat := fun j => if j = k then some i else f j
def fdel (f : Int → Option Nat) (k : Int) : Int → Option Nat := fun j => if j = k then none else f j
/-- No two handles are the same. -/
def Distinct (L : List Itm) : Prop := ∀ i j, i < L.length → j < L.length → (at_ L i).h = (at_ L j).h → i = j
theorem distinct_iff (L : List Itm) : Distinct L ↔ (L.map (·.h)).Nodup := by
  rw [List.Nodup, List.pairwise_map, List.pairwise_iff_getElem]
  constructor
  · intro h i j hi hj hij e
    have := h i j hi hj (by rw [at_get _ _ hi, at_get _ _ hj]; exact e)
    omega
  · intro h i j hi hj e
    rw [at_get _ _ hi, at_get _ _ hj] at e
    rcases Nat.lt_trichotomy i j with k | k | k
    · exact absurd e (h i j hi hj k)
    · exact k
    · exact absurd e.symm (h j i hj hi k)
theorem Distinct.perm {L M : List Itm} (h : Distinct L) (p : M.Perm L) : Distinct M := by
  rw [distinct_iff] at *
  exact ((p.map (·.h)).nodup_iff).2 h
theorem PosOK.step {C : List Itm} {g n : Nat} {x : Itm} {f : Int → Option Nat} (h : PosOK C g x f) (hd : Distinct (C.set g x)) (hg : g < C.length) (hn : n < C.length) (hne : n ≠ g) :
    PosOK (C.set g (at_ C n)) n x (fput f (at_ C n).h g) := by
  have hdn : ∀ i, i < C.length → i ≠ g → (at_ C i).h = (at_ C n).h → i = n := fun i hi hig e => hd i n (by simpa using hi) (by simpa using hn) (by rw [at_set _ _ _ hg, at_set _ _ _ hg, if_neg hig, if_neg hne]; exact e)
  intro k hk i
  unfold fput
  rw [List.length_set, at_set _ _ _ hg]
  by_cases e : k = (at_ C n).h
  · rw [if_pos e]
    subst e
    constructor
    · intro e'; cases e'; exact ⟨hg, fun e => hne e.symm, by rw [if_pos rfl]⟩
    · rintro ⟨h1, h2, h3⟩
      by_cases e2 : i = g
      · rw [e2]
      · rw [if_neg e2] at h3
        exact absurd (hdn i h1 e2 h3) h2
  · rw [if_neg e, h k hk i]
    constructor
    · rintro ⟨h1, h2, h3⟩
      exact ⟨h1, fun e' => e (by rw [← h3, e']), by rw [if_neg h2]; exact h3⟩
    · rintro ⟨h1, h2, h3⟩
      by_cases e2 : i = g
      · rw [if_pos e2] at h3; exact absurd h3.symm e
      · rw [if_neg e2] at h3; exact ⟨h1, e2, h3⟩
theorem PosOK.fill {C : List Itm} {g : Nat} {x : Itm} {f : Int → Option Nat} (h : PosOK C g x f) (hd : Distinct (C.set g x)) (hg : g < C.length) : PosAll (C.set g x) (fput f x.h g) := by
  intro k i
  unfold fput
  rw [List.length_set, at_set _ _ _ hg]
  by_cases e : k = x.h
  · rw [if_pos e]
    subst e
    constructor
    · intro e'; cases e'; exact ⟨hg, by rw [if_pos rfl]⟩
    · rintro ⟨h1, h3⟩
      have := hd i g (by simpa using h1) (by simpa using hg) (by rw [at_set _ _ _ hg, at_set _ _ _ hg, if_pos rfl]; exact h3)
      rw [this]
  · rw [if_neg e, h k e i]
    constructor
    · rintro ⟨h1, h2, h3⟩; exact ⟨h1, by rw [if_neg h2]; exact h3⟩
    · rintro ⟨h1, h3⟩
      by_cases e2 : i = g
      · rw [if_pos e2] at h3; exact absurd h3.symm e
      · rw [if_neg e2] at h3; exact ⟨h1, e2, h3⟩
end Go.Proofs.YtobbmhboahognaaDoor
