/- Plain words on blocks of cells between two places (layer 3), nothing of the program: the list of blocks, the gaps between them, the first gap that is long enough, the longest; where a block belongs; how many cells they have. -/
import Derived.Test.YtlodelcenejfhaaDoorFrame
namespace Go.Proofs.YtlodelcenejfhaaDoor
open Go.RowKit
set_option linter.unusedVariables false

/-- A block: its first cell, how many, their width. -/
structure Blk where
  p : Int
  n : Int
  k : Int
def Blk.cells (b : Blk) : List Value := [.int .i64 b.p, .int .i64 b.n, .int .i64 b.k]
/-- The blocks' cells, as a slice of structs holds them. -/
def flat : List Blk → List Value
  | [] => []
  | b :: L => .int .i64 b.p :: .int .i64 b.n :: .int .i64 b.k :: flat L
theorem flat_length : ∀ L : List Blk, (flat L).length = L.length * 3
  | [] => rfl
  | b :: L => by simp only [flat, List.length_cons, flat_length L]; omega
theorem flat_append : ∀ L R : List Blk, flat (L ++ R) = flat L ++ flat R
  | [], R => rfl
  | b :: L, R => by simp only [List.cons_append, flat, flat_append L R]
theorem flat_drop : ∀ (L : List Blk) (i : Nat), flat (L.drop i) = (flat L).drop (i * 3)
  | L, 0 => by simp
  | [], i + 1 => by simp [flat]
  | b :: L, i + 1 => by rw [List.drop_succ_cons, flat_drop L i, flat, show (i + 1) * 3 = i * 3 + 1 + 1 + 1 by omega]; rfl
theorem flat_take : ∀ (L : List Blk) (i : Nat), flat (L.take i) = (flat L).take (i * 3)
  | L, 0 => by simp [flat]
  | [], i + 1 => by simp [flat]
  | b :: L, i + 1 => by rw [List.take_succ_cons, flat, flat_take L i, flat, show (i + 1) * 3 = i * 3 + 1 + 1 + 1 by omega]; rfl
def blk0 : Blk := ⟨0, 0, 0⟩
theorem flat_at : ∀ (L : List Blk) (i : Nat), i < L.length → (flat L)[i * 3]? = some (.int .i64 (L.getD i blk0).p) ∧ (flat L)[i * 3 + 1]? = some (.int .i64 (L.getD i blk0).n) ∧ (flat L)[i * 3 + 2]? = some (.int .i64 (L.getD i blk0).k)
  | [], i, h => by simp at h
  | b :: L, 0, _ => by simp [flat]
  | b :: L, i + 1, h => by
    have := flat_at L i (by simpa using h)
    rw [flat, show (i + 1) * 3 = i * 3 + 1 + 1 + 1 by omega]
    simpa using this
theorem flat_one : ∀ (L : List Blk) (v : Value), v ∈ flat L → v.oneCell' = true
  | [], v, h => by simp [flat] at h
  | b :: L, v, h => by
    simp only [flat, List.mem_cons] at h
    rcases h with rfl | rfl | rfl | h
    · rfl
    · rfl
    · rfl
    · exact flat_one L v h

/-- The free ranges, in order: before, between and behind the blocks: each one's first cell, and how many. -/
def gaps (e : Int) : Int → List Blk → List (Int × Int)
  | f, [] => [(f, e - f)]
  | f, b :: L => (f, b.p - f) :: gaps e (b.p + b.n) L
/-- Blocks between f and e, one behind the other. -/
def Chain (e : Int) : Int → List Blk → Prop
  | f, [] => f ≤ e
  | f, b :: L => f ≤ b.p ∧ 1 ≤ b.n ∧ Chain e (b.p + b.n) L
theorem Chain.le {e : Int} : ∀ {f : Int} {L : List Blk}, Chain e f L → f + L.length ≤ e
  | f, [], h => by simpa [Chain] using h
  | f, b :: L, ⟨h1, h2, h3⟩ => by have := h3.le; simp only [List.length_cons]; omega
/-- The cells that the blocks have. -/
def usedOf : List Blk → Int
  | [] => 0
  | b :: L => b.n + usedOf L
theorem usedOf_append : ∀ L R : List Blk, usedOf (L ++ R) = usedOf L + usedOf R
  | [], R => by simp [usedOf]
  | b :: L, R => by simp only [List.cons_append, usedOf, usedOf_append L R]; omega
theorem Chain.used {e : Int} : ∀ {f : Int} {L : List Blk}, Chain e f L → 0 ≤ usedOf L ∧ f + usedOf L ≤ e
  | f, [], h => by simpa [Chain, usedOf] using h
  | f, b :: L, ⟨h1, h2, h3⟩ => by have := h3.used; simp only [usedOf]; omega
/-- The longest of some ranges. -/
def longest : List (Int × Int) → Int := List.foldl (fun m g => max m g.2) 0
theorem longest_snoc (l : List (Int × Int)) (g : Int × Int) : longest (l ++ [g]) = max (longest l) g.2 := by simp [longest]
theorem longest_nonneg (l : List (Int × Int)) : 0 ≤ longest l := by
  have : ∀ (l : List (Int × Int)) (m : Int), m ≤ List.foldl (fun m g => max m g.2) m l := by
    intro l
    induction l with
    | nil => intro m; simp
    | cons g l ih => intro m; simp only [List.foldl_cons]; exact Int.le_trans (Int.le_max_left _ _) (ih _)
  exact this l 0
/-- The first cell of the first range that has n cells. -/
def firstGap (n : Int) (l : List (Int × Int)) : Option Int := (l.find? fun g => decide (n ≤ g.2)).map (·.1)
theorem firstGap_nil (n : Int) : firstGap n [] = none := rfl
theorem firstGap_cons (n : Int) (g : Int × Int) (l : List (Int × Int)) : firstGap n (g :: l) = if n ≤ g.2 then some g.1 else firstGap n l := by
  unfold firstGap
  by_cases h : n ≤ g.2
  · simp [List.find?, h]
  · simp [List.find?, h]
theorem firstGap_none : ∀ {n : Int} {l : List (Int × Int)}, (∀ g ∈ l, g.2 < n) → firstGap n l = none
  | n, [], _ => rfl
  | n, g :: l, h => by
    have := h g (by simp)
    rw [firstGap_cons, if_neg (by omega)]
    exact firstGap_none fun x hx => h x (by simp [hx])
theorem firstGap_here : ∀ {n : Int} (ini : List (Int × Int)) (g : Int × Int) (r : List (Int × Int)), (∀ x ∈ ini, x.2 < n) → n ≤ g.2 → firstGap n (ini ++ g :: r) = some g.1
  | n, [], g, r, _, h => by rw [List.nil_append, firstGap_cons, if_pos h]
  | n, x :: ini, g, r, h0, h => by
    have := h0 x (by simp)
    rw [List.cons_append, firstGap_cons, if_neg (by omega)]
    exact firstGap_here ini g r (fun y hy => h0 y (by simp [hy])) h
/-- There is room for n cells just if the longest range has as many. -/
theorem firstGap_longest (n : Int) (hn : 1 ≤ n) : ∀ (l : List (Int × Int)), firstGap n l = none ↔ longest l < n := by
  have key : ∀ (l : List (Int × Int)) (m : Int), m < n → (firstGap n l = none ↔ List.foldl (fun m g => max m g.2) m l < n) := by
    intro l
    induction l with
    | nil => intro m hm; simp [firstGap_nil, hm]
    | cons g l ih =>
      intro m hm
      rw [firstGap_cons]
      simp only [List.foldl_cons]
      by_cases h : n ≤ g.2
      · rw [if_pos h]
        have mono : ∀ (l : List (Int × Int)) (m : Int), m ≤ List.foldl (fun m g => max m g.2) m l := by
          intro l
          induction l with
          | nil => intro m; simp
          | cons g l ih => intro m; simp only [List.foldl_cons]; exact Int.le_trans (Int.le_max_left _ _) (ih _)
        have := mono l (max m g.2)
        simp only [reduceCtorEq, false_iff]
        omega
      · rw [if_neg h]
        exact ih _ (by omega)
  exact fun l => key l 0 (by omega)
theorem gaps_length (e : Int) : ∀ (f : Int) (L : List Blk), (gaps e f L).length = L.length + 1
  | f, [] => rfl
  | f, b :: L => by simp only [gaps, List.length_cons, gaps_length e _ L]
theorem gaps_range {e : Int} : ∀ {f : Int} {L : List Blk}, Chain e f L → ∀ g ∈ gaps e f L, f ≤ g.1 ∧ 0 ≤ g.2 ∧ g.1 + g.2 ≤ e
  | f, [], h, g, hg => by
    simp only [gaps, List.mem_singleton] at hg
    subst hg
    simp only [Chain] at h
    exact ⟨by simp, by simp; omega, by simp; omega⟩
  | f, b :: L, ⟨h1, h2, h3⟩, g, hg => by
    simp only [gaps, List.mem_cons] at hg
    have hl := h3.le
    rcases hg with rfl | hg
    · exact ⟨by simp, by simp; omega, by simp; omega⟩
    · have := gaps_range h3 g hg
      omega

/-- The block that is laid into its place among blocks by their places. -/
def putIn (b : Blk) : List Blk → List Blk
  | [] => [b]
  | c :: L => if c.p < b.p then c :: putIn b L else b :: c :: L
theorem putIn_at (b : Blk) : ∀ (L : List Blk) (i : Nat), (∀ j, j < i → (L.getD j blk0).p < b.p) → (∀ j, i ≤ j → j < L.length → b.p ≤ (L.getD j blk0).p) → i ≤ L.length → putIn b L = L.take i ++ b :: L.drop i
  | [], i, _, _, hi => by
    obtain rfl : i = 0 := by simpa using hi
    rfl
  | c :: L, 0, _, h1, _ => by
    have := h1 0 (by omega) (by simp)
    rw [putIn, if_neg (by simpa using this)]; rfl
  | c :: L, i + 1, h0, h1, hi => by
    have := h0 0 (by omega)
    rw [putIn, if_pos (by simpa using this)]
    rw [putIn_at b L i (fun j hj => by simpa using h0 (j + 1) (by omega)) (fun j hj hl => by simpa using h1 (j + 1) (by omega) (by simpa using hl)) (by simpa using hi)]
    rfl
/-- In its first range that is long enough a block makes a longer chain. -/
theorem Chain.put {e n : Int} (hn : 1 ≤ n) (k : Int) : ∀ {f at' : Int} {L : List Blk}, Chain e f L → firstGap n (gaps e f L) = some at' → Chain e f (putIn ⟨at', n, k⟩ L) ∧ f ≤ at' ∧ at' + n ≤ e
  | f, at', [], h, hg => by
    rw [gaps, firstGap_cons, firstGap_nil] at hg
    split at hg
    · rename_i h1
      obtain rfl : f = at' := by simpa using hg
      simp only [Chain] at h
      exact ⟨⟨by simp, hn, by simp only [Chain]; simp at h1; omega⟩, by omega, by simp at h1; omega⟩
    · cases hg
  | f, at', b :: L, ⟨h1, h2, h3⟩, hg => by
    rw [gaps, firstGap_cons] at hg
    have hl := h3.le
    split at hg
    · rename_i h4
      obtain rfl : f = at' := by simpa using hg
      simp only at h4
      rw [putIn, if_neg (by simp; omega)]
      exact ⟨⟨by simp, hn, by simp; omega, h2, h3⟩, by omega, by omega⟩
    · have ih := Chain.put hn k h3 hg
      rw [putIn, if_pos (by simp; omega)]
      exact ⟨⟨h1, h2, ih.1⟩, by omega, by omega⟩
/-- The blocks' places ascend. -/
theorem Chain.up {e : Int} : ∀ {f : Int} {L : List Blk}, Chain e f L → ∀ j, j < L.length → f ≤ (L.getD j blk0).p ∧ 1 ≤ (L.getD j blk0).n ∧ (L.getD j blk0).p + (L.getD j blk0).n ≤ e ∧ ∀ i, i < j → (L.getD i blk0).p + (L.getD i blk0).n ≤ (L.getD j blk0).p
  | f, [], _, j, h => by simp at h
  | f, b :: L, ⟨h1, h2, h3⟩, 0, _ => by
    have := h3.le
    exact ⟨by simpa using h1, by simpa using h2, by simp; omega, fun i hi => by omega⟩
  | f, b :: L, ⟨h1, h2, h3⟩, j + 1, h => by
    have ih := h3.up j (by simpa using h)
    refine ⟨by simp at ih ⊢; omega, by simpa using ih.2.1, by simpa using ih.2.2.1, fun i hi => ?_⟩
    cases i with
    | zero => simpa using ih.1
    | succ i => simpa using ih.2.2.2 i (by omega)
/-- The block at a place is taken out. -/
def takeOut (p : Int) : List Blk → List Blk
  | [] => []
  | c :: L => if c.p = p then L else c :: takeOut p L
theorem takeOut_at (p : Int) : ∀ (L : List Blk) (i : Nat), i < L.length → (∀ j, j < i → (L.getD j blk0).p ≠ p) → (L.getD i blk0).p = p → takeOut p L = L.take i ++ L.drop (i + 1)
  | [], i, h, _, _ => by simp at h
  | c :: L, 0, _, _, h => by rw [takeOut, if_pos (by simpa using h)]; rfl
  | c :: L, i + 1, hl, h0, h => by
    rw [takeOut, if_neg (by simpa using h0 0 (by omega)), takeOut_at p L i (by simpa using hl) (fun j hj => by simpa using h0 (j + 1) (by omega)) (by simpa using h)]
    rfl
theorem Chain.mono {e : Int} : ∀ {f f' : Int} {L : List Blk}, Chain e f L → f' ≤ f → Chain e f' L
  | f, f', [], h, hf => by simp only [Chain] at h ⊢; omega
  | f, f', b :: L, ⟨h1, h2, h3⟩, hf => ⟨by omega, h2, h3⟩
theorem Chain.out {e : Int} (p : Int) : ∀ {f : Int} {L : List Blk}, Chain e f L → Chain e f (takeOut p L)
  | f, [], h => h
  | f, b :: L, ⟨h1, h2, h3⟩ => by
    rw [takeOut]
    split
    · exact h3.mono (by omega)
    · exact ⟨h1, h2, h3.out p⟩
/-- How many cells there are at a place of the chain: which block, or none. -/
def blockAt (p : Int) : List Blk → Option Blk
  | [] => none
  | c :: L => if c.p = p then some c else blockAt p L
theorem usedOf_putIn (b : Blk) : ∀ L : List Blk, usedOf (putIn b L) = usedOf L + b.n
  | [] => by simp [putIn, usedOf]
  | c :: L => by
    rw [putIn]
    split
    · simp only [usedOf, usedOf_putIn b L]; omega
    · simp only [usedOf]; omega
theorem putIn_length (b : Blk) : ∀ L : List Blk, (putIn b L).length = L.length + 1
  | [] => rfl
  | c :: L => by
    rw [putIn]
    split
    · simp only [List.length_cons, putIn_length b L]
    · simp only [List.length_cons]
theorem takeOut_length (p : Int) : ∀ L : List Blk, (takeOut p L).length ≤ L.length
  | [] => by simp [takeOut]
  | c :: L => by
    rw [takeOut]
    split
    · simp
    · simpa using takeOut_length p L
end Go.Proofs.YtlodelcenejfhaaDoor
