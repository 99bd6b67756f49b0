/- Plain words (layer 5), nothing of the program: lines that say nothing, put in at the head of a line, change neither the instructions nor the labels of a text. -/
import Derived.Test.YtneajiglkiffjaaDoorAsmText
namespace Go.Proofs.YtneajiglkiffjaaDoor
open Go.RowKit
set_option linter.unusedVariables false

/-- Labels or uses without their lines. -/
def bare (l : List (List UInt8 × Nat × Nat)) : List (List UInt8 × Nat) := l.map fun q => (q.1, q.2.1)
theorem any_bare (l : List (List UInt8 × Nat × Nat)) (x : List UInt8) : (l.any fun q => q.1 == x) = (bare l).any fun q => q.1 == x := by
  simp [bare, List.any_map, Function.comp_def]
/-- The same but for the lines' numbers. -/
structure Alike (s s' : AsmS) : Prop where
  c : s.code = s'.code
  l : bare s.labels = bare s'.labels
  u : bare s.uses = bare s'.uses
def AlikeR : AsmR AsmS → AsmR AsmS → Prop
  | .ok a, .ok b => Alike a b
  | .ok _, _ => False
  | _, .ok _ => False
  | .text, .text => True
  | .err, .err => True
  | _, _ => False
theorem lineP_alike (t : List UInt8) (n m : Nat) {s s' : AsmS} (h : Alike s s') : AlikeR (lineP t n s) (lineP t m s') := by
  obtain ⟨hc, hl, hu⟩ := h
  unfold lineP
  generalize fieldsB (cutAt 59 t).1 = ws
  simp only []
  by_cases h0 : ws = []
  · rw [if_pos h0, if_pos h0]; exact ⟨hc, hl, hu⟩
  · rw [if_neg h0, if_neg h0]
    by_cases h1 : isLabel ws = true
    · rw [if_pos h1, if_pos h1, any_bare, any_bare, hl]
      split
      · trivial
      · refine ⟨hc, ?_, hu⟩
        show bare (_ ++ _) = bare (_ ++ _)
        unfold bare at hl ⊢
        rw [List.map_append, List.map_append, hl, hc]
        rfl
    · rw [if_neg h1, if_neg h1]
      cases insP ws with
      | none => trivial
      | some q =>
        obtain ⟨x, us⟩ := q
        refine ⟨by show _ ++ _ = _ ++ _; rw [hc], hl, ?_⟩
        show bare (_ ++ _) = bare (_ ++ _)
        unfold bare at hu ⊢
        rw [List.map_append, List.map_append, hu, hc, List.map_map, List.map_map]
        rfl
def AlikeS : Sum AsmS (Option Nat) → Sum AsmS (Option Nat) → Prop
  | .inl a, .inl b => Alike a b
  | .inr _, .inr _ => True
  | _, _ => False
theorem linesP_alike : ∀ (ls : List (List UInt8)) (n m : Nat) {s s' : AsmS}, Alike s s' → AlikeS (linesP ls n s) (linesP ls m s')
  | [], n, m, s, s', h => h
  | t :: r, n, m, s, s', h => by
    have hh := lineP_alike t n m h
    rw [linesP, linesP]
    cases h1 : lineP t n s with
    | ok a =>
      cases h2 : lineP t m s' with
      | ok b => rw [h1, h2] at hh; exact linesP_alike r (n + 1) (m + 1) hh
      | text => rw [h1, h2] at hh; exact hh.elim
      | err => rw [h1, h2] at hh; exact hh.elim
    | text => cases h2 : lineP t m s' <;> rw [h1, h2] at hh <;> first | exact hh.elim | trivial
    | err => cases h2 : lineP t m s' <;> rw [h1, h2] at hh <;> first | exact hh.elim | trivial
theorem linesP_append : ∀ (p r : List (List UInt8)) (n : Nat) (s : AsmS), linesP (p ++ r) n s = match linesP p n s with | .inl s' => linesP r (n + p.length) s' | .inr e => .inr e
  | [], r, n, s => rfl
  | t :: p, r, n, s => by
    rw [List.cons_append, linesP, linesP]
    cases lineP t n s with
    | ok s' => simp only []; rw [linesP_append p r (n + 1) s', List.length_cons, show n + 1 + p.length = n + (p.length + 1) by omega]
    | text => rfl
    | err => rfl
theorem linesP_silent : ∀ (q r : List (List UInt8)) (n : Nat) (s : AsmS), (∀ t ∈ q, fieldsB (cutAt 59 t).1 = []) → linesP (q ++ r) n s = linesP r (n + q.length) s
  | [], r, n, s, _ => rfl
  | t :: q, r, n, s, h => by
    have e : lineP t n s = .ok s := by unfold lineP; simp only []; rw [if_pos (h t (by simp))]
    rw [List.cons_append, linesP, e]
    simp only []
    rw [linesP_silent q r (n + 1) s (fun x hx => h x (by simp [hx])), List.length_cons, show n + 1 + q.length = n + (q.length + 1) by omega]
theorem linesP_put (p q r : List (List UInt8)) (n : Nat) (s : AsmS) (h : ∀ t ∈ q, fieldsB (cutAt 59 t).1 = []) : AlikeS (linesP (p ++ r) n s) (linesP (p ++ (q ++ r)) n s) := by
  rw [linesP_append, linesP_append]
  cases linesP p n s with
  | inl s' => simp only []; rw [linesP_silent q r _ s' h]; exact linesP_alike r _ _ ⟨rfl, rfl, rfl⟩
  | inr e => trivial
/-- The places laid in, by labels and uses without their lines. -/
def usesQ (ls : List (List UInt8 × Nat)) : List (List UInt8 × Nat) → List Inst → Option (List Inst)
  | [], c => some c
  | (u, i) :: r, c => match (((ls.reverse.find? (·.1 == u)).map (·.2)) : Option Nat) with | none => none | some k => usesQ ls r (c.set i { c.getD i inst0 with v := k })
theorem place_bare (ls : List (List UInt8 × Nat × Nat)) (u : List UInt8) : ((bare ls).reverse.find? (·.1 == u)).map (·.2) = (placeOf ls u).map (·.1) := by
  unfold placeOf bare
  rw [← List.map_reverse, List.find?_map, Option.map_map, Option.map_map]
  rfl
theorem uses_bare (ls : List (List UInt8 × Nat × Nat)) : ∀ (us : List (List UInt8 × Nat × Nat)) (c : List Inst), usesP ls us c = usesQ (bare ls) (bare us) c
  | [], c => rfl
  | (u, i, n) :: r, c => by
    have e : bare ((u, i, n) :: r) = (u, i) :: bare r := rfl
    rw [e, usesP, usesQ, place_bare]
    cases placeOf ls u with
    | none => rfl
    | some k => simp only [Option.map_some]; exact uses_bare ls r _
def AlikeP : PRes → PRes → Prop
  | .ok c l, .ok c' l' => c = c' ∧ bare l = bare l'
  | .ok _ _, _ => False
  | _, .ok _ _ => False
  | _, _ => True
theorem finish_alike {s s' : AsmS} (h : Alike s s') : AlikeP (finishP s) (finishP s') := by
  obtain ⟨hc, hl, hu⟩ := h
  unfold finishP
  rw [uses_bare, uses_bare, hc, hl, hu]
  cases usesQ (bare s'.labels) (bare s'.uses) s'.code with
  | none => trivial
  | some c =>
    have e : ∀ l : List (List UInt8 × Nat × Nat), (l.any fun q => q.2.1 == c.length) = (bare l).any fun q => q.2 == c.length := fun l => by simp [bare, List.any_map, Function.comp_def]
    simp only []
    rw [e, e, hl]
    split
    · trivial
    · exact ⟨rfl, hl⟩
theorem linesB_ne : ∀ a : List UInt8, ∃ l r, linesB a = l :: r
  | [] => ⟨[], [], rfl⟩
  | c :: t => by
    rw [linesB]
    obtain ⟨l, r, e⟩ := linesB_ne t
    split
    · exact ⟨_, _, rfl⟩
    · rw [e]; exact ⟨_, _, rfl⟩
theorem linesB_cut : ∀ a b : List UInt8, linesB (a ++ 10 :: b) = linesB a ++ linesB b
  | [], b => by simp [linesB]
  | c :: a, b => by
    rw [List.cons_append, linesB, linesB, linesB_cut a b]
    split
    · rfl
    · obtain ⟨l, r, e⟩ := linesB_ne a
      rw [e]; rfl
/-- The lines that say nothing. -/
def silentL : List (List UInt8) := [[], [32, 32, 32], [59, 32, 106, 109, 112, 32, 110, 111, 119, 104, 101, 114, 101], [32, 32, 59], [32, 59, 32, 120, 58, 32]]
def moreB (n : Nat) : List UInt8 := (silentL.take n).flatMap fun t => t ++ [10]
theorem linesB_more : ∀ (q : List (List UInt8)) (b : List UInt8), (∀ t ∈ q, linesB t = [t]) → linesB ((q.flatMap fun t => t ++ [10]) ++ b) = q ++ linesB b
  | [], b, _ => rfl
  | t :: q, b, h => by
    rw [List.flatMap_cons, List.append_assoc, List.append_assoc, List.singleton_append, linesB_cut, h t (by simp), linesB_more q b (fun x hx => h x (by simp [hx]))]
    rfl
theorem silent_lines : ∀ t ∈ silentL, linesB t = [t] := by decide +kernel
theorem silent_words : ∀ t ∈ silentL, fieldsB (cutAt 59 t).1 = [] := by decide +kernel
theorem more_len (n : Nat) : (moreB n).length ≤ 40 := by
  unfold moreB
  match n with
  | 0 | 1 | 2 | 3 | 4 => decide +kernel
  | n + 5 => rw [List.take_of_length_le (by show 5 ≤ n + 5; omega)]; decide +kernel
theorem more_step (i : Nat) (hi : i < 5) : moreB (i + 1) = moreB i ++ (silentL.getD i [] ++ [10]) := by
  match i, hi with
  | 0, _ | 1, _ | 2, _ | 3, _ | 4, _ => rfl
/-- The text with the lines put in says the same. -/
theorem silent_text (T : List UInt8) (k n : Nat) (hk : k ≤ T.length) (h0 : k = 0 ∨ T[k - 1]? = some 10) (hT : T.length ≤ 5000) : AlikeP (parseP T) (parseP (T.take k ++ moreB n ++ T.drop k)) := by
  obtain ⟨p, h1, h2⟩ : ∃ p, linesB T = p ++ linesB (T.drop k) ∧ linesB (T.take k ++ moreB n ++ T.drop k) = p ++ (silentL.take n ++ linesB (T.drop k)) := by
    have hm := linesB_more (silentL.take n) (T.drop k) (fun t ht => silent_lines t (List.mem_of_mem_take ht))
    have hm' : linesB (moreB n ++ T.drop k) = silentL.take n ++ linesB (T.drop k) := hm
    rcases h0 with rfl | h0
    · exact ⟨[], by simp, by simpa using hm'⟩
    · by_cases hk0 : k = 0
      · subst hk0; exact ⟨[], by simp, by simpa using hm'⟩
      · have hlt : k - 1 < T.length := by omega
        have e1 : T.take k = T.take (k - 1) ++ [10] := by
          have := List.take_add_one (l := T) (i := k - 1)
          rw [show k - 1 + 1 = k by omega, h0] at this
          simpa using this
        refine ⟨linesB (T.take (k - 1)), ?_, ?_⟩
        · conv => lhs; rw [← List.take_append_drop k T, e1, List.append_assoc, List.singleton_append, linesB_cut]
        · rw [e1, List.append_assoc, List.append_assoc, List.singleton_append, linesB_cut, hm']
  have hml := more_len n
  have hl2 : (T.take k ++ moreB n ++ T.drop k).length ≤ 65536 := by simp; omega
  unfold parseP
  rw [if_neg (by omega), if_neg (by omega), h1, h2]
  have hh := linesP_put p (silentL.take n) (linesB (T.drop k)) 0 {} (fun t ht => silent_words t (List.mem_of_mem_take ht))
  cases e1 : linesP (p ++ linesB (T.drop k)) 0 {} with
  | inl a =>
    cases e2 : linesP (p ++ (silentL.take n ++ linesB (T.drop k))) 0 {} with
    | inl b => rw [e1, e2] at hh; exact finish_alike hh
    | inr x => rw [e1, e2] at hh; exact hh.elim
  | inr x =>
    cases e2 : linesP (p ++ (silentL.take n ++ linesB (T.drop k))) 0 {} with
    | inl b => rw [e1, e2] at hh; exact hh.elim
    | inr y => cases x <;> cases y <;> trivial
end Go.Proofs.YtneajiglkiffjaaDoor
