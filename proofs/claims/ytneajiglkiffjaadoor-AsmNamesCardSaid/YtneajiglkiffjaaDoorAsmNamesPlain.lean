/- Plain facts for the statement on names (layer 5), nothing of the program: what is read of a label with a name and a jump to it. -/
import Derived.Test.YtneajiglkiffjaaDoorAsmText
import Derived.Test.YtneajiglkiffjaaDoorStrs
namespace Go.Proofs.YtneajiglkiffjaaDoor
set_option linter.unusedVariables false

def okAt (l : List UInt8) (t : Nat) : Bool := isLow (l.getD t 0) || (decide (0 < t) && (decide (48 ≤ (l.getD t 0).toNat) && decide ((l.getD t 0).toNat ≤ 57)))
def goodOn (l : List UInt8) : Nat → Bool
  | 0 => decide (1 ≤ l.length) && decide (l.length ≤ 16)
  | i + 1 => goodOn l i && okAt l i
theorem goodOn_iff (l : List UInt8) : ∀ i, goodOn l i = true ↔ (1 ≤ l.length ∧ l.length ≤ 16) ∧ ∀ t, t < i → okAt l t = true
  | 0 => by simp [goodOn]
  | i + 1 => by
    rw [goodOn, Bool.and_eq_true, goodOn_iff l i]
    constructor
    · rintro ⟨⟨h1, h2⟩, h3⟩
      refine ⟨h1, fun t ht => ?_⟩
      by_cases h : t < i
      · exact h2 t h
      · obtain rfl : t = i := by omega
        exact h3
    · rintro ⟨h1, h2⟩
      exact ⟨⟨h1, fun t ht => h2 t (by omega)⟩, h2 i (by omega)⟩
/-- Not a digit behind an r. -/
def notReg (l : List UInt8) : Prop := ¬ (l.getD 0 0 = 114 ∧ 1 < l.length ∧ 48 ≤ (l.getD 1 0).toNat ∧ (l.getD 1 0).toNat ≤ 57)
theorem regP_none (l : List UInt8) (h : goodOn l l.length = true) (hn : notReg l) : regP l = none := by
  obtain ⟨_, h2⟩ := (goodOn_iff l l.length).1 h
  cases l with
  | nil => rfl
  | cons c d =>
    by_cases hc : c = 114
    · subst hc
      rw [regP, if_pos rfl]
      have hb : ∃ n, readAll d = .bad n := by
        cases d with
        | nil => exact ⟨0, rfl⟩
        | cons a t =>
          have h3 := h2 1 (by simp)
          have h4 : ¬ (48 ≤ a.toNat ∧ a.toNat ≤ 57) := fun hd => hn ⟨rfl, by simp, by simpa using hd.1, by simpa using hd.2⟩
          have h5 : 97 ≤ a.toNat ∧ a.toNat ≤ 122 := by
            unfold okAt isLow at h3
            simp at h3
            omega
          have hp : [48, 120].isPrefixOf (a :: t) = false := by
            have : (48 : UInt8) ≠ a := fun e => by rw [← e] at h5; simp at h5
            simp [List.isPrefixOf, this]
          have hd : 10 ≤ dig a.toNat := by unfold dig; split; · omega
                                           split <;> (try split) <;> omega
          refine ⟨0, ?_⟩
          rw [readAll, hp]
          simp only [Bool.false_eq_true, if_false]
          rw [readOn, if_pos (.inl hd)]
      obtain ⟨n, hn⟩ := hb
      rw [hn]
    · rw [regP, if_neg hc]
theorem name_good (l : List UInt8) (h : goodOn l l.length = true) (hn : notReg l) : nameB l = true := by
  obtain ⟨⟨h1, h16⟩, h2⟩ := (goodOn_iff l l.length).1 h
  unfold nameB
  rw [regP_none l h hn, decide_eq_true h1, decide_eq_true h16]
  have h0 := h2 0 h1
  unfold okAt at h0
  simp only [Nat.lt_irrefl, decide_false, Bool.false_and, Bool.or_false] at h0
  rw [h0]
  have ha : l.all isLowDig = true := List.all_eq_true.2 fun c hc => by
    obtain ⟨t, ht, e⟩ := List.mem_iff_getElem.1 hc
    have h3 := h2 t ht
    unfold okAt at h3
    rw [List.getD_eq_getElem?_getD, List.getElem?_eq_getElem ht, Option.getD_some, e] at h3
    unfold isLowDig
    cases hl : isLow c with
    | true => rfl
    | false => rw [hl] at h3; simp at h3; simp [h3]
  rw [ha]; rfl
theorem name_bad (l : List UInt8) (h : goodOn l l.length = false) : nameB l = false := by
  cases hn : nameB l with
  | false => rfl
  | true =>
    exfalso
    unfold nameB at hn
    simp only [Bool.and_eq_true, decide_eq_true_eq] at hn
    obtain ⟨⟨⟨⟨h1, h2⟩, h3⟩, h4⟩, _⟩ := hn
    have : goodOn l l.length = true := (goodOn_iff l l.length).2 ⟨⟨h1, h2⟩, fun t ht => by
      unfold okAt
      have h5 := List.all_eq_true.1 h4 (l.getD t 0) (by rw [List.getD_eq_getElem?_getD, List.getElem?_eq_getElem ht]; exact List.getElem_mem _)
      unfold isLowDig at h5
      by_cases h0 : t = 0
      · rw [h0, h3]; rfl
      · rw [decide_eq_true (show 0 < t by omega), Bool.true_and]; exact h5⟩
    rw [h] at this; cases this
theorem fieldsOn_word (l w : List UInt8) (h : ∀ c ∈ l, c ≠ 32) (hw : w ++ l ≠ []) : fieldsOn l w = [w ++ l] := by
  rw [fieldsOn_skip l.length l w (Nat.le_refl _) (fun j hj => by rw [List.getD_eq_getElem?_getD, List.getElem?_eq_getElem hj]; exact h _ (List.getElem_mem _))]
  simp only [List.drop_length, List.take_length]
  rw [fieldsOn, if_neg hw]
theorem fieldsOn_blank (l w r : List UInt8) (h : ∀ c ∈ l, c ≠ 32) (hw : w ++ l ≠ []) : fieldsOn (l ++ 32 :: r) w = (w ++ l) :: fieldsOn r [] := by
  induction l generalizing w with
  | nil =>
    rw [List.nil_append, fieldsOn, if_pos rfl, if_neg (by simpa using hw)]
    simp
  | cons c t ih =>
    rw [List.cons_append, fieldsOn, if_neg (h c (by simp)), ih (w ++ [c]) (fun x hx => h x (by simp [hx])) (by simp)]
    simp
theorem jmp_ins (name : List UInt8) (hb : nameB name = true) : insP [[106, 109, 112], name] = some (⟨12, 0, 0, 0, 0, 0, 0⟩, [name]) := by
  have h1 : opP [106, 109, 112] = some 12 := by decide +kernel
  simp [insP, h1, formOf, formTab, markedB, opdsP, opdP, hb, inst0]
/-- What is read of it. -/
theorem names_parse (name : List UInt8) (hl : name.length ≤ 100) (hs : ∀ c ∈ name, c ≠ 10 ∧ c ≠ 32 ∧ c ≠ 59 ∧ c ≠ 58) :
    parseP (name ++ [58, 10, 106, 109, 112, 32] ++ name ++ [10]) = if nameB name then .ok [⟨12, 0, 0, 0, 0, 0, 0⟩] [(name, 0, 0)] else .text 0 := by
  have e0 : name ++ [58, 10, 106, 109, 112, 32] ++ name ++ [10] = (name ++ [58]) ++ 10 :: (([106, 109, 112, 32] ++ name) ++ 10 :: []) := by simp
  have hlines : linesB (name ++ [58, 10, 106, 109, 112, 32] ++ name ++ [10]) = [name ++ [58], [106, 109, 112, 32] ++ name, []] := by
    rw [e0, linesB_at _ _ (fun c hc => by
      rcases List.mem_append.1 hc with g | g
      · exact (hs c g).1
      · simp at g; rw [g]; decide), linesB_at _ _ (fun c hc => by
      rcases List.mem_append.1 hc with g | g
      · simp at g; rcases g with rfl | rfl | rfl | rfl <;> decide
      · exact (hs c g).1)]
    rfl
  have hc0 : (cutAt 59 (name ++ [58])).1 = name ++ [58] := by
    rw [cutAt_none 59 _ (fun c hc => by
      rcases List.mem_append.1 hc with g | g
      · exact (hs c g).2.2.1
      · simp at g; rw [g]; decide)]
  have hc1 : (cutAt 59 ([106, 109, 112, 32] ++ name)).1 = [106, 109, 112, 32] ++ name := by
    rw [cutAt_none 59 _ (fun c hc => by
      rcases List.mem_append.1 hc with g | g
      · simp at g; rcases g with rfl | rfl | rfl | rfl <;> decide
      · exact (hs c g).2.2.1)]
  have hf0 : fieldsB (name ++ [58]) = [name ++ [58]] := by
    unfold fieldsB
    rw [fieldsOn_word _ [] (fun c hc => by
      rcases List.mem_append.1 hc with g | g
      · exact (hs c g).2.1
      · simp at g; rw [g]; decide) (by simp)]
    rfl
  have line0 : lineP (name ++ [58]) 0 {} = if nameB name then .ok { labels := [(name, 0, 0)] } else .text := by
    unfold lineP
    simp only [hc0, hf0]
    rw [if_neg (by simp), if_pos (by simp [isLabel])]
    simp only [List.getD_cons_zero, List.dropLast_concat, List.any_nil, Bool.false_or]
    cases nameB name <;> rfl
  rw [parseP, if_neg (by simp; omega), hlines, linesP, line0]
  cases hb : nameB name with
  | false => rfl
  | true =>
    have hne : name ≠ [] := fun e => by rw [e] at hb; simp [nameB] at hb
    have hf1 : fieldsB ([106, 109, 112, 32] ++ name) = [[106, 109, 112], name] := by
      unfold fieldsB
      have := fieldsOn_blank [106, 109, 112] [] name (by decide) (by simp)
      rw [show [106, 109, 112, 32] ++ name = [106, 109, 112] ++ 32 :: name by simp, this, fieldsOn_word name [] (fun c hc => (hs c hc).2.1) (by simpa using hne)]
      simp
    have line1 : lineP ([106, 109, 112, 32] ++ name) 1 { labels := [(name, 0, 0)] } = .ok { code := [⟨12, 0, 0, 0, 0, 0, 0⟩], labels := [(name, 0, 0)], uses := [(name, 0, 1)] } := by
      unfold lineP
      simp only [hc1, hf1]
      rw [if_neg (by simp), if_neg (by simp [isLabel]), jmp_ins name hb]
      rfl
    simp only [if_true]
    rw [linesP, line1]
    simp only []
    rw [linesP]
    have line2 : lineP [] 2 { code := [⟨12, 0, 0, 0, 0, 0, 0⟩], labels := [(name, 0, 0)], uses := [(name, 0, 1)] } = .ok { code := [⟨12, 0, 0, 0, 0, 0, 0⟩], labels := [(name, 0, 0)], uses := [(name, 0, 1)] } := rfl
    rw [line2]
    simp [linesP, finishP, usesP, placeOf]
end Go.Proofs.YtneajiglkiffjaaDoor
