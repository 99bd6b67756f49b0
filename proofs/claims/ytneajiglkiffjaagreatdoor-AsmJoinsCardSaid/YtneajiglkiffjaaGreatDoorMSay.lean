/- Plain words on printed instructions (layer 5), nothing of the program: numerals, words, lines, a whole text read back. -/
import Derived.Test.YtneajiglkiffjaaGreatDoorPlain
import Derived.Test.YtneajiglkiffjaaGreatDoorAsmText
import Derived.Test.YtneajiglkiffjaaGreatDoorStrs
namespace Go.Proofs.YtneajiglkiffjaaGreatDoor

/-- The value of digits behind a value. -/
def val (b : Nat) (l : List UInt8) (v : Nat) : Nat := l.foldl (fun v c => v * b + dig c.toNat) v
theorem val_nil (b v : Nat) : val b [] v = v := rfl
theorem val_cons (b v : Nat) (c : UInt8) (l : List UInt8) : val b (c :: l) v = val b l (v * b + dig c.toNat) := rfl
theorem val_append (b v : Nat) (l r : List UInt8) : val b (l ++ r) v = val b r (val b l v) := by unfold val; rw [List.foldl_append]
theorem val_ge (b : Nat) (hb : 1 ≤ b) : ∀ (l : List UInt8) (v : Nat), v ≤ val b l v
  | [], v => Nat.le_refl _
  | c :: l, v => by
    rw [val_cons]
    have h1 := val_ge b hb l (v * b + dig c.toNat)
    have h2 : v * 1 ≤ v * b := Nat.mul_le_mul_left v hb
    omega
theorem val_shift (b : Nat) : ∀ (l : List UInt8) (v : Nat), val b l v = v * b ^ l.length + val b l 0
  | [], v => by simp [val]
  | c :: l, v => by
    rw [val_cons, val_cons, val_shift b l (v * b + dig c.toNat), val_shift b l (0 * b + dig c.toNat), List.length_cons, Nat.pow_succ, Nat.add_mul, Nat.add_mul]
    rw [Nat.mul_assoc v b, Nat.mul_comm b (b ^ l.length)]
    omega

theorem readOn_ok (b f m : Nat) (hb : 1 ≤ b) : ∀ (l : List UInt8) (i v : Nat), f ≤ i → (∀ c ∈ l, dig c.toNat < b) → i + l.length ≤ f + m → val b l v < 18446744073709551616 → (l = [] → i ≠ f) → readOn b f m l i v = .ok (val b l v)
  | [], i, v, _, _, _, _, hn => by rw [readOn, if_neg (hn rfl)]; rfl
  | c :: l, i, v, hf, hd, hl, hv, _ => by
    have h1 := hd c (by simp)
    rw [List.length_cons] at hl
    rw [val_cons] at hv ⊢
    have h2 := val_ge b hb l (v * b + dig c.toNat)
    rw [readOn, if_neg (by omega)]
    exact readOn_ok b f m hb l (i + 1) _ (by omega) (fun x hx => hd x (by simp [hx])) (by omega) hv (fun _ => by omega)

theorem readOn_long (b f m : Nat) : ∀ (l : List UInt8) (i v : Nat), i ≤ f + m → f + m < i + l.length → ∃ n, readOn b f m l i v = .bad n
  | [], i, v, h1, h2 => by simp at h2; omega
  | c :: l, i, v, h1, h2 => by
    rw [List.length_cons] at h2
    by_cases h : b ≤ dig c.toNat ∨ i = f + m ∨ 18446744073709551616 ≤ v * b + dig c.toNat
    · exact ⟨i, by rw [readOn, if_pos h]⟩
    · rw [readOn, if_neg h]
      exact readOn_long b f m l (i + 1) _ (by omega) (by omega)

theorem readOn_hex17 : ∀ (l : List UInt8) (i v : Nat), 2 ≤ i → i ≤ 18 → 18 < i + l.length → (∀ c ∈ l, dig c.toNat < 16) → v < 16 ^ (i - 2) → readOn 16 2 16 l i v = .bad 18
  | [], i, v, _, h1, h2, _, _ => by simp at h2; omega
  | c :: l, i, v, h0, h1, h2, hd, hv => by
    rw [List.length_cons] at h2
    have h3 := hd c (by simp)
    by_cases h : i = 18
    · rw [readOn, if_pos (Or.inr (Or.inl (by omega))), h]
    · have h4 : 16 ^ (i + 1 - 2) = 16 ^ (i - 2) * 16 := by rw [← Nat.pow_succ]; congr 1; omega
      have h5 : 16 ^ (i - 2) ≤ 16 ^ 15 := Nat.pow_le_pow_right (by omega) (by omega)
      have h6 : 16 ^ 15 = 1152921504606846976 := by decide
      rw [readOn, if_neg (by omega)]
      exact readOn_hex17 l (i + 1) _ (by omega) (by omega) (by omega) (fun x hx => hd x (by simp [hx])) (by omega)

/-! ### The decimal digits of a number -/
theorem dig_ofNat (d : Nat) (h : d < 10) : dig (UInt8.ofNat (48 + d)).toNat = d := by
  rw [UInt8.toNat_ofNat', Nat.mod_eq_of_lt (by omega), dig, if_pos (by omega)]; omega
theorem decDigits_lt (u : Nat) : ∀ c ∈ Lib.decDigits u, dig c.toNat < 10 := by
  induction u using Nat.strongRecOn with
  | ind u ih =>
    by_cases h : u < 10
    · rw [Lib.decDigits_one h]
      intro c hc
      obtain rfl := List.mem_singleton.1 hc
      rw [dig_ofNat u h]; exact h
    · rw [Lib.decDigits, dif_neg h]
      intro c hc
      rcases List.mem_append.1 hc with hc | hc
      · exact ih (u / 10) (by omega) c hc
      · obtain rfl := List.mem_singleton.1 hc
        rw [dig_ofNat _ (by omega)]; omega
theorem val_decDigits (u : Nat) : val 10 (Lib.decDigits u) 0 = u := by
  induction u using Nat.strongRecOn with
  | ind u ih =>
    by_cases h : u < 10
    · rw [Lib.decDigits_one h, val_cons, val_nil, dig_ofNat u h]; omega
    · rw [Lib.decDigits, dif_neg h, val_append, ih (u / 10) (by omega), val_cons, val_nil, dig_ofNat _ (by omega)]; omega
theorem decDigits_head (u : Nat) (hu : u ≠ 0) : ∃ c l, Lib.decDigits u = c :: l ∧ c.toNat ≠ 48 := by
  induction u using Nat.strongRecOn with
  | ind u ih =>
    by_cases h : u < 10
    · exact ⟨_, [], Lib.decDigits_one h, by rw [UInt8.toNat_ofNat', Nat.mod_eq_of_lt (by omega)]; omega⟩
    · obtain ⟨c, l, e, hc⟩ := ih (u / 10) (by omega) (by omega)
      exact ⟨c, l ++ [UInt8.ofNat (48 + u % 10)], by rw [Lib.decDigits, dif_neg h, e]; rfl, hc⟩
theorem val_zeros : ∀ (z : Nat), val 10 (List.replicate z 48) 0 = 0
  | 0 => rfl
  | z + 1 => by
    rw [List.replicate_succ, val_cons, show dig (48 : UInt8).toNat = 0 from rfl]
    exact val_zeros z
theorem zeros_lt (z : Nat) : ∀ c ∈ List.replicate z (48 : UInt8), dig c.toNat < 10 := fun c hc => by
  rw [(List.mem_replicate.1 hc).2]; decide

/-- A text of decimal digits has no 'x' behind its first byte. -/
theorem noPrefix (l : List UInt8) (hd : ∀ c ∈ l, dig c.toNat < 10) : readAll l = readOn 10 0 20 l 0 0 := by
  rw [readAll, if_neg]
  intro h
  have h1 : [48, 120] <+: l := List.isPrefixOf_iff_prefix.1 h
  have h2 := hd 120 (h1.subset (by simp))
  revert h2; decide
/-- P1.4: a number's digits, noughts ahead of them: read to that number. -/
theorem read_back (u z : Nat) (hu : u < 18446744073709551616) (hl : z + (Lib.decDigits u).length ≤ 20) : readAll (List.replicate z 48 ++ Lib.decDigits u) = .ok u := by
  have hd : ∀ c ∈ List.replicate z (48 : UInt8) ++ Lib.decDigits u, dig c.toNat < 10 := fun c hc => by
    rcases List.mem_append.1 hc with hc | hc
    · exact zeros_lt z c hc
    · exact decDigits_lt u c hc
  have hv : val 10 (List.replicate z (48 : UInt8) ++ Lib.decDigits u) 0 = u := by rw [val_append, val_zeros, val_decDigits]
  have hn : List.replicate z (48 : UInt8) ++ Lib.decDigits u ≠ [] := by
    intro h
    have h1 := (List.append_eq_nil_iff.1 h).2
    have h2 := Lib.decDigits_length u
    have h3 := Lib.nDigits_pos u
    rw [h1] at h2; simp at h2; omega
  rw [noPrefix _ hd, readOn_ok 10 0 20 (by omega) _ 0 0 (Nat.le_refl _) hd (by rw [List.length_append, List.length_replicate]; omega) (by rw [hv]; exact hu) (fun h => absurd h hn), hv]
theorem read_back_long (u z : Nat) (hl : 20 < z + (Lib.decDigits u).length) : ∃ n, readAll (List.replicate z 48 ++ Lib.decDigits u) = .bad n := by
  have hd : ∀ c ∈ List.replicate z (48 : UInt8) ++ Lib.decDigits u, dig c.toNat < 10 := fun c hc => by
    rcases List.mem_append.1 hc with hc | hc
    · exact zeros_lt z c hc
    · exact decDigits_lt u c hc
  rw [noPrefix _ hd]
  exact readOn_long 10 0 20 _ 0 0 (by omega) (by rw [List.length_append, List.length_replicate]; omega)

/-! ### Digits to sixteen -/
theorem val_hex (l : List UInt8) (hd : ∀ c ∈ l, dig c.toNat < 16) : val 16 l 0 < 16 ^ l.length := by
  induction l with
  | nil => decide
  | cons c l ih =>
    rw [val_cons, val_shift, List.length_cons, Nat.pow_succ]
    have h1 := ih (fun x hx => hd x (by simp [hx]))
    have h2 := hd c (by simp)
    have h3 : (0 * 16 + dig c.toNat) * 16 ^ l.length ≤ 15 * 16 ^ l.length := Nat.mul_le_mul_right _ (by omega)
    omega
/-- One digit more ahead. -/
theorem hex_step (v k : Nat) (c : UInt8) (t : List UInt8) (ht : t.length = k) (hv : val 16 t 0 = v % 16 ^ k) (hc : dig c.toNat = v / 16 ^ k % 16) : val 16 (c :: t) 0 = v % 16 ^ (k + 1) := by
  rw [val_cons, val_shift, ht, hv, Nat.zero_mul, Nat.zero_add, hc, Nat.pow_succ, Nat.mod_mul, Nat.mul_comm]
  omega
theorem read_hex (t : List UInt8) (hd : ∀ c ∈ t, dig c.toNat < 16) (h1 : 1 ≤ t.length) (h16 : t.length ≤ 16) : readAll (48 :: 120 :: t) = .ok (val 16 t 0) := by
  have h0 := val_hex t hd
  have h2 : 16 ^ t.length ≤ 16 ^ 16 := Nat.pow_le_pow_right (by omega) h16
  have h3 : 16 ^ 16 = 18446744073709551616 := by decide
  rw [readAll, if_pos (by simp [List.isPrefixOf])]
  exact readOn_ok 16 2 16 (by omega) t 2 0 (Nat.le_refl _) hd (by omega) (by omega) (fun h => by rw [h] at h1; simp at h1)
theorem read_hex17 (t : List UInt8) (hd : ∀ c ∈ t, dig c.toNat < 16) (h17 : 16 < t.length) : readAll (48 :: 120 :: t) = .bad 18 := by
  rw [readAll, if_pos (by simp [List.isPrefixOf])]
  exact readOn_hex17 t 2 0 (by omega) (by omega) (by omega) hd (by decide)
end Go.Proofs.YtneajiglkiffjaaGreatDoor

namespace Go.Proofs.YtneajiglkiffjaaGreatDoor
set_option linter.unusedVariables false

def okAt (l : List UInt8) (t : Nat) : Bool := isLow (l.getD t 0) || (decide (0 < t) && (decide (48 ≤ (l.getD t 0).toNat) && decide ((l.getD t 0).toNat ≤ 57)))
def goodOn (l : List UInt8) : Nat → Bool
  | 0 => decide (1 ≤ l.length) && decide (l.length ≤ 16)
  | i + 1 => goodOn l i && okAt l i
theorem goodOn_iff (l : List UInt8) : ∀ i, goodOn l i = true ↔ (1 ≤ l.length ∧ l.length ≤ 16) ∧ ∀ t, t < i → okAt l t = true
  | 0 => by simp [goodOn]
  | i + 1 => by
    rw [goodOn, Bool.and_eq_true, goodOn_iff l i]
    constructor
    · rintro ⟨⟨h1, h2⟩, h3⟩
      refine ⟨h1, fun t ht => ?_⟩
      by_cases h : t < i
      · exact h2 t h
      · obtain rfl : t = i := by omega
        exact h3
    · rintro ⟨h1, h2⟩
      exact ⟨⟨h1, fun t ht => h2 t (by omega)⟩, h2 i (by omega)⟩
/-- Not a digit behind an r. -/
def notReg (l : List UInt8) : Prop := ¬ (l.getD 0 0 = 114 ∧ 1 < l.length ∧ 48 ≤ (l.getD 1 0).toNat ∧ (l.getD 1 0).toNat ≤ 57)
theorem regP_none (l : List UInt8) (h : goodOn l l.length = true) (hn : notReg l) : regP l = none := by
  obtain ⟨_, h2⟩ := (goodOn_iff l l.length).1 h
  cases l with
  | nil => rfl
  | cons c d =>
    by_cases hc : c = 114
    · subst hc
      rw [regP, if_pos rfl]
      have hb : ∃ n, readAll d = .bad n := by
        cases d with
        | nil => exact ⟨0, rfl⟩
        | cons a t =>
          have h3 := h2 1 (by simp)
          have h4 : ¬ (48 ≤ a.toNat ∧ a.toNat ≤ 57) := fun hd => hn ⟨rfl, by simp, by simpa using hd.1, by simpa using hd.2⟩
          have h5 : 97 ≤ a.toNat ∧ a.toNat ≤ 122 := by
            unfold okAt isLow at h3
            simp at h3
            omega
          have hp : [48, 120].isPrefixOf (a :: t) = false := by
            have : (48 : UInt8) ≠ a := fun e => by rw [← e] at h5; simp at h5
            simp [List.isPrefixOf, this]
          have hd : 10 ≤ dig a.toNat := by unfold dig; split; · omega
                                           split <;> (try split) <;> omega
          refine ⟨0, ?_⟩
          rw [readAll, hp]
          simp only [Bool.false_eq_true, if_false]
          rw [readOn, if_pos (.inl hd)]
      obtain ⟨n, hn⟩ := hb
      rw [hn]
    · rw [regP, if_neg hc]
theorem name_good (l : List UInt8) (h : goodOn l l.length = true) (hn : notReg l) : nameB l = true := by
  obtain ⟨⟨h1, h16⟩, h2⟩ := (goodOn_iff l l.length).1 h
  unfold nameB
  rw [regP_none l h hn, decide_eq_true h1, decide_eq_true h16]
  have h0 := h2 0 h1
  unfold okAt at h0
  simp only [Nat.lt_irrefl, decide_false, Bool.false_and, Bool.or_false] at h0
  rw [h0]
  have ha : l.all isLowDig = true := List.all_eq_true.2 fun c hc => by
    obtain ⟨t, ht, e⟩ := List.mem_iff_getElem.1 hc
    have h3 := h2 t ht
    unfold okAt at h3
    rw [List.getD_eq_getElem?_getD, List.getElem?_eq_getElem ht, Option.getD_some, e] at h3
    unfold isLowDig
    cases hl : isLow c with
    | true => rfl
    | false => rw [hl] at h3; simp at h3; simp [h3]
  rw [ha]; rfl
theorem name_bad (l : List UInt8) (h : goodOn l l.length = false) : nameB l = false := by
  cases hn : nameB l with
  | false => rfl
  | true =>
    exfalso
    unfold nameB at hn
    simp only [Bool.and_eq_true, decide_eq_true_eq] at hn
    obtain ⟨⟨⟨⟨h1, h2⟩, h3⟩, h4⟩, _⟩ := hn
    have : goodOn l l.length = true := (goodOn_iff l l.length).2 ⟨⟨h1, h2⟩, fun t ht => by
      unfold okAt
      have h5 := List.all_eq_true.1 h4 (l.getD t 0) (by rw [List.getD_eq_getElem?_getD, List.getElem?_eq_getElem ht]; exact List.getElem_mem _)
      unfold isLowDig at h5
      by_cases h0 : t = 0
      · rw [h0, h3]; rfl
      · rw [decide_eq_true (show 0 < t by omega), Bool.true_and]; exact h5⟩
    rw [h] at this; cases this
theorem fieldsOn_word (l w : List UInt8) (h : ∀ c ∈ l, c ≠ 32) (hw : w ++ l ≠ []) : fieldsOn l w = [w ++ l] := by
  rw [fieldsOn_skip l.length l w (Nat.le_refl _) (fun j hj => by rw [List.getD_eq_getElem?_getD, List.getElem?_eq_getElem hj]; exact h _ (List.getElem_mem _))]
  simp only [List.drop_length, List.take_length]
  rw [fieldsOn, if_neg hw]
theorem fieldsOn_blank (l w r : List UInt8) (h : ∀ c ∈ l, c ≠ 32) (hw : w ++ l ≠ []) : fieldsOn (l ++ 32 :: r) w = (w ++ l) :: fieldsOn r [] := by
  induction l generalizing w with
  | nil =>
    rw [List.nil_append, fieldsOn, if_pos rfl, if_neg (by simpa using hw)]
    simp
  | cons c t ih =>
    rw [List.cons_append, fieldsOn, if_neg (h c (by simp)), ih (w ++ [c]) (fun x hx => h x (by simp [hx])) (by simp)]
    simp
theorem jmp_ins (name : List UInt8) (hb : nameB name = true) : insP [[106, 109, 112], name] = some (⟨12, 0, 0, 0, 0, 0, 0⟩, [name]) := by
  have h1 : opP [106, 109, 112] = some 12 := by decide +kernel
  simp [insP, h1, formOf, formTab, markedB, opdsP, opdP, hb, inst0]
/-- What is read of it. -/
theorem names_parse (name : List UInt8) (hl : name.length ≤ 100) (hs : ∀ c ∈ name, c ≠ 10 ∧ c ≠ 32 ∧ c ≠ 59 ∧ c ≠ 58) :
    parseP (name ++ [58, 10, 106, 109, 112, 32] ++ name ++ [10]) = if nameB name then .ok [⟨12, 0, 0, 0, 0, 0, 0⟩] [(name, 0, 0)] else .text 0 := by
  have e0 : name ++ [58, 10, 106, 109, 112, 32] ++ name ++ [10] = (name ++ [58]) ++ 10 :: (([106, 109, 112, 32] ++ name) ++ 10 :: []) := by simp
  have hlines : linesB (name ++ [58, 10, 106, 109, 112, 32] ++ name ++ [10]) = [name ++ [58], [106, 109, 112, 32] ++ name, []] := by
    rw [e0, linesB_at _ _ (fun c hc => by
      rcases List.mem_append.1 hc with g | g
      · exact (hs c g).1
      · simp at g; rw [g]; decide), linesB_at _ _ (fun c hc => by
      rcases List.mem_append.1 hc with g | g
      · simp at g; rcases g with rfl | rfl | rfl | rfl <;> decide
      · exact (hs c g).1)]
    rfl
  have hc0 : (cutAt 59 (name ++ [58])).1 = name ++ [58] := by
    rw [cutAt_none 59 _ (fun c hc => by
      rcases List.mem_append.1 hc with g | g
      · exact (hs c g).2.2.1
      · simp at g; rw [g]; decide)]
  have hc1 : (cutAt 59 ([106, 109, 112, 32] ++ name)).1 = [106, 109, 112, 32] ++ name := by
    rw [cutAt_none 59 _ (fun c hc => by
      rcases List.mem_append.1 hc with g | g
      · simp at g; rcases g with rfl | rfl | rfl | rfl <;> decide
      · exact (hs c g).2.2.1)]
  have hf0 : fieldsB (name ++ [58]) = [name ++ [58]] := by
    unfold fieldsB
    rw [fieldsOn_word _ [] (fun c hc => by
      rcases List.mem_append.1 hc with g | g
      · exact (hs c g).2.1
      · simp at g; rw [g]; decide) (by simp)]
    rfl
  have line0 : lineP (name ++ [58]) 0 {} = if nameB name then .ok { labels := [(name, 0, 0)] } else .text := by
    unfold lineP
    simp only [hc0, hf0]
    rw [if_neg (by simp), if_pos (by simp [isLabel])]
    simp only [List.getD_cons_zero, List.dropLast_concat, List.any_nil, Bool.false_or]
    cases nameB name <;> rfl
  rw [parseP, if_neg (by simp; omega), hlines, linesP, line0]
  cases hb : nameB name with
  | false => rfl
  | true =>
    have hne : name ≠ [] := fun e => by rw [e] at hb; simp [nameB] at hb
    have hf1 : fieldsB ([106, 109, 112, 32] ++ name) = [[106, 109, 112], name] := by
      unfold fieldsB
      have := fieldsOn_blank [106, 109, 112] [] name (by decide) (by simp)
      rw [show [106, 109, 112, 32] ++ name = [106, 109, 112] ++ 32 :: name by simp, this, fieldsOn_word name [] (fun c hc => (hs c hc).2.1) (by simpa using hne)]
      simp
    have line1 : lineP ([106, 109, 112, 32] ++ name) 1 { labels := [(name, 0, 0)] } = .ok { code := [⟨12, 0, 0, 0, 0, 0, 0⟩], labels := [(name, 0, 0)], uses := [(name, 0, 1)] } := by
      unfold lineP
      simp only [hc1, hf1]
      rw [if_neg (by simp), if_neg (by simp [isLabel]), jmp_ins name hb]
      rfl
    simp only [if_true]
    rw [linesP, line1]
    simp only []
    rw [linesP]
    have line2 : lineP [] 2 { code := [⟨12, 0, 0, 0, 0, 0, 0⟩], labels := [(name, 0, 0)], uses := [(name, 0, 1)] } = .ok { code := [⟨12, 0, 0, 0, 0, 0, 0⟩], labels := [(name, 0, 0)], uses := [(name, 0, 1)] } := rfl
    rw [line2]
    simp [linesP, finishP, usesP, placeOf]
end Go.Proofs.YtneajiglkiffjaaGreatDoor

namespace Go.Proofs.YtneajiglkiffjaaGreatDoor
open Go.RowKit
set_option linter.unusedVariables false

/-- Labels or uses without their lines. -/
def bare (l : List (List UInt8 × Nat × Nat)) : List (List UInt8 × Nat) := l.map fun q => (q.1, q.2.1)
theorem any_bare (l : List (List UInt8 × Nat × Nat)) (x : List UInt8) : (l.any fun q => q.1 == x) = (bare l).any fun q => q.1 == x := by
  simp [bare, List.any_map, Function.comp_def]
/-- The same but for the lines' numbers. -/
structure Alike (s s' : AsmS) : Prop where
  c : s.code = s'.code
  l : bare s.labels = bare s'.labels
  u : bare s.uses = bare s'.uses
def AlikeR : AsmR AsmS → AsmR AsmS → Prop
  | .ok a, .ok b => Alike a b
  | .ok _, _ => False
  | _, .ok _ => False
  | .text, .text => True
  | .err, .err => True
  | _, _ => False
theorem lineP_alike (t : List UInt8) (n m : Nat) {s s' : AsmS} (h : Alike s s') : AlikeR (lineP t n s) (lineP t m s') := by
  obtain ⟨hc, hl, hu⟩ := h
  unfold lineP
  generalize fieldsB (cutAt 59 t).1 = ws
  simp only []
  by_cases h0 : ws = []
  · rw [if_pos h0, if_pos h0]; exact ⟨hc, hl, hu⟩
  · rw [if_neg h0, if_neg h0]
    by_cases h1 : isLabel ws = true
    · rw [if_pos h1, if_pos h1, any_bare, any_bare, hl]
      split
      · trivial
      · refine ⟨hc, ?_, hu⟩
        show bare (_ ++ _) = bare (_ ++ _)
        unfold bare at hl ⊢
        rw [List.map_append, List.map_append, hl, hc]
        rfl
    · rw [if_neg h1, if_neg h1]
      cases insP ws with
      | none => trivial
      | some q =>
        obtain ⟨x, us⟩ := q
        refine ⟨by show _ ++ _ = _ ++ _; rw [hc], hl, ?_⟩
        show bare (_ ++ _) = bare (_ ++ _)
        unfold bare at hu ⊢
        rw [List.map_append, List.map_append, hu, hc, List.map_map, List.map_map]
        rfl
def AlikeS : Sum AsmS (Option Nat) → Sum AsmS (Option Nat) → Prop
  | .inl a, .inl b => Alike a b
  | .inr _, .inr _ => True
  | _, _ => False
theorem linesP_alike : ∀ (ls : List (List UInt8)) (n m : Nat) {s s' : AsmS}, Alike s s' → AlikeS (linesP ls n s) (linesP ls m s')
  | [], n, m, s, s', h => h
  | t :: r, n, m, s, s', h => by
    have hh := lineP_alike t n m h
    rw [linesP, linesP]
    cases h1 : lineP t n s with
    | ok a =>
      cases h2 : lineP t m s' with
      | ok b => rw [h1, h2] at hh; exact linesP_alike r (n + 1) (m + 1) hh
      | text => rw [h1, h2] at hh; exact hh.elim
      | err => rw [h1, h2] at hh; exact hh.elim
    | text => cases h2 : lineP t m s' <;> rw [h1, h2] at hh <;> first | exact hh.elim | trivial
    | err => cases h2 : lineP t m s' <;> rw [h1, h2] at hh <;> first | exact hh.elim | trivial
theorem linesP_append : ∀ (p r : List (List UInt8)) (n : Nat) (s : AsmS), linesP (p ++ r) n s = match linesP p n s with | .inl s' => linesP r (n + p.length) s' | .inr e => .inr e
  | [], r, n, s => rfl
  | t :: p, r, n, s => by
    rw [List.cons_append, linesP, linesP]
    cases lineP t n s with
    | ok s' => simp only []; rw [linesP_append p r (n + 1) s', List.length_cons, show n + 1 + p.length = n + (p.length + 1) by omega]
    | text => rfl
    | err => rfl
theorem linesP_silent : ∀ (q r : List (List UInt8)) (n : Nat) (s : AsmS), (∀ t ∈ q, fieldsB (cutAt 59 t).1 = []) → linesP (q ++ r) n s = linesP r (n + q.length) s
  | [], r, n, s, _ => rfl
  | t :: q, r, n, s, h => by
    have e : lineP t n s = .ok s := by unfold lineP; simp only []; rw [if_pos (h t (by simp))]
    rw [List.cons_append, linesP, e]
    simp only []
    rw [linesP_silent q r (n + 1) s (fun x hx => h x (by simp [hx])), List.length_cons, show n + 1 + q.length = n + (q.length + 1) by omega]
theorem linesP_put (p q r : List (List UInt8)) (n : Nat) (s : AsmS) (h : ∀ t ∈ q, fieldsB (cutAt 59 t).1 = []) : AlikeS (linesP (p ++ r) n s) (linesP (p ++ (q ++ r)) n s) := by
  rw [linesP_append, linesP_append]
  cases linesP p n s with
  | inl s' => simp only []; rw [linesP_silent q r _ s' h]; exact linesP_alike r _ _ ⟨rfl, rfl, rfl⟩
  | inr e => trivial
/-- The places laid in, by labels and uses without their lines. -/
def usesQ (ls : List (List UInt8 × Nat)) : List (List UInt8 × Nat) → List Inst → Option (List Inst)
  | [], c => some c
  | (u, i) :: r, c => match (((ls.reverse.find? (·.1 == u)).map (·.2)) : Option Nat) with | none => none | some k => usesQ ls r (c.set i { c.getD i inst0 with v := k })
theorem place_bare (ls : List (List UInt8 × Nat × Nat)) (u : List UInt8) : ((bare ls).reverse.find? (·.1 == u)).map (·.2) = (placeOf ls u).map (·.1) := by
  unfold placeOf bare
  rw [← List.map_reverse, List.find?_map, Option.map_map, Option.map_map]
  rfl
theorem uses_bare (ls : List (List UInt8 × Nat × Nat)) : ∀ (us : List (List UInt8 × Nat × Nat)) (c : List Inst), usesP ls us c = usesQ (bare ls) (bare us) c
  | [], c => rfl
  | (u, i, n) :: r, c => by
    have e : bare ((u, i, n) :: r) = (u, i) :: bare r := rfl
    rw [e, usesP, usesQ, place_bare]
    cases placeOf ls u with
    | none => rfl
    | some k => simp only [Option.map_some]; exact uses_bare ls r _
def AlikeP : PRes → PRes → Prop
  | .ok c l, .ok c' l' => c = c' ∧ bare l = bare l'
  | .ok _ _, _ => False
  | _, .ok _ _ => False
  | _, _ => True
theorem finish_alike {s s' : AsmS} (h : Alike s s') : AlikeP (finishP s) (finishP s') := by
  obtain ⟨hc, hl, hu⟩ := h
  unfold finishP
  rw [uses_bare, uses_bare, hc, hl, hu]
  cases usesQ (bare s'.labels) (bare s'.uses) s'.code with
  | none => trivial
  | some c =>
    have e : ∀ l : List (List UInt8 × Nat × Nat), (l.any fun q => q.2.1 == c.length) = (bare l).any fun q => q.2 == c.length := fun l => by simp [bare, List.any_map, Function.comp_def]
    simp only []
    rw [e, e, hl]
    split
    · trivial
    · exact ⟨rfl, hl⟩
theorem linesB_ne : ∀ a : List UInt8, ∃ l r, linesB a = l :: r
  | [] => ⟨[], [], rfl⟩
  | c :: t => by
    rw [linesB]
    obtain ⟨l, r, e⟩ := linesB_ne t
    split
    · exact ⟨_, _, rfl⟩
    · rw [e]; exact ⟨_, _, rfl⟩
theorem linesB_cut : ∀ a b : List UInt8, linesB (a ++ 10 :: b) = linesB a ++ linesB b
  | [], b => by simp [linesB]
  | c :: a, b => by
    rw [List.cons_append, linesB, linesB, linesB_cut a b]
    split
    · rfl
    · obtain ⟨l, r, e⟩ := linesB_ne a
      rw [e]; rfl
/-- The lines that say nothing. -/
def silentL : List (List UInt8) := [[], [32, 32, 32], [59, 32, 106, 109, 112, 32, 110, 111, 119, 104, 101, 114, 101], [32, 32, 59], [32, 59, 32, 120, 58, 32]]
def moreB (n : Nat) : List UInt8 := (silentL.take n).flatMap fun t => t ++ [10]
theorem linesB_more : ∀ (q : List (List UInt8)) (b : List UInt8), (∀ t ∈ q, linesB t = [t]) → linesB ((q.flatMap fun t => t ++ [10]) ++ b) = q ++ linesB b
  | [], b, _ => rfl
  | t :: q, b, h => by
    rw [List.flatMap_cons, List.append_assoc, List.append_assoc, List.singleton_append, linesB_cut, h t (by simp), linesB_more q b (fun x hx => h x (by simp [hx]))]
    rfl
theorem silent_lines : ∀ t ∈ silentL, linesB t = [t] := by decide +kernel
theorem silent_words : ∀ t ∈ silentL, fieldsB (cutAt 59 t).1 = [] := by decide +kernel
theorem more_len (n : Nat) : (moreB n).length ≤ 40 := by
  unfold moreB
  match n with
  | 0 | 1 | 2 | 3 | 4 => decide +kernel
  | n + 5 => rw [List.take_of_length_le (by show 5 ≤ n + 5; omega)]; decide +kernel
theorem more_step (i : Nat) (hi : i < 5) : moreB (i + 1) = moreB i ++ (silentL.getD i [] ++ [10]) := by
  match i, hi with
  | 0, _ | 1, _ | 2, _ | 3, _ | 4, _ => rfl
/-- The text with the lines put in says the same. -/
theorem silent_text (T : List UInt8) (k n : Nat) (hk : k ≤ T.length) (h0 : k = 0 ∨ T[k - 1]? = some 10) (hT : T.length ≤ 5000) : AlikeP (parseP T) (parseP (T.take k ++ moreB n ++ T.drop k)) := by
  obtain ⟨p, h1, h2⟩ : ∃ p, linesB T = p ++ linesB (T.drop k) ∧ linesB (T.take k ++ moreB n ++ T.drop k) = p ++ (silentL.take n ++ linesB (T.drop k)) := by
    have hm := linesB_more (silentL.take n) (T.drop k) (fun t ht => silent_lines t (List.mem_of_mem_take ht))
    have hm' : linesB (moreB n ++ T.drop k) = silentL.take n ++ linesB (T.drop k) := hm
    rcases h0 with rfl | h0
    · exact ⟨[], by simp, by simpa using hm'⟩
    · by_cases hk0 : k = 0
      · subst hk0; exact ⟨[], by simp, by simpa using hm'⟩
      · have hlt : k - 1 < T.length := by omega
        have e1 : T.take k = T.take (k - 1) ++ [10] := by
          have := List.take_add_one (l := T) (i := k - 1)
          rw [show k - 1 + 1 = k by omega, h0] at this
          simpa using this
        refine ⟨linesB (T.take (k - 1)), ?_, ?_⟩
        · conv => lhs; rw [← List.take_append_drop k T, e1, List.append_assoc, List.singleton_append, linesB_cut]
        · rw [e1, List.append_assoc, List.append_assoc, List.singleton_append, linesB_cut, hm']
  have hml := more_len n
  have hl2 : (T.take k ++ moreB n ++ T.drop k).length ≤ 65536 := by simp; omega
  unfold parseP
  rw [if_neg (by omega), if_neg (by omega), h1, h2]
  have hh := linesP_put p (silentL.take n) (linesB (T.drop k)) 0 {} (fun t ht => silent_words t (List.mem_of_mem_take ht))
  cases e1 : linesP (p ++ linesB (T.drop k)) 0 {} with
  | inl a =>
    cases e2 : linesP (p ++ (silentL.take n ++ linesB (T.drop k))) 0 {} with
    | inl b => rw [e1, e2] at hh; exact finish_alike hh
    | inr x => rw [e1, e2] at hh; exact hh.elim
  | inr x =>
    cases e2 : linesP (p ++ (silentL.take n ++ linesB (T.drop k))) 0 {} with
    | inl b => rw [e1, e2] at hh; exact hh.elim
    | inr y => cases x <;> cases y <;> trivial
end Go.Proofs.YtneajiglkiffjaaGreatDoor

namespace Go.Proofs.YtneajiglkiffjaaGreatDoor
open Go.RowKit
set_option linter.unusedVariables false

def decT (v : Int) : List UInt8 := Lib.decDigits v.toNat
def regT (r : Int) : List UInt8 := 114 :: decT r
/-- A label's name, with its letter. -/
def nameT (q : UInt8) (v : Int) : List UInt8 := q :: decT v
def cellT (x : Inst) : List UInt8 := if x.b = -1 then 91 :: decT x.v ++ [93] else if x.v = 0 then 91 :: regT x.b ++ [93] else 91 :: (regT x.b ++ 43 :: decT x.v) ++ [93]
/-- One operand's text. -/
def operandT (q : UInt8) (x : Inst) (k : Nat) : List UInt8 :=
  if k = 0 then regT x.a else if k = 1 then regT x.b else if k = 2 then regT x.c else if k = 3 then (if x.b = -1 then decT x.v else regT x.b) else if k = 4 then (if x.c = -1 then decT x.v else regT x.c) else
  if k = 5 then cellT x else if k = 6 then nameT q x.v else decT x.v
def whenT (k : Int) : List UInt8 := if k = 1 then [61, 48] else if k = 2 then [62, 48] else []
def markT (x : Inst) : List UInt8 := 33 :: decT x.m ++ whenT x.wh
def restT (q : UInt8) (x : Inst) : List (List UInt8) := (formOf x.op.toNat).map (operandT q x) ++ (if x.m = 0 then [] else [markT x])
/-- An instruction's line, without its end. -/
def lineT (q : UInt8) (x : Inst) : List UInt8 := opTab.getD x.op.toNat [] ++ (restT q x).flatMap fun w => 32 :: w

theorem dec_chars (u : Nat) : ∀ c ∈ Lib.decDigits u, 48 ≤ c.toNat ∧ c.toNat ≤ 57 := by
  induction u using Nat.strongRecOn with
  | ind u ih =>
    by_cases h : u < 10
    · rw [Lib.decDigits_one h]
      intro c hc
      rw [List.mem_singleton.1 hc, UInt8.toNat_ofNat', Nat.mod_eq_of_lt (by omega)]; omega
    · rw [Lib.decDigits, dif_neg h]
      intro c hc
      rcases List.mem_append.1 hc with g | g
      · exact ih (u / 10) (by omega) c g
      · rw [List.mem_singleton.1 g, UInt8.toNat_ofNat', Nat.mod_eq_of_lt (by omega)]; omega
theorem dec_len (u : Nat) : ∀ k, 1 ≤ k → u < 10 ^ k → (Lib.decDigits u).length ≤ k := by
  induction u using Nat.strongRecOn with
  | ind u ih =>
    intro k hk hu
    by_cases h : u < 10
    · rw [Lib.decDigits_one h]; simpa using hk
    · rw [Lib.decDigits, dif_neg h, List.length_append, List.length_singleton]
      obtain ⟨j, rfl⟩ : ∃ j, k = j + 1 := ⟨k - 1, by omega⟩
      by_cases hj : j = 0
      · subst hj; simp at hu; omega
      · have := ih (u / 10) (by omega) j (by omega) (by rw [Nat.pow_succ] at hu; omega)
        omega
theorem dec_ne (u : Nat) : Lib.decDigits u ≠ [] := by
  intro h
  have h1 := Lib.decDigits_length u
  have h2 := Lib.nDigits_pos u
  rw [h] at h1; simp at h1; omega
theorem read_dec (v : Int) (h0 : 0 ≤ v) (h1 : v < 18446744073709551616) : readAll (decT v) = .ok v.toNat := by
  have h2 := dec_len v.toNat 20 (by omega) (by omega)
  exact read_back v.toNat 0 (by omega) (by omega)
theorem num_dec (v : Int) (h0 : 0 ≤ v) (h1 : v < 18446744073709551616) : numP (decT v) = some v.toNat := by rw [numP, read_dec v h0 h1]
theorem reg_reg (r : Int) (h : regB r = true) : regP (regT r) = some r.toNat := by
  simp only [regB, Bool.and_eq_true, decide_eq_true_eq] at h
  rw [regT, regP, if_pos rfl, read_dec r (by omega) (by omega)]
  simp only []
  rw [if_pos ⟨by omega, rfl⟩]
theorem reg_other (c : UInt8) (d : List UInt8) (h : c ≠ 114) : regP (c :: d) = none := by rw [regP, if_neg h]
theorem dec_cons (v : Int) : ∃ c d, decT v = c :: d ∧ 48 ≤ c.toNat ∧ c.toNat ≤ 57 := by
  cases h : decT v with
  | nil => exact (dec_ne _ h).elim
  | cons c d => exact ⟨c, d, rfl, dec_chars v.toNat c (by unfold decT at h; rw [h]; simp)⟩
theorem reg_dec (v : Int) : regP (decT v) = none := by
  obtain ⟨c, d, h, h1, h2⟩ := dec_cons v
  rw [h, reg_other c d (fun e => by rw [e] at h2; simp at h2)]
theorem name_dec (v : Int) : nameB (decT v) = false := by
  obtain ⟨c, d, h, h1, h2⟩ := dec_cons v
  have : isLow c = false := by unfold isLow; simp; omega
  rw [h]; simp [nameB, this]
theorem name_name (q : UInt8) (hq : q = 112 ∨ q = 113) (v : Int) (h : v < 10000) : nameB (nameT q v) = true := by
  have h1 := dec_len v.toNat 4 (by omega) (by omega)
  have h2 : regP (nameT q v) = none := reg_other q _ (by rcases hq with rfl | rfl <;> decide)
  have h3 : isLow q = true := by rcases hq with rfl | rfl <;> decide
  have h4 : (nameT q v).all isLowDig = true := List.all_eq_true.2 fun c hc => by
    rcases List.mem_cons.1 hc with rfl | g
    · unfold isLowDig; rw [h3]; rfl
    · have := dec_chars _ c g
      unfold isLowDig
      rw [decide_eq_true this.1, decide_eq_true this.2]; simp
  unfold nameB
  rw [h2, h4]
  have h5 : (nameT q v).length = (decT v).length + 1 := by simp [nameT]
  have h6 : (nameT q v).getD 0 0 = q := rfl
  rw [h6, h3, h5, decide_eq_true (by omega), decide_eq_true (show (decT v).length + 1 ≤ 16 by unfold decT; omega)]
  rfl
/-- What an operand's field may be. -/
def okF (x : Inst) (k : Nat) : Prop :=
  (k = 0 → regB x.a = true) ∧ (k = 1 → regB x.b = true) ∧ (k = 2 → regB x.c = true) ∧ (k = 3 → regB x.b = true ∨ x.b = -1) ∧ (k = 4 → regB x.c = true ∨ x.c = -1) ∧ (k = 5 → regB x.b = true ∨ x.b = -1) ∧ (k = 6 → x.v < 10000)
def setF (x : Inst) (k : Nat) (y : Inst) : Inst :=
  if k = 0 then { y with a := x.a } else if k = 1 then { y with b := x.b } else if k = 2 then { y with c := x.c } else if k = 3 then (if x.b = -1 then { y with b := -1, v := x.v } else { y with b := x.b }) else
  if k = 4 then (if x.c = -1 then { y with c := -1, v := x.v } else { y with c := x.c }) else if k = 5 then (if x.b = -1 then { y with b := -1, v := x.v } else if x.v = 0 then { y with b := x.b } else { y with b := x.b, v := x.v }) else
  if k = 6 then y else { y with v := x.v }
def useF (q : UInt8) (x : Inst) (k : Nat) : List (List UInt8) := if k = 6 then [nameT q x.v] else []
theorem either_b (x y : Inst) (hb : regB x.b = true ∨ x.b = -1) (h0 : 0 ≤ x.v) (h1 : x.v < 18446744073709551616) : eitherB y (if x.b = -1 then decT x.v else regT x.b) = some (if x.b = -1 then { y with b := -1, v := x.v } else { y with b := x.b }) := by
  by_cases hn : x.b = -1
  · rw [if_pos hn, if_pos hn, eitherB, reg_dec, num_dec _ h0 h1]
    simp only [Option.map_some]
    rw [Int.toNat_of_nonneg h0]
  · rw [if_neg hn, if_neg hn, eitherB]
    have hb := hb.resolve_right hn
    rw [reg_reg _ hb]
    simp only [regB, Bool.and_eq_true, decide_eq_true_eq] at hb
    simp only []
    rw [Int.toNat_of_nonneg hb.1]
theorem either_c (x y : Inst) (hb : regB x.c = true ∨ x.c = -1) (h0 : 0 ≤ x.v) (h1 : x.v < 18446744073709551616) : eitherC y (if x.c = -1 then decT x.v else regT x.c) = some (if x.c = -1 then { y with c := -1, v := x.v } else { y with c := x.c }) := by
  by_cases hn : x.c = -1
  · rw [if_pos hn, if_pos hn, eitherC, reg_dec, num_dec _ h0 h1]
    simp only [Option.map_some]
    rw [Int.toNat_of_nonneg h0]
  · rw [if_neg hn, if_neg hn, eitherC]
    have hb := hb.resolve_right hn
    rw [reg_reg _ hb]
    simp only [regB, Bool.and_eq_true, decide_eq_true_eq] at hb
    simp only []
    rw [Int.toNat_of_nonneg hb.1]
theorem cell_form (t : List UInt8) (x : Inst) : cellP x (91 :: t ++ [93]) = match cutAt 43 t with
     | (r, q, true) => (match regP r with | some n => (numP q).map fun v : Nat => { x with b := n, v := v } | none => none)
     | (_, _, false) => eitherB x t := by
  have h1 : [91].isPrefixOf (91 :: t ++ [93]) = true := by simp [List.isPrefixOf]
  have h2 : (91 :: t ++ [93]).drop 1 = t ++ [93] := rfl
  have h3 : [93].isSuffixOf (t ++ [93]) = true := by rw [List.isSuffixOf_iff_suffix]; exact ⟨t, rfl⟩
  have h4 : (t ++ [93]).dropLast = t := by simp
  rw [cellP, h2, h1, h3, h4]
  simp only [Bool.and_self, if_true]
  rcases cutAt 43 t with ⟨r, q, _ | _⟩ <;> rfl
theorem dec_no (c : UInt8) (hc : c.toNat < 48 ∨ 57 < c.toNat) (v : Int) : ∀ x ∈ decT v, x ≠ c := fun x hx e => by
  have := dec_chars _ x hx
  rw [e] at this; omega
theorem reg_no (c : UInt8) (hc : c.toNat < 48 ∨ 57 < c.toNat) (h : c ≠ 114) (v : Int) : ∀ x ∈ regT v, x ≠ c := fun x hx => by
  rcases List.mem_cons.1 hx with rfl | g
  · exact fun e => h e.symm
  · exact dec_no c hc v x g
theorem cell_cell (x y : Inst) (hb : regB x.b = true ∨ x.b = -1) (h0 : 0 ≤ x.v) (h1 : x.v < 18446744073709551616) : cellP y (cellT x) = some (setF x 5 y) := by
  have hs : setF x 5 y = if x.b = -1 then { y with b := -1, v := x.v } else if x.v = 0 then { y with b := x.b } else { y with b := x.b, v := x.v } := by simp [setF]
  rw [hs]
  unfold cellT
  by_cases hn : x.b = -1
  · rw [if_pos hn, if_pos hn, cell_form, cutAt_none 43 _ (dec_no 43 (by decide) _)]
    have := either_b x y hb h0 h1
    rw [if_pos hn, if_pos hn] at this
    exact this
  · rw [if_neg hn, if_neg hn]
    have hb := hb.resolve_right hn
    by_cases hv : x.v = 0
    · rw [if_pos hv, if_pos hv, cell_form, cutAt_none 43 _ (reg_no 43 (by decide) (by decide) _)]
      have := either_b x y (.inl hb) h0 h1
      rw [if_neg hn, if_neg hn] at this
      exact this
    · rw [if_neg hv, if_neg hv, cell_form, cutAt_at 43 _ _ (reg_no 43 (by decide) (by decide) _)]
      simp only []
      rw [reg_reg _ hb, num_dec _ h0 h1]
      simp only [regB, Bool.and_eq_true, decide_eq_true_eq] at hb
      simp only [Option.map_some]
      rw [Int.toNat_of_nonneg h0, Int.toNat_of_nonneg hb.1]
/-- One operand is read back. -/
theorem opd_back (q : UInt8) (hq : q = 112 ∨ q = 113) (x y : Inst) (k : Nat) (h : okF x k) (h0 : 0 ≤ x.v) (h1 : x.v < 18446744073709551616) : ∃ u, opdP k (operandT q x k) y = some (setF x k y, u) ∧ u.toList = useF q x k := by
  obtain ⟨k0, k1, k2, k3, k4, k5, k6⟩ := h
  have rn : ∀ r, regB r = true → ((r.toNat : Nat) : Int) = r := fun r hr => by
    simp only [regB, Bool.and_eq_true, decide_eq_true_eq] at hr
    omega
  match k with
  | 0 => exact ⟨none, by simp [opdP, operandT, setF, reg_reg _ (k0 rfl), rn _ (k0 rfl)], rfl⟩
  | 1 => exact ⟨none, by simp [opdP, operandT, setF, reg_reg _ (k1 rfl), rn _ (k1 rfl)], rfl⟩
  | 2 => exact ⟨none, by simp [opdP, operandT, setF, reg_reg _ (k2 rfl), rn _ (k2 rfl)], rfl⟩
  | 3 => exact ⟨none, by simp [opdP, operandT, setF, either_b x y (k3 rfl) h0 h1], rfl⟩
  | 4 => exact ⟨none, by simp [opdP, operandT, setF, either_c x y (k4 rfl) h0 h1], rfl⟩
  | 5 =>
    have e : operandT q x 5 = cellT x := by simp [operandT]
    exact ⟨none, by rw [e]; simp [opdP, cell_cell x y (k5 rfl) h0 h1], rfl⟩
  | 6 =>
    have e : operandT q x 6 = nameT q x.v := by simp [operandT]
    exact ⟨some (nameT q x.v), by rw [e]; simp [opdP, setF, name_name q hq x.v (k6 rfl)], by simp [useF]⟩
  | 7 =>
    have e : operandT q x 7 = decT x.v := by simp [operandT]
    exact ⟨none, by rw [e]; simp [opdP, setF, name_dec, num_dec _ h0 h1]; omega, rfl⟩
  | k + 8 =>
    have e : operandT q x (k + 8) = decT x.v := by simp [operandT]
    exact ⟨none, by rw [e]; simp [opdP, setF, num_dec _ h0 h1]; omega, by simp [useF]⟩
def setsF (x : Inst) : List Nat → Inst → Inst
  | [], y => y
  | k :: ks, y => setsF x ks (setF x k y)
theorem opds_back (q : UInt8) (hq : q = 112 ∨ q = 113) (x : Inst) (h0 : 0 ≤ x.v) (h1 : x.v < 18446744073709551616) : ∀ (ks : List Nat) (y : Inst) (m : List (List UInt8)), (∀ k ∈ ks, okF x k) → opdsP ks (ks.map (operandT q x) ++ m) y = some (setsF x ks y, ks.flatMap (useF q x))
  | [], y, m, _ => by cases m <;> rfl
  | k :: ks, y, m, h => by
    obtain ⟨u, e1, e2⟩ := opd_back q hq x y k (h k (by simp)) h0 h1
    rw [List.map_cons, List.cons_append, opdsP, e1]
    simp only []
    rw [opds_back q hq x h0 h1 ks (setF x k y) m (fun j hj => h j (by simp [hj])), Option.map_some, List.flatMap_cons, e2]
    rfl
end Go.Proofs.YtneajiglkiffjaaGreatDoor

namespace Go.Proofs.YtneajiglkiffjaaGreatDoor
open Go.RowKit
set_option linter.unusedVariables false

/-- What the operands say of the row. -/
def shpOf (f : List Nat) : Shp := ⟨f.contains 0, f.contains 1 || f.contains 3 || f.contains 5, f.contains 2 || f.contains 4, f.any (3 ≤ ·), f.contains 3 || f.contains 5, f.contains 4, f.contains 6, true⟩
def formsL : List (List Nat) := [[], [0], [0, 1], [0, 1, 2], [0, 1, 4], [0, 1, 8], [0, 3], [0, 5], [0, 5, 2], [0, 6], [0, 7], [6], [8]]
def shpB (a b : Shp) : Bool := a.A == b.A && a.B == b.B && a.C == b.C && a.V == b.V && a.NoB == b.NoB && a.NoC == b.NoC && a.Place == b.Place && a.Is == b.Is
theorem shpB_eq {a b : Shp} (h : shpB a b = true) : a = b := by
  cases a; cases b
  simp [shpB] at h
  simp [h]
theorem forms_all : ((List.range 59).all fun k => k == 0 || (shpB (shpTab.getD k shp0) (shpOf (formOf k)) && formsL.contains (formOf k) && ((k == 43) == (formOf k == [0, 3])) && ((k == 22) == (formOf k == [8])) && (opTab.findIdx? (· == opTab.getD k []) == some k))) = true := by decide +kernel
theorem forms_at (k : Nat) (h1 : 1 ≤ k) (h2 : k < 59) : shpTab.getD k shp0 = shpOf (formOf k) ∧ formOf k ∈ formsL ∧ (k = 43 ↔ formOf k = [0, 3]) ∧ opP (opTab.getD k []) = some k := by
  have h := List.all_eq_true.1 forms_all k (List.mem_range.2 h2)
  have h0 : (k == 0) = false := by simp; omega
  rw [h0, Bool.false_or] at h
  simp only [Bool.and_eq_true, List.contains_iff_mem, beq_iff_eq] at h
  obtain ⟨⟨⟨⟨a1, a2⟩, a3⟩, _⟩, a4⟩ := h
  refine ⟨shpB_eq a1, a2, ?_, a4⟩
  have : (k == 43) = (formOf k == [0, 3]) := a3
  constructor
  · intro e; rw [e] at this ⊢; simpa using this.symm
  · intro e; rw [e] at this; simpa using this
theorem shape_at (op : Int) (h : (shapeOf op).Is = true) : (1 ≤ op ∧ op ≤ 58) ∧ shapeOf op = shpOf (formOf op.toNat) ∧ formOf op.toNat ∈ formsL ∧ (op = 43 ↔ formOf op.toNat = [0, 3]) ∧ opP (opTab.getD op.toNat []) = some op.toNat := by
  have hr : 1 ≤ op ∧ op ≤ 58 := by
    rcases Classical.em (1 ≤ op ∧ op ≤ 58) with g | g
    · exact g
    · rw [shapeOf, if_neg g] at h; simp [shp0] at h
  obtain ⟨a1, a2, a3, a4⟩ := forms_at op.toNat (by omega) (by omega)
  refine ⟨hr, by rw [shapeOf, if_pos hr]; exact a1, a2, ?_, a4⟩
  rw [← a3]; omega
/-- What a valid instruction keeps. -/
structure Fine (x : Inst) (n : Int) : Prop where
  r : 1 ≤ x.op ∧ x.op ≤ 58
  p : opP (opTab.getD x.op.toNat []) = some x.op.toNat
  fm : formOf x.op.toNat ∈ formsL
  ok : ∀ k ∈ formOf x.op.toNat, okF x k
  set : setsF x (formOf x.op.toNat) { inst0 with op := x.op } = { x with v := if 6 ∈ formOf x.op.toNat then 0 else x.v, m := 0, wh := 0 }
  v : 0 ≤ x.v ∧ x.v < 18446744073709551616
  m : 0 ≤ x.m ∧ x.m ≤ 99
  wh : 0 ≤ x.wh ∧ x.wh ≤ 2
  mw : x.m = 0 → x.wh = 0
  pl : 6 ∈ formOf x.op.toNat → x.v < n
set_option maxHeartbeats 1000000 in
theorem fine_right {x : Inst} {n : Int} {lib : Bool} (h : rightB x n lib = true) (hv : 0 ≤ x.v ∧ x.v ≤ 18446744073709551615) (hn : n ≤ 2048) : Fine x n := by
  simp only [rightB, Bool.and_eq_true] at h
  obtain ⟨⟨⟨⟨⟨hs, hm⟩, hA⟩, hB⟩, hC⟩, hV⟩ := h
  have hi : (shapeOf x.op).Is = true := by
    simp only [sideB, Bool.and_eq_true] at hs
    exact hs.1.1
  obtain ⟨hr, hsh, hf, h43, hp⟩ := shape_at x.op hi
  have hm' : (0 ≤ x.m ∧ x.m ≤ 99) ∧ (0 ≤ x.wh ∧ x.wh ≤ 2) ∧ (x.m = 0 → x.wh = 0) := by
    simp only [markB, Bool.and_eq_true, Bool.or_eq_true, Bool.not_eq_true', decide_eq_true_eq, decide_eq_false_iff_not] at hm
    obtain ⟨⟨⟨⟨⟨m1, m2⟩, m3⟩, m4⟩, m5⟩, _⟩ := hm
    exact ⟨⟨m1, m2⟩, ⟨m3, m4⟩, fun e => m5.resolve_left (fun g => g e)⟩
  simp only [fieldA, fieldB, fieldC, fieldV, usesV, hsh] at hA hB hC hV
  obtain ⟨op, a, b, c, v, m, wh⟩ := x
  simp only at hr hp hf h43 hA hB hC hV hv hm'
  generalize hF : formOf op.toNat = F at hf h43 hA hB hC hV
  have HF := hf
  have key : (∀ k ∈ F, okF ⟨op, a, b, c, v, m, wh⟩ k) ∧ setsF ⟨op, a, b, c, v, m, wh⟩ F { inst0 with op := op } = ⟨op, a, b, c, if 6 ∈ F then 0 else v, 0, 0⟩ ∧ (6 ∈ F → v < n) := by
    simp only [formsL, List.mem_cons, List.mem_nil_iff, or_false] at hf
    rcases hf with rfl | rfl | rfl | rfl | rfl | rfl | rfl | rfl | rfl | rfl | rfl | rfl | rfl <;>
      (simp [shpOf] at hA hB hC hV h43) <;>
      (refine ⟨by simp [okF]; try grind, ?_, by simp; try grind⟩; simp [setsF, setF, inst0]; try grind)
  exact ⟨hr, hp, by rw [hF]; exact HF, by rw [hF]; exact key.1, by rw [hF]; exact key.2.1, ⟨hv.1, by have := hv.2; simp only; omega⟩, hm'.1, hm'.2.1, hm'.2.2, by rw [hF]; exact key.2.2⟩
end Go.Proofs.YtneajiglkiffjaaGreatDoor

namespace Go.Proofs.YtneajiglkiffjaaGreatDoor
open Go.RowKit
set_option linter.unusedVariables false

theorem not_suffix (a b : UInt8) (d : List UInt8) (h : ∀ c ∈ d, c ≠ a) : [a, b].isSuffixOf d = false := by
  cases e : [a, b].isSuffixOf d with
  | false => rfl
  | true =>
    rw [List.isSuffixOf_iff_suffix] at e
    obtain ⟨t, rfl⟩ := e
    exact (h a (by simp) rfl).elim
theorem mark_back (x y : Inst) (hm : 1 ≤ x.m ∧ x.m ≤ 99) (hw : 0 ≤ x.wh ∧ x.wh ≤ 2) : markP y (markT x) = some { y with m := x.m, wh := x.wh } := by
  have hd := num_dec x.m (by omega) (by omega)
  have e1 : (markT x).drop 1 = decT x.m ++ whenT x.wh := rfl
  have n62 : ∀ c ∈ decT x.m, c ≠ 62 := dec_no 62 (by decide) _
  have n61 : ∀ c ∈ decT x.m, c ≠ 61 := dec_no 61 (by decide) _
  have hc : markCut (markT x) = (decT x.m, x.wh) := by
    unfold markCut
    rw [e1]
    have hw' : x.wh = 0 ∨ x.wh = 1 ∨ x.wh = 2 := by omega
    rcases hw' with h | h | h
    · rw [h, show whenT 0 = [] from rfl, List.append_nil, not_suffix 62 48 _ n62, not_suffix 61 48 _ n61]
      rfl
    · have a1 : [62, 48].isSuffixOf (decT x.m ++ [61, 48]) = false := not_suffix 62 48 _ fun c hc => by
        rcases List.mem_append.1 hc with g | g
        · exact n62 c g
        · simp at g; rcases g with rfl | rfl <;> decide
      have a2 : [61, 48].isSuffixOf (decT x.m ++ [61, 48]) = true := by rw [List.isSuffixOf_iff_suffix]; exact ⟨_, rfl⟩
      rw [h, show whenT 1 = [61, 48] from rfl, a1, a2]
      simp
    · have a2 : [62, 48].isSuffixOf (decT x.m ++ [62, 48]) = true := by rw [List.isSuffixOf_iff_suffix]; exact ⟨_, rfl⟩
      rw [h, show whenT 2 = [62, 48] from rfl, a2]
      simp
  rw [markP, hc]
  simp only []
  rw [hd]
  simp only []
  rw [if_pos (by omega)]
  rw [Int.toNat_of_nonneg (by omega)]
/-- The instruction as it is read at first: a label's place is not known. -/
def bareI (x : Inst) : Inst := { x with v := if 6 ∈ formOf x.op.toNat then 0 else x.v }
theorem bare_zero (x : Inst) (hm : x.m = 0) (hw : x.wh = 0) : bareI x = { x with v := if 6 ∈ formOf x.op.toNat then 0 else x.v, m := 0, wh := 0 } := by
  cases x
  simp only at hm hw
  subst hm hw
  rfl
def usesX (q : UInt8) (x : Inst) : List (List UInt8) := (formOf x.op.toNat).flatMap (useF q x)
theorem insP_cons (w : List UInt8) (r : List (List UInt8)) : insP (w :: r) = (match opP w with
    | none => none
    | some op => if r.length ≠ (formOf op).length ∧ markedB r (formOf op).length = false then none else
      match opdsP (formOf op) r { inst0 with op := op } with
      | none => none
      | some (x, us) => if markedB r (formOf op).length then (markP x (r.getD (formOf op).length [])).map fun y => (y, us) else some (x, us)) := rfl
theorem ins_back {x : Inst} {n : Int} (h : Fine x n) (q : UInt8) (hq : q = 112 ∨ q = 113) : insP (opTab.getD x.op.toNat [] :: restT q x) = some (bareI x, usesX q x) := by
  have hop : ((x.op.toNat : Nat) : Int) = x.op := by have := h.r; omega
  rw [insP_cons, h.p]
  simp only []
  rw [hop]
  by_cases hm : x.m = 0
  · have e : restT q x = (formOf x.op.toNat).map (operandT q x) := by rw [restT, if_pos hm, List.append_nil]
    have hl : (restT q x).length = (formOf x.op.toNat).length := by rw [e]; simp
    have hmk : markedB (restT q x) (formOf x.op.toNat).length = false := by
      unfold markedB; rw [hl, decide_eq_false (by omega)]; rfl
    have ho := opds_back q hq x h.v.1 h.v.2 (formOf x.op.toNat) { inst0 with op := x.op } [] h.ok
    rw [List.append_nil, ← e] at ho
    rw [if_neg (by rw [hl]; simp), ho]
    simp only [hmk]
    rw [h.set]
    have hw := h.mw hm
    simp only [Bool.false_eq_true, if_false]
    rw [bare_zero x hm hw]
    rfl
  · have e : restT q x = (formOf x.op.toNat).map (operandT q x) ++ [markT x] := by rw [restT, if_neg hm]
    have hl : (restT q x).length = (formOf x.op.toNat).length + 1 := by rw [e]; simp
    have hg : (restT q x).getD (formOf x.op.toNat).length [] = markT x := by
      rw [e, List.getD_eq_getElem?_getD, List.getElem?_append_right (by simp)]; simp
    have hmk : markedB (restT q x) (formOf x.op.toNat).length = true := by
      unfold markedB; rw [hl, decide_eq_true rfl, hg]; simp [markT, List.isPrefixOf]
    have ho := opds_back q hq x h.v.1 h.v.2 (formOf x.op.toNat) { inst0 with op := x.op } [markT x] h.ok
    rw [← e] at ho
    rw [if_neg (by rw [hmk]; simp), ho]
    simp only [hmk, if_true]
    rw [hg, mark_back x _ (by have := h.m; omega) h.wh, h.set]
    rfl
/-- A byte that neither ends a line nor a word. -/
def cOk (c : UInt8) : Prop := c ≠ 32 ∧ c ≠ 10 ∧ c ≠ 59
def wOk (w : List UInt8) : Prop := w ≠ [] ∧ ∀ c ∈ w, cOk c
theorem cOk_ge (c : UInt8) (h : 60 ≤ c.toNat ∨ (33 ≤ c.toNat ∧ c.toNat ≤ 58)) : cOk c := by
  refine ⟨fun e => ?_, fun e => ?_, fun e => ?_⟩ <;> (rw [e] at h; simp at h)
theorem dec_ok (v : Int) : ∀ c ∈ decT v, cOk c := fun c hc => cOk_ge c (.inr (by have := dec_chars _ c hc; omega))
theorem reg_ok (v : Int) : ∀ c ∈ regT v, cOk c := fun c hc => by
  rcases List.mem_cons.1 hc with rfl | g
  · exact cOk_ge _ (.inl (by decide))
  · exact dec_ok v c g
theorem dec_wok (v : Int) : wOk (decT v) := ⟨dec_ne _, dec_ok v⟩
theorem reg_wok (v : Int) : wOk (regT v) := ⟨by simp [regT], reg_ok v⟩
theorem name_wok (q : UInt8) (hq : q = 112 ∨ q = 113) (v : Int) : wOk (nameT q v) := ⟨by simp [nameT], fun c hc => by
  rcases List.mem_cons.1 hc with rfl | g
  · exact cOk_ge _ (.inl (by rcases hq with rfl | rfl <;> decide))
  · exact dec_ok v c g⟩
theorem cell_wok (x : Inst) : wOk (cellT x) := by
  have b91 : cOk 91 := cOk_ge _ (.inl (by decide))
  have b93 : cOk 93 := cOk_ge _ (.inl (by decide))
  have b43 : cOk 43 := cOk_ge _ (.inr (by decide))
  unfold cellT
  split
  · refine ⟨by simp, fun c hc => ?_⟩
    simp only [List.cons_append, List.mem_cons, List.mem_append, List.mem_nil_iff, or_false] at hc
    rcases hc with rfl | g | rfl
    · exact b91
    · exact dec_ok _ c g
    · exact b93
  split
  · refine ⟨by simp, fun c hc => ?_⟩
    simp only [List.cons_append, List.mem_cons, List.mem_append, List.mem_nil_iff, or_false] at hc
    rcases hc with rfl | g | rfl
    · exact b91
    · exact reg_ok _ c g
    · exact b93
  · refine ⟨by simp, fun c hc => ?_⟩
    simp only [List.cons_append, List.mem_cons, List.mem_append, List.mem_nil_iff, or_false] at hc
    rcases hc with rfl | (g | rfl | g) | rfl
    · exact b91
    · exact reg_ok _ c g
    · exact b43
    · exact dec_ok _ c g
    · exact b93
theorem opd_wok (q : UInt8) (hq : q = 112 ∨ q = 113) (x : Inst) (k : Nat) : wOk (operandT q x k) := by
  unfold operandT
  repeat' split
  all_goals first | exact reg_wok _ | exact dec_wok _ | exact cell_wok _ | exact name_wok q hq _
theorem mark_wok (x : Inst) : wOk (markT x) := by
  refine ⟨by simp [markT], fun c hc => ?_⟩
  unfold markT whenT at hc
  simp only [List.cons_append, List.mem_cons, List.mem_append] at hc
  rcases hc with rfl | g | g
  · exact cOk_ge _ (.inr (by decide))
  · exact dec_ok _ c g
  · split at g
    · simp at g; rcases g with rfl | rfl <;> exact cOk_ge _ (by decide)
    · split at g
      · simp at g; rcases g with rfl | rfl <;> exact cOk_ge _ (by decide)
      · simp at g
theorem rest_wok (q : UInt8) (hq : q = 112 ∨ q = 113) (x : Inst) : ∀ w ∈ restT q x, wOk w := fun w hw => by
  rcases List.mem_append.1 hw with g | g
  · obtain ⟨k, _, rfl⟩ := List.mem_map.1 g
    exact opd_wok q hq x k
  · split at g
    · simp at g
    · rw [List.mem_singleton.1 g]; exact mark_wok x
theorem ops_low : ((List.range 59).all fun k => k == 0 || (!(opTab.getD k []).isEmpty && (opTab.getD k []).all fun c => decide (97 ≤ c.toNat))) = true := by decide +kernel
theorem op_low (k : Nat) (h1 : 1 ≤ k) (h2 : k < 59) : opTab.getD k [] ≠ [] ∧ ∀ c ∈ opTab.getD k [], 97 ≤ c.toNat := by
  have h := List.all_eq_true.1 ops_low k (List.mem_range.2 h2)
  have h0 : (k == 0) = false := by simp; omega
  rw [h0, Bool.false_or, Bool.and_eq_true] at h
  refine ⟨by intro e; rw [e] at h; simp at h, fun c hc => by simpa using List.all_eq_true.1 h.2 c hc⟩
theorem fields_join : ∀ (ws : List (List UInt8)) (w0 : List UInt8), wOk w0 → (∀ w ∈ ws, wOk w) → fieldsB (w0 ++ ws.flatMap fun w => 32 :: w) = w0 :: ws
  | [], w0, h0, _ => by
    unfold fieldsB
    rw [List.flatMap_nil, List.append_nil, fieldsOn_word w0 [] (fun c hc => (h0.2 c hc).1) (by simpa using h0.1)]
    rfl
  | w :: ws, w0, h0, h => by
    have ih := fields_join ws w (h w (by simp)) (fun x hx => h x (by simp [hx]))
    unfold fieldsB at ih ⊢
    rw [List.flatMap_cons, List.cons_append, fieldsOn_blank w0 [] _ (fun c hc => (h0.2 c hc).1) (by simpa using h0.1), ih]
    rfl
theorem join_ok : ∀ (ws : List (List UInt8)) (w0 : List UInt8), wOk w0 → (∀ w ∈ ws, wOk w) → ∀ c ∈ w0 ++ ws.flatMap (fun w => 32 :: w), c ≠ 10 ∧ c ≠ 59 := by
  intro ws w0 h0 h c hc
  rcases List.mem_append.1 hc with g | g
  · exact (h0.2 c g).2
  · obtain ⟨w, hw, g⟩ := List.mem_flatMap.1 g
    rcases List.mem_cons.1 g with rfl | g
    · decide
    · exact ((h w hw).2 c g).2
section
variable {x : Inst} {n : Int} (h : Fine x n) (q : UInt8) (hq : q = 112 ∨ q = 113)
include h
theorem op_wok : wOk (opTab.getD x.op.toNat []) := by
  obtain ⟨h1, h2⟩ := op_low x.op.toNat (by have := h.r; omega) (by have := h.r; omega)
  exact ⟨h1, fun c hc => cOk_ge c (.inl (by have := h2 c hc; omega))⟩
include hq
theorem line_chars : ∀ c ∈ lineT q x, c ≠ 10 ∧ c ≠ 59 := join_ok _ _ (op_wok h) (rest_wok q hq x)
theorem line_words : fieldsB (cutAt 59 (lineT q x)).1 = opTab.getD x.op.toNat [] :: restT q x := by
  rw [cutAt_none 59 _ (fun c hc => (line_chars h q hq c hc).2)]
  exact fields_join _ _ (op_wok h) (rest_wok q hq x)
theorem line_back (t : Nat) (s : AsmS) : lineP (lineT q x) t s = .ok { s with code := s.code ++ [bareI x], uses := s.uses ++ (usesX q x).map fun u => (u, s.code.length, t) } := by
  unfold lineP
  rw [line_words h q hq]
  simp only []
  have hl : isLabel (opTab.getD x.op.toNat [] :: restT q x) = false := by
    unfold isLabel
    have : [58].isSuffixOf (opTab.getD x.op.toNat []) = false := by
      cases e : [58].isSuffixOf (opTab.getD x.op.toNat []) with
      | false => rfl
      | true =>
        rw [List.isSuffixOf_iff_suffix] at e
        obtain ⟨t, e⟩ := e
        have := (op_low x.op.toNat (by have := h.r; omega) (by have := h.r; omega)).2 58 (by rw [← e]; simp)
        exact absurd this (by decide)
    rw [List.getD_cons_zero, this, Bool.and_false]
  rw [if_neg (by simp), hl, if_neg (by simp), ins_back h q hq]
end
theorem label_back (q : UInt8) (hq : q = 112 ∨ q = 113) (v : Int) (hv : v < 10000) (t : Nat) (s : AsmS) (hn : ∀ p ∈ s.labels, p.1 ≠ nameT q v) : lineP (nameT q v ++ [58]) t s = .ok { s with labels := s.labels ++ [(nameT q v, s.code.length, t)] } := by
  obtain ⟨w1, w2⟩ := name_wok q hq v
  have hw : fieldsB (cutAt 59 (nameT q v ++ [58])).1 = [nameT q v ++ [58]] := by
    have hc : ∀ c ∈ nameT q v ++ [58], cOk c := fun c hc => by
      rcases List.mem_append.1 hc with g | g
      · exact w2 c g
      · rw [List.mem_singleton.1 g]; exact cOk_ge _ (.inr (by decide))
    rw [cutAt_none 59 _ (fun c h => (hc c h).2.2)]
    unfold fieldsB
    rw [fieldsOn_word _ [] (fun c h => (hc c h).1) (by simp)]
    rfl
  unfold lineP
  rw [hw]
  simp only []
  have hl : isLabel [nameT q v ++ [58]] = true := by
    unfold isLabel
    simp
  have ha : (s.labels.any fun p => p.1 == nameT q v) = false := by
    rw [List.any_eq_false]
    intro p hp
    simpa using hn p hp
  rw [if_neg (by simp), hl, if_pos rfl]
  simp only [List.getD_cons_zero, List.dropLast_concat]
  rw [ha, name_name q hq v hv]
  simp
end Go.Proofs.YtneajiglkiffjaaGreatDoor

namespace Go.Proofs.YtneajiglkiffjaaGreatDoor
open Go.RowKit
set_option linter.unusedVariables false

/-- The lines of instructions from the i-th on; T: which places bear a label. -/
def linesT (q : UInt8) (T : Nat → Bool) : List Inst → Nat → List (List UInt8)
  | [], _ => []
  | x :: r, i => (if T i then [nameT q (i : Int) ++ [58]] else []) ++ lineT q x :: linesT q T r (i + 1)
/-- The labels, the uses that they leave. -/
def labsT (q : UInt8) (T : Nat → Bool) : List Inst → Nat → Nat → List (List UInt8 × Nat)
  | [], _, _ => []
  | x :: r, i, p => (if T i then [(nameT q (i : Int), p)] else []) ++ labsT q T r (i + 1) (p + 1)
def usesT (q : UInt8) : List Inst → Nat → List (List UInt8 × Nat)
  | [], _ => []
  | x :: r, p => (usesX q x).map (fun u => (u, p)) ++ usesT q r (p + 1)
theorem dec_inj {a b : Nat} (h : Lib.decDigits a = Lib.decDigits b) : a = b := by
  have h1 := val_decDigits a
  have h2 := val_decDigits b
  rw [h] at h1; omega
theorem nameT_inj {q : UInt8} {a b : Nat} (h : nameT q (a : Int) = nameT q (b : Int)) : a = b := by
  unfold nameT decT at h
  exact dec_inj (by simpa using h)
theorem bare_mem {l : List (List UInt8 × Nat × Nat)} {p : List UInt8 × Nat × Nat} (h : p ∈ l) : (p.1, p.2.1) ∈ bare l := List.mem_map.2 ⟨p, h, rfl⟩
/-- The lines are read: what is behind them. -/
theorem lines_back (q : UInt8) (hq : q = 112 ∨ q = 113) (T : Nat → Bool) (n : Int) (rest : List (List UInt8)) : ∀ (r : List Inst) (i t : Nat) (s : AsmS), (∀ x ∈ r, Fine x n) → i + r.length ≤ 10000 → (∀ p ∈ bare s.labels, ∀ j, i ≤ j → p.1 ≠ nameT q (j : Int)) →
    ∃ t' s', linesP (linesT q T r i ++ rest) t s = linesP rest t' s' ∧ s'.code = s.code ++ r.map bareI ∧ bare s'.labels = bare s.labels ++ labsT q T r i s.code.length ∧ bare s'.uses = bare s.uses ++ usesT q r s.code.length
  | [], i, t, s, _, _, _ => ⟨t, s, rfl, by simp, by simp [labsT], by simp [usesT]⟩
  | x :: r, i, t, s, hf, hi, hl => by
    rw [List.length_cons] at hi
    have hx := hf x (by simp)
    have hlab : ∃ t1 s1, linesP (linesT q T (x :: r) i ++ rest) t s = linesP (lineT q x :: (linesT q T r (i + 1) ++ rest)) t1 s1 ∧ s1.code = s.code ∧ bare s1.labels = bare s.labels ++ (if T i then [(nameT q (i : Int), s.code.length)] else []) ∧ s1.uses = s.uses := by
      by_cases hT : T i = true
      · have hlb := label_back q hq (i : Int) (by omega) t s (fun p hp => hl _ (bare_mem hp) i (Nat.le_refl _))
        refine ⟨t + 1, { s with labels := s.labels ++ [(nameT q (i : Int), s.code.length, t)] }, ?_, rfl, ?_, rfl⟩
        · rw [linesT, if_pos hT, List.singleton_append, List.cons_append, List.cons_append, linesP, hlb]
        · simp [bare, hT]
      · refine ⟨t, s, ?_, rfl, by simp [hT], rfl⟩
        rw [linesT, if_neg hT, List.nil_append, List.cons_append]
    obtain ⟨t1, s1, e1, c1, l1, u1⟩ := hlab
    have hb := line_back hx q hq t1 s1
    obtain ⟨t', s', e2, c2, l2, u2⟩ := lines_back q hq T n rest r (i + 1) (t1 + 1) { s1 with code := s1.code ++ [bareI x], uses := s1.uses ++ (usesX q x).map fun u => (u, s1.code.length, t1) } (fun y hy => hf y (by simp [hy])) (by omega) (by
      intro p hp j hj
      simp only [l1] at hp
      rcases List.mem_append.1 hp with g | g
      · exact hl p g j (by omega)
      · split at g
        · rw [List.mem_singleton.1 g]
          intro e
          have := nameT_inj e
          omega
        · simp at g)
    refine ⟨t', s', ?_, ?_, ?_, ?_⟩
    · rw [e1, linesP, hb]
      exact e2
    · rw [c2, List.map_cons, c1, List.append_assoc]; rfl
    · rw [l2]
      simp only [l1, c1]
      rw [labsT, List.append_assoc, List.length_append, List.length_singleton]
    · rw [u2]
      simp only [u1, c1]
      rw [usesT, List.length_append, List.length_singleton]
      simp [bare]
theorem labs_mem (q : UInt8) (T : Nat → Bool) : ∀ (r : List Inst) (i p : Nat) (y : List UInt8 × Nat), y ∈ labsT q T r i p ↔ ∃ j, j < r.length ∧ T (i + j) = true ∧ y = (nameT q ((i + j : Nat) : Int), p + j)
  | [], i, p, y => by simp [labsT]
  | x :: r, i, p, y => by
    rw [labsT, List.mem_append, labs_mem q T r (i + 1) (p + 1) y]
    constructor
    · rintro (g | ⟨j, h1, h2, h3⟩)
      · split at g
        · rename_i hT
          exact ⟨0, by simp, hT, List.mem_singleton.1 g⟩
        · simp at g
      · exact ⟨j + 1, by simpa using h1, by rw [show i + (j + 1) = i + 1 + j by omega]; exact h2, by rw [show i + (j + 1) = i + 1 + j by omega, show p + (j + 1) = p + 1 + j by omega]; exact h3⟩
    · rintro ⟨j, h1, h2, h3⟩
      cases j with
      | zero => left; rw [Nat.add_zero] at h2; rw [if_pos h2]; simp [h3]
      | succ j => right; exact ⟨j, by simpa using h1, by rw [show i + 1 + j = i + (j + 1) by omega]; exact h2, by rw [show i + 1 + j = i + (j + 1) by omega, show p + 1 + j = p + (j + 1) by omega]; exact h3⟩
theorem uses_mem (q : UInt8) : ∀ (r : List Inst) (p : Nat) (y : List UInt8 × Nat), y ∈ usesT q r p ↔ ∃ j, j < r.length ∧ y.1 ∈ usesX q (r.getD j inst0) ∧ y.2 = p + j
  | [], p, y => by simp [usesT]
  | x :: r, p, y => by
    rw [usesT, List.mem_append, uses_mem q r (p + 1) y]
    constructor
    · rintro (g | ⟨j, h1, h2, h3⟩)
      · obtain ⟨u, hu, rfl⟩ := List.mem_map.1 g
        exact ⟨0, by simp, hu, rfl⟩
      · exact ⟨j + 1, by simpa using h1, by simpa using h2, by omega⟩
    · rintro ⟨j, h1, h2, h3⟩
      cases j with
      | zero => left; exact List.mem_map.2 ⟨y.1, by simpa using h2, by cases y; simp at h3 ⊢; omega⟩
      | succ j => right; exact ⟨j, by simpa using h1, by simpa using h2, by omega⟩
/-- The one place of a name. -/
theorem find_one (ls : List (List UInt8 × Nat)) (u : List UInt8) (k : Nat) (h : (u, k) ∈ ls) (h1 : ∀ p ∈ ls, p.1 = u → p.2 = k) : ((ls.reverse.find? (·.1 == u)).map (·.2) : Option Nat) = some k := by
  cases e : ls.reverse.find? (·.1 == u) with
  | none =>
    have := List.find?_eq_none.1 e (u, k) (by simpa using h)
    simp at this
  | some p =>
    have h2 := List.mem_of_find?_eq_some e
    have h3 := List.find?_some e
    rw [Option.map_some, h1 p (by simpa using h2) (by simpa using h3)]
/-- The places are laid in. -/
theorem usesQ_all (ls : List (List UInt8 × Nat)) (d : List Inst) : ∀ (us : List (List UInt8 × Nat)) (c : List Inst), c.length = d.length → (∀ y ∈ us, y.2 < d.length ∧ ∃ k : Nat, ((ls.reverse.find? (·.1 == y.1)).map (·.2) : Option Nat) = some k ∧ (k : Int) = (d.getD y.2 inst0).v) →
    (∀ j, j < d.length → ({ c.getD j inst0 with v := (d.getD j inst0).v } : Inst) = d.getD j inst0) → (∀ j, j < d.length → c.getD j inst0 = d.getD j inst0 ∨ ∃ u, (u, j) ∈ us) → usesQ ls us c = some d
  | [], c, hl, _, _, h3 => by
    rw [usesQ]
    congr 1
    apply List.ext_getElem hl
    intro j h1 h2
    have := h3 j h2
    simp only [List.not_mem_nil, exists_false, or_false] at this
    simpa [List.getD_eq_getElem?_getD, List.getElem?_eq_getElem h1, List.getElem?_eq_getElem h2] using this
  | (u, i) :: us, c, hl, h1, h2, h3 => by
    obtain ⟨g1, k, g2, g3⟩ := h1 (u, i) (by simp)
    rw [usesQ, g2]
    simp only []
    have hget : ∀ j, (c.set i { c.getD i inst0 with v := k }).getD j inst0 = if j = i then ({ c.getD i inst0 with v := k } : Inst) else c.getD j inst0 := fun j => by
      rw [List.getD_eq_getElem?_getD, List.getElem?_set]
      by_cases e : i = j
      · subst e; rw [if_pos rfl, if_pos rfl, if_pos (by simp only at g1; omega)]; rfl
      · rw [if_neg e, if_neg (fun h => e h.symm)]; simp [List.getD_eq_getElem?_getD]
    simp only at g1 g3
    refine usesQ_all ls d us _ (by rw [List.length_set]; exact hl) (fun y hy => h1 y (by simp [hy])) (fun j hj => ?_) (fun j hj => ?_)
    · rw [hget]
      by_cases e : j = i
      · subst e; rw [if_pos rfl]; exact h2 j hj
      · rw [if_neg e]; exact h2 j hj
    · rw [hget]
      by_cases e : j = i
      · subst e
        left
        rw [if_pos rfl, g3]; exact h2 j hj
      · rw [if_neg e]
        rcases h3 j hj with g | ⟨u', g⟩
        · exact .inl g
        · right
          rcases List.mem_cons.1 g with e' | g
          · simp only [Prod.mk.injEq] at e'; exact (e e'.2).elim
          · exact ⟨u', g⟩
/-- Is the place a jump's target? -/
def targetB (l : List Inst) (i : Nat) : Bool := l.any fun x => (formOf x.op.toNat).contains 6 && decide (x.v = (i : Int))
def printT (l : List Inst) : List UInt8 := (linesT 112 (targetB l) l 0).flatMap fun t => t ++ [10]
theorem lines_chars (q : UInt8) (hq : q = 112 ∨ q = 113) (T : Nat → Bool) (n : Int) : ∀ (r : List Inst) (i : Nat), (∀ x ∈ r, Fine x n) → ∀ t ∈ linesT q T r i, ∀ c ∈ t, c ≠ 10
  | [], i, _, t, ht => by simp [linesT] at ht
  | x :: r, i, hf, t, ht => by
    rw [linesT] at ht
    rcases List.mem_append.1 ht with g | g
    · split at g
      · rw [List.mem_singleton.1 g]
        intro c hc
        rcases List.mem_append.1 hc with g | g
        · exact ((name_wok q hq _).2 c g).2.1
        · rw [List.mem_singleton.1 g]; decide
      · simp at g
    · rcases List.mem_cons.1 g with rfl | g
      · exact fun c hc => (line_chars (hf x (by simp)) q hq c hc).1
      · exact lines_chars q hq T n r (i + 1) (fun y hy => hf y (by simp [hy])) t g
theorem uses_six {q : UInt8} {x : Inst} {u : List UInt8} (h : u ∈ usesX q x) : 6 ∈ formOf x.op.toNat ∧ u = nameT q x.v := by
  obtain ⟨k, hk, hu⟩ := List.mem_flatMap.1 h
  unfold useF at hu
  split at hu
  · rename_i e; subst e; exact ⟨hk, List.mem_singleton.1 hu⟩
  · simp at hu
theorem six_uses {q : UInt8} {x : Inst} (h : 6 ∈ formOf x.op.toNat) : nameT q x.v ∈ usesX q x := List.mem_flatMap.2 ⟨6, h, by simp [useF]⟩
/-- WHAT IS PRINTED IS READ AS THE SAME INSTRUCTIONS. -/
theorem print_parse (l : List Inst) (hf : ∀ x ∈ l, Fine x (l.length : Int)) (hl : l.length ≤ 2048) (hp : (printT l).length ≤ 65536) : ∃ ls, parseP (printT l) = .ok l ls ∧ bare ls = labsT 112 (targetB l) l 0 0 := by
  have hlines : linesB (printT l) = linesT 112 (targetB l) l 0 ++ [[]] := by
    have := linesB_more (linesT 112 (targetB l) l 0) [] (fun t ht => linesB_none t (lines_chars 112 (.inl rfl) _ _ l 0 hf t ht))
    rw [List.append_nil] at this
    exact this
  obtain ⟨t', s', e, c, lb, us⟩ := lines_back 112 (.inl rfl) (targetB l) (l.length : Int) [[]] l 0 0 {} hf (by omega) (by simp [bare])
  have hc : s'.code = l.map bareI := by simpa using c
  have hlb : bare s'.labels = labsT 112 (targetB l) l 0 0 := by simpa [bare] using lb
  have hus : bare s'.uses = usesT 112 l 0 := by simpa [bare] using us
  have hbg : ∀ j, j < l.length → (l.map bareI).getD j inst0 = bareI (l.getD j inst0) := fun j hj => by
    simp [List.getD_eq_getElem?_getD, List.getElem?_eq_getElem hj]
  have hmem : ∀ j, j < l.length → l.getD j inst0 ∈ l := fun j hj => by
    rw [List.getD_eq_getElem?_getD, List.getElem?_eq_getElem hj]; exact List.getElem_mem _
  have hall : usesQ (labsT 112 (targetB l) l 0 0) (usesT 112 l 0) (l.map bareI) = some l := by
    refine usesQ_all _ l _ _ (by simp) (fun y hy => ?_) (fun j hj => ?_) (fun j hj => ?_)
    · obtain ⟨j, h1, h2, h3⟩ := (uses_mem 112 l 0 y).1 hy
      rw [Nat.zero_add] at h3
      obtain ⟨h6, hu⟩ := uses_six h2
      have F := hf _ (hmem j h1)
      have hv := F.pl h6
      have hv0 := F.v.1
      refine ⟨by omega, (l.getD j inst0).v.toNat, ?_, by rw [h3]; omega⟩
      obtain ⟨k, hk⟩ : ∃ k : Nat, (l.getD j inst0).v = k := ⟨(l.getD j inst0).v.toNat, by omega⟩
      rw [hu, hk, Int.toNat_natCast]
      refine find_one _ _ _ ((labs_mem _ _ _ _ _ _).2 ⟨k, by omega, ?_, by simp⟩) (fun p hp he => ?_)
      · rw [Nat.zero_add]
        unfold targetB
        rw [List.any_eq_true]
        exact ⟨_, hmem j h1, by rw [hk, decide_eq_true rfl, List.contains_iff_mem.2 h6]; rfl⟩
      · obtain ⟨j', _, _, rfl⟩ := (labs_mem _ _ _ _ _ _).1 hp
        simp only at he ⊢
        have := nameT_inj he
        omega
    · rw [hbg j hj]; unfold bareI; rfl
    · rw [hbg j hj]
      by_cases h6 : 6 ∈ formOf (l.getD j inst0).op.toNat
      · exact .inr ⟨_, (uses_mem 112 l 0 _).2 ⟨j, hj, six_uses h6, by simp⟩⟩
      · left; unfold bareI; rw [if_neg h6]
  have hline : linesP [[]] t' s' = .inl s' := by
    rw [linesP, show lineP [] t' s' = .ok s' from rfl]
    rfl
  refine ⟨s'.labels, ?_, hlb⟩
  rw [parseP, if_neg (by omega), hlines, e, hline]
  simp only []
  unfold finishP
  rw [uses_bare, hlb, hus, hc, hall]
  simp only []
  have hno : (s'.labels.any fun q => q.2.1 == l.length) = false := by
    rw [List.any_eq_false]
    intro p hp
    have := bare_mem hp
    rw [hlb] at this
    obtain ⟨j, h1, _, h3⟩ := (labs_mem _ _ _ _ _ _).1 this
    simp only [Prod.mk.injEq] at h3
    simp; omega
  rw [if_neg (by rw [hno]; simp; omega)]
end Go.Proofs.YtneajiglkiffjaaGreatDoor
