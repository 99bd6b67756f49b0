/- Plain facts on numerals: digits that fit are read to their value; one digit too many fails; what decDigits writes is read to the same number. -/
import Derived.Test.YtklmnhklgojacaaDoorPlain
namespace Go.Proofs.YtklmnhklgojacaaDoor

/-- The value of digits behind a value. -/
def val (b : Nat) (l : List UInt8) (v : Nat) : Nat := l.foldl (fun v c => v * b + dig c.toNat) v
theorem val_nil (b v : Nat) : val b [] v = v := rfl
theorem val_cons (b v : Nat) (c : UInt8) (l : List UInt8) : val b (c :: l) v = val b l (v * b + dig c.toNat) := rfl
theorem val_append (b v : Nat) (l r : List UInt8) : val b (l ++ r) v = val b r (val b l v) := by unfold val; rw [List.foldl_append]
theorem val_ge (b : Nat) (hb : 1 ≤ b) : ∀ (l : List UInt8) (v : Nat), v ≤ val b l v
  | [], v => Nat.le_refl _
  | c :: l, v => by
    rw [val_cons]
    have h1 := val_ge b hb l (v * b + dig c.toNat)
    have h2 : v * 1 ≤ v * b := Nat.mul_le_mul_left v hb
    omega
theorem val_shift (b : Nat) : ∀ (l : List UInt8) (v : Nat), val b l v = v * b ^ l.length + val b l 0
  | [], v => by simp [val]
  | c :: l, v => by
    rw [val_cons, val_cons, val_shift b l (v * b + dig c.toNat), val_shift b l (0 * b + dig c.toNat), List.length_cons, Nat.pow_succ, Nat.add_mul, Nat.add_mul]
    rw [Nat.mul_assoc v b, Nat.mul_comm b (b ^ l.length)]
    omega

theorem readOn_ok (b f m : Nat) (hb : 1 ≤ b) : ∀ (l : List UInt8) (i v : Nat), f ≤ i → (∀ c ∈ l, dig c.toNat < b) → i + l.length ≤ f + m → val b l v < 18446744073709551616 → (l = [] → i ≠ f) → readOn b f m l i v = .ok (val b l v)
  | [], i, v, _, _, _, _, hn => by rw [readOn, if_neg (hn rfl)]; rfl
  | c :: l, i, v, hf, hd, hl, hv, _ => by
    have h1 := hd c (by simp)
    rw [List.length_cons] at hl
    rw [val_cons] at hv ⊢
    have h2 := val_ge b hb l (v * b + dig c.toNat)
    rw [readOn, if_neg (by omega)]
    exact readOn_ok b f m hb l (i + 1) _ (by omega) (fun x hx => hd x (by simp [hx])) (by omega) hv (fun _ => by omega)

theorem readOn_long (b f m : Nat) : ∀ (l : List UInt8) (i v : Nat), i ≤ f + m → f + m < i + l.length → ∃ n, readOn b f m l i v = .bad n
  | [], i, v, h1, h2 => by simp at h2; omega
  | c :: l, i, v, h1, h2 => by
    rw [List.length_cons] at h2
    by_cases h : b ≤ dig c.toNat ∨ i = f + m ∨ 18446744073709551616 ≤ v * b + dig c.toNat
    · exact ⟨i, by rw [readOn, if_pos h]⟩
    · rw [readOn, if_neg h]
      exact readOn_long b f m l (i + 1) _ (by omega) (by omega)

theorem readOn_hex17 : ∀ (l : List UInt8) (i v : Nat), 2 ≤ i → i ≤ 18 → 18 < i + l.length → (∀ c ∈ l, dig c.toNat < 16) → v < 16 ^ (i - 2) → readOn 16 2 16 l i v = .bad 18
  | [], i, v, _, h1, h2, _, _ => by simp at h2; omega
  | c :: l, i, v, h0, h1, h2, hd, hv => by
    rw [List.length_cons] at h2
    have h3 := hd c (by simp)
    by_cases h : i = 18
    · rw [readOn, if_pos (Or.inr (Or.inl (by omega))), h]
    · have h4 : 16 ^ (i + 1 - 2) = 16 ^ (i - 2) * 16 := by rw [← Nat.pow_succ]; congr 1; omega
      have h5 : 16 ^ (i - 2) ≤ 16 ^ 15 := Nat.pow_le_pow_right (by omega) (by omega)
      have h6 : 16 ^ 15 = 1152921504606846976 := by decide
      rw [readOn, if_neg (by omega)]
      exact readOn_hex17 l (i + 1) _ (by omega) (by omega) (by omega) (fun x hx => hd x (by simp [hx])) (by omega)

/-! ### The decimal digits of a number -/
theorem dig_ofNat (d : Nat) (h : d < 10) : dig (UInt8.ofNat (48 + d)).toNat = d := by
  rw [UInt8.toNat_ofNat', Nat.mod_eq_of_lt (by omega), dig, if_pos (by omega)]; omega
theorem decDigits_lt (u : Nat) : ∀ c ∈ Lib.decDigits u, dig c.toNat < 10 := by
  induction u using Nat.strongRecOn with
  | ind u ih =>
    by_cases h : u < 10
    · rw [Lib.decDigits_one h]
      intro c hc
      obtain rfl := List.mem_singleton.1 hc
      rw [dig_ofNat u h]; exact h
    · rw [Lib.decDigits, dif_neg h]
      intro c hc
      rcases List.mem_append.1 hc with hc | hc
      · exact ih (u / 10) (by omega) c hc
      · obtain rfl := List.mem_singleton.1 hc
        rw [dig_ofNat _ (by omega)]; omega
theorem val_decDigits (u : Nat) : val 10 (Lib.decDigits u) 0 = u := by
  induction u using Nat.strongRecOn with
  | ind u ih =>
    by_cases h : u < 10
    · rw [Lib.decDigits_one h, val_cons, val_nil, dig_ofNat u h]; omega
    · rw [Lib.decDigits, dif_neg h, val_append, ih (u / 10) (by omega), val_cons, val_nil, dig_ofNat _ (by omega)]; omega
theorem decDigits_head (u : Nat) (hu : u ≠ 0) : ∃ c l, Lib.decDigits u = c :: l ∧ c.toNat ≠ 48 := by
  induction u using Nat.strongRecOn with
  | ind u ih =>
    by_cases h : u < 10
    · exact ⟨_, [], Lib.decDigits_one h, by rw [UInt8.toNat_ofNat', Nat.mod_eq_of_lt (by omega)]; omega⟩
    · obtain ⟨c, l, e, hc⟩ := ih (u / 10) (by omega) (by omega)
      exact ⟨c, l ++ [UInt8.ofNat (48 + u % 10)], by rw [Lib.decDigits, dif_neg h, e]; rfl, hc⟩
theorem val_zeros : ∀ (z : Nat), val 10 (List.replicate z 48) 0 = 0
  | 0 => rfl
  | z + 1 => by
    rw [List.replicate_succ, val_cons, show dig (48 : UInt8).toNat = 0 from rfl]
    exact val_zeros z
theorem zeros_lt (z : Nat) : ∀ c ∈ List.replicate z (48 : UInt8), dig c.toNat < 10 := fun c hc => by
  rw [(List.mem_replicate.1 hc).2]; decide

/-- A text of decimal digits has no 'x' behind its first byte. -/
theorem noPrefix (l : List UInt8) (hd : ∀ c ∈ l, dig c.toNat < 10) : readAll l = readOn 10 0 20 l 0 0 := by
  rw [readAll, if_neg]
  intro h
  have h1 : [48, 120] <+: l := List.isPrefixOf_iff_prefix.1 h
  have h2 := hd 120 (h1.subset (by simp))
  revert h2; decide
/-- P1.4: a number's digits, noughts ahead of them: read to that number. -/
theorem read_back (u z : Nat) (hu : u < 18446744073709551616) (hl : z + (Lib.decDigits u).length ≤ 20) : readAll (List.replicate z 48 ++ Lib.decDigits u) = .ok u := by
  have hd : ∀ c ∈ List.replicate z (48 : UInt8) ++ Lib.decDigits u, dig c.toNat < 10 := fun c hc => by
    rcases List.mem_append.1 hc with hc | hc
    · exact zeros_lt z c hc
    · exact decDigits_lt u c hc
  have hv : val 10 (List.replicate z (48 : UInt8) ++ Lib.decDigits u) 0 = u := by rw [val_append, val_zeros, val_decDigits]
  have hn : List.replicate z (48 : UInt8) ++ Lib.decDigits u ≠ [] := by
    intro h
    have h1 := (List.append_eq_nil_iff.1 h).2
    have h2 := Lib.decDigits_length u
    have h3 := Lib.nDigits_pos u
    rw [h1] at h2; simp at h2; omega
  rw [noPrefix _ hd, readOn_ok 10 0 20 (by omega) _ 0 0 (Nat.le_refl _) hd (by rw [List.length_append, List.length_replicate]; omega) (by rw [hv]; exact hu) (fun h => absurd h hn), hv]
theorem read_back_long (u z : Nat) (hl : 20 < z + (Lib.decDigits u).length) : ∃ n, readAll (List.replicate z 48 ++ Lib.decDigits u) = .bad n := by
  have hd : ∀ c ∈ List.replicate z (48 : UInt8) ++ Lib.decDigits u, dig c.toNat < 10 := fun c hc => by
    rcases List.mem_append.1 hc with hc | hc
    · exact zeros_lt z c hc
    · exact decDigits_lt u c hc
  rw [noPrefix _ hd]
  exact readOn_long 10 0 20 _ 0 0 (by omega) (by rw [List.length_append, List.length_replicate]; omega)

/-! ### Digits to sixteen -/
theorem val_hex (l : List UInt8) (hd : ∀ c ∈ l, dig c.toNat < 16) : val 16 l 0 < 16 ^ l.length := by
  induction l with
  | nil => decide
  | cons c l ih =>
    rw [val_cons, val_shift, List.length_cons, Nat.pow_succ]
    have h1 := ih (fun x hx => hd x (by simp [hx]))
    have h2 := hd c (by simp)
    have h3 : (0 * 16 + dig c.toNat) * 16 ^ l.length ≤ 15 * 16 ^ l.length := Nat.mul_le_mul_right _ (by omega)
    omega
/-- One digit more ahead. -/
theorem hex_step (v k : Nat) (c : UInt8) (t : List UInt8) (ht : t.length = k) (hv : val 16 t 0 = v % 16 ^ k) (hc : dig c.toNat = v / 16 ^ k % 16) : val 16 (c :: t) 0 = v % 16 ^ (k + 1) := by
  rw [val_cons, val_shift, ht, hv, Nat.zero_mul, Nat.zero_add, hc, Nat.pow_succ, Nat.mod_mul, Nat.mul_comm]
  omega
theorem read_hex (t : List UInt8) (hd : ∀ c ∈ t, dig c.toNat < 16) (h1 : 1 ≤ t.length) (h16 : t.length ≤ 16) : readAll (48 :: 120 :: t) = .ok (val 16 t 0) := by
  have h0 := val_hex t hd
  have h2 : 16 ^ t.length ≤ 16 ^ 16 := Nat.pow_le_pow_right (by omega) h16
  have h3 : 16 ^ 16 = 18446744073709551616 := by decide
  rw [readAll, if_pos (by simp [List.isPrefixOf])]
  exact readOn_ok 16 2 16 (by omega) t 2 0 (Nat.le_refl _) hd (by omega) (by omega) (fun h => by rw [h] at h1; simp at h1)
theorem read_hex17 (t : List UInt8) (hd : ∀ c ∈ t, dig c.toNat < 16) (h17 : 16 < t.length) : readAll (48 :: 120 :: t) = .bad 18 := by
  rw [readAll, if_pos (by simp [List.isPrefixOf])]
  exact readOn_hex17 t 2 0 (by omega) (by omega) (by omega) hd (by decide)
end Go.Proofs.YtklmnhklgojacaaDoor
