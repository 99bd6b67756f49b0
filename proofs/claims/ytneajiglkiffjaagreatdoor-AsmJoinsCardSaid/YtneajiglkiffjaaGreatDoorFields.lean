/- Plain words on the words of a line, nothing of the program: what lies between blanks; the library's own words (FieldsFunc at 'is it a blank?') are these. -/
import Derived.Lib.FieldsP
import Derived.Lib.SpaceUEq
import Derived.Lib.SplitLaws
namespace Go.Proofs.YtneajiglkiffjaaGreatDoor
open Go Go.Lib
set_option linter.unusedVariables false

/-- The words of a line: what lies between its blanks. -/
def fieldsOn : List UInt8 → List UInt8 → List (List UInt8)
  | [], w => if w = [] then [] else [w]
  | c :: t, w => if c = 32 then (if w = [] then fieldsOn t [] else w :: fieldsOn t []) else fieldsOn t (w ++ [c])
def fieldsB (l : List UInt8) : List (List UInt8) := fieldsOn l []
def blankR (r : Nat) : Bool := r == 32

theorem fieldsOn_skip : ∀ (k : Nat) (l w : List UInt8), k ≤ l.length → (∀ j, j < k → (l.getD j 0) ≠ 32) → fieldsOn l w = fieldsOn (l.drop k) (w ++ l.take k)
  | 0, l, w, _, _ => by simp
  | k + 1, [], w, h, _ => by simp at h
  | k + 1, c :: t, w, h, hz => by
    have h0 := hz 0 (by omega)
    rw [List.getD_cons_zero] at h0
    rw [fieldsOn, if_neg h0, fieldsOn_skip k t (w ++ [c]) (by simp at h; omega) (fun j hj => by have := hz (j + 1) (by omega); simpa using this)]
    simp

theorem dec_at (s : ByteArray) (pos : Nat) (h : pos < s.size) : (Utf8.decode s pos).1 = 32 ∧ (Utf8.decode s pos).2 = 1 ∧ s.data.toList.getD pos 0 = 32 ∨
    (Utf8.decode s pos).1 ≠ 32 ∧ ∀ j, j < (Utf8.decode s pos).2 → s.data.toList.getD (pos + j) 0 ≠ 32 := by
  have e := decode_N s pos
  generalize hb0 : s.data.toList.getD pos 0 = c0 at e
  generalize hb1 : s.data.toList.getD (pos + 1) 0 = c1 at e
  generalize hb2 : s.data.toList.getD (pos + 2) 0 = c2 at e
  generalize hb3 : s.data.toList.getD (pos + 3) 0 = c3 at e
  generalize s.data.toList.length - pos = n at e
  have hn32 : ∀ c : UInt8, c.toNat ≠ 32 → c ≠ 32 := fun c hc he => hc (by rw [he]; rfl)
  have hc := decodeN_conts n c0.toNat c1.toNat c2.toNat c3.toNat
  by_cases h128 : c0.toNat < 128
  · rw [decodeN_ascii _ _ _ _ _ h128] at e
    rw [e]
    by_cases h32 : c0.toNat = 32
    · left; exact ⟨h32, rfl, UInt8.toNat.inj (by rw [h32]; rfl)⟩
    · right
      refine ⟨h32, fun j hj => ?_⟩
      obtain rfl : j = 0 := by simp only at hj; omega
      rw [Nat.add_zero, hb0]; exact hn32 _ h32
  · right
    rw [e]
    refine ⟨?_, fun j hj => ?_⟩
    · rcases decodeN_cases n c0.toNat c1.toNat c2.toNat c3.toNat with h | h | h | h | h
      · omega
      · rw [h.2.2.2.2]; simp only; omega
      · rw [h.2.2.2.2.2]; simp only; omega
      · omega
      · rw [h]; decide
    · obtain ⟨k1, k2, k3, k4⟩ := hc
      have hj4 : j < 4 := by omega
      match j, hj4 with
      | 0, _ => rw [Nat.add_zero, hb0]; exact hn32 _ (by omega)
      | 1, _ => rw [hb1]; exact hn32 _ (by have := k1 (by omega); omega)
      | 2, _ => rw [hb2]; exact hn32 _ (by have := k2 (by omega); omega)
      | 3, _ => rw [hb3]; exact hn32 _ (by have := k3 (by omega); omega)

theorem spansP_eq (s : ByteArray) : ∀ (f pos : Nat) (st : Option Nat) (acc : List (Nat × Nat)), s.size ≤ pos + f → pos ≤ s.size → (∀ a, st = some a → a < pos) →
    acc.map (fun p => pieceU s.data.toList p.1 p.2) ++ fieldsOn (s.data.toList.drop pos) (openPiece s.data.toList st pos) = (closeSpans s (spansFromP blankR s f pos st acc)).map (fun p => pieceU s.data.toList p.1 p.2)
  | 0, pos, st, acc, h, hp, hst => by
    obtain rfl : pos = s.size := by omega
    have hd : s.data.toList.drop s.size = [] := List.drop_eq_nil_of_le (by rw [← size_eq]; exact Nat.le_refl _)
    rw [hd, fieldsOn]
    cases st with
    | none => simp [spansFromP, closeSpans, openPiece]
    | some a =>
      have := pieceU_ne s.data.toList a s.size (hst a rfl) (by rw [← size_eq]; exact Nat.le_refl _)
      simp [spansFromP, closeSpans, openPiece, this]
  | f + 1, pos, st, acc, h, hp, hst => by
    by_cases hlt : pos < s.size
    · have hw := width_pos s pos
      have hwn : pos + (Utf8.decode s pos).2 ≤ s.size := by
        have := decodeN_le_n' (s.size - pos) (s.get! pos).toNat (s.get! (pos + 1)).toNat (s.get! (pos + 2)).toNat (s.get! (pos + 3)).toNat (by omega)
        rw [← decode_at] at this
        omega
      simp only [spansFromP, if_pos hlt]
      rcases dec_at s pos hlt with ⟨h1, h2, h3⟩ | ⟨h1, h2⟩
      · have hd : s.data.toList.drop pos = 32 :: s.data.toList.drop (pos + 1) := by
          rw [List.drop_eq_getElem_cons (by rw [← size_eq]; exact hlt)]
          congr 1
          rw [← h3, List.getD_eq_getElem?_getD, List.getElem?_eq_getElem (by rw [← size_eq]; exact hlt)]; rfl
        rw [h1, h2, hd, fieldsOn, if_pos rfl]
        simp only [blankR, beq_self_eq_true, if_true]
        cases st with
        | none =>
          have ih := spansP_eq s f (pos + 1) none acc (by omega) (by omega) (fun a h => by cases h)
          simpa [openPiece] using ih
        | some a =>
          have hpn := pieceU_ne s.data.toList a pos (hst a rfl) (by rw [← size_eq]; omega)
          have ih := spansP_eq s f (pos + 1) none (acc ++ [(a, pos)]) (by omega) (by omega) (fun a h => by cases h)
          simpa [openPiece, hpn] using ih
      · have hk := fieldsOn_skip (Utf8.decode s pos).2 (s.data.toList.drop pos) (openPiece s.data.toList st pos) (by rw [List.length_drop, ← size_eq]; omega) (fun j hj => by
          have := h2 j hj
          rw [List.getD_eq_getElem?_getD] at this ⊢
          rw [List.getElem?_drop]
          exact this)
        rw [hk, List.drop_drop]
        have hb : blankR (Utf8.decode s pos).1 = false := by simpa [blankR] using h1
        simp only [hb, Bool.false_eq_true, if_false]
        cases st with
        | none =>
          have ih := spansP_eq s f (pos + (Utf8.decode s pos).2) (some pos) acc (by omega) hwn (fun a h => by cases h; omega)
          have e : ([] : List UInt8) ++ (s.data.toList.drop pos).take (Utf8.decode s pos).2 = pieceU s.data.toList pos (pos + (Utf8.decode s pos).2) := by
            unfold pieceU
            rw [List.nil_append, Nat.add_sub_cancel_left]
          simp only [openPiece] at ih ⊢
          rw [e]
          exact ih
        | some a =>
          have ih := spansP_eq s f (pos + (Utf8.decode s pos).2) (some a) acc (by omega) hwn (fun b h => by cases h; have := hst a rfl; omega)
          simp only [openPiece] at ih ⊢
          rw [pieceU_grow _ _ _ _ (by have := hst a rfl; omega)]
          exact ih
    · rw [spansFromP_end _ _ _ _ _ _ hlt]
      obtain rfl : pos = s.size := by omega
      have hd : s.data.toList.drop s.size = [] := List.drop_eq_nil_of_le (by rw [← size_eq]; exact Nat.le_refl _)
      rw [hd, fieldsOn]
      cases st with
      | none => simp [closeSpans, openPiece]
      | some a =>
        have := pieceU_ne s.data.toList a s.size (hst a rfl) (by rw [← size_eq]; exact Nat.le_refl _)
        simp [closeSpans, openPiece, this]

theorem goFields_words (s : ByteArray) : (goFieldsP blankR s).map (·.data.toList) = fieldsB s.data.toList := by
  have h := spansP_eq s s.size 0 none [] (by omega) (by omega) (fun a h => by cases h)
  simp only [List.map_nil, List.nil_append, List.drop_zero, openPiece] at h
  unfold goFieldsP fieldsB spansOfP
  rw [h, List.map_map]
  apply List.map_congr_left
  intro p _
  simp only [Function.comp, pieceU, extract_data]
end Go.Proofs.YtneajiglkiffjaaGreatDoor
