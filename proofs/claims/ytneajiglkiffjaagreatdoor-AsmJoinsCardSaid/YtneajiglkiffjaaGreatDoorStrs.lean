/- Contracts of strings.Split, strings.Cut at a separator of one byte, in plain words: the lines of a text; what lies ahead of a byte, and behind it. No condition but the text's length. -/
import Derived.Test.YtneajiglkiffjaaGreatDoorShelf
import Derived.Test.YtneajiglkiffjaaGreatDoorAsmText
import Derived.Lib.IndexLaws
import Derived.Lib.IndexBytes
import Derived.Lib.SplitLaws
import Derived.Lib.CutLaws
import Derived.Lib.Hide
import Derived.WalkKit
import Derived.WalkSpells
import Derived.WalkLawsBesides
import Derived.Laws.Strings3
import Derived.Deep.Draws
import Derived.Deep.QuietTactic
import Derived.BigQuiet
namespace Go.Proofs.YtneajiglkiffjaaGreatDoor
open Go.RowKit
set_option linter.unusedVariables false

theorem linesB_none : ∀ l : List UInt8, (∀ c ∈ l, c ≠ 10) → linesB l = [l]
  | [], _ => rfl
  | c :: t, h => by
    rw [linesB, if_neg (h c (by simp)), linesB_none t (fun x hx => h x (by simp [hx]))]
theorem linesB_at : ∀ a b : List UInt8, (∀ c ∈ a, c ≠ 10) → linesB (a ++ 10 :: b) = a :: linesB b
  | [], b, _ => by rw [List.nil_append, linesB, if_pos rfl]
  | c :: t, b, h => by
    rw [List.cons_append, linesB, if_neg (h c (by simp)), linesB_at t b (fun x hx => h x (by simp [hx]))]
theorem cutAt_none (c : UInt8) : ∀ l : List UInt8, (∀ x ∈ l, x ≠ c) → cutAt c l = (l, [], false)
  | [], _ => rfl
  | b :: t, h => by rw [cutAt, if_neg (h b (by simp)), cutAt_none c t (fun x hx => h x (by simp [hx]))]
theorem cutAt_at (c : UInt8) : ∀ a b : List UInt8, (∀ x ∈ a, x ≠ c) → cutAt c (a ++ c :: b) = (a, b, true)
  | [], b, _ => by rw [List.nil_append, cutAt, if_pos rfl]
  | x :: t, b, h => by rw [List.cons_append, cutAt, if_neg (h x (by simp)), cutAt_at c t b (fun y hy => h y (by simp [hy]))]
/-- Where a byte stands first. -/
theorem first_at (l : List UInt8) (c : UInt8) (i : Nat) (h : Lib.indexByte l c = i) : l = l.take i ++ c :: l.drop (i + 1) ∧ (∀ x ∈ l.take i, x ≠ c) ∧ i < l.length := by
  obtain ⟨h1, h2⟩ := Lib.indexByte_some h
  have hl : i < l.length := (List.getElem?_eq_some_iff.1 h1).1
  have hc : l[i] = c := (List.getElem?_eq_some_iff.1 h1).2
  refine ⟨?_, fun x hx => ?_, hl⟩
  · rw [← hc, ← List.drop_eq_getElem_cons hl, List.take_append_drop]
  · obtain ⟨k, hk, e⟩ := List.mem_iff_getElem.1 hx
    rw [List.length_take] at hk
    intro hxc
    refine h2 k (by omega) ?_
    rw [List.getElem_take] at e
    rw [List.getElem?_eq_getElem (by omega), e, hxc]
theorem no_at (l : List UInt8) (c : UInt8) (h : Lib.indexByte l c = -1) : ∀ x ∈ l, x ≠ c := fun x hx hxc => by
  obtain ⟨k, hk, e⟩ := List.mem_iff_getElem.1 hx
  exact Lib.indexByte_none h k (by rw [List.getElem?_eq_getElem hk, e, hxc])
theorem index_cases (l : List UInt8) (c : UInt8) : Lib.indexByte l c = -1 ∨ ∃ i : Nat, Lib.indexByte l c = i := by
  have := Lib.indexByte_ge l c
  by_cases h : Lib.indexByte l c = -1
  · exact .inl h
  · exact .inr ⟨(Lib.indexByte l c).toNat, by omega⟩
theorem splitK_lines : ∀ (k : Nat) (l : List UInt8), l.count 10 = k → Lib.splitK [10] 0 k l = linesB l
  | 0, l, h => by
    rw [Lib.splitK, linesB_none l (fun c hc he => by
      rw [he] at hc
      have := List.count_pos_iff.2 hc
      omega)]
  | k + 1, l, h => by
    rw [Lib.splitK, Lib.index_one]
    rcases index_cases l 10 with h1 | ⟨i, h1⟩
    · exfalso
      have h2 := no_at l 10 h1
      have : (10 : UInt8) ∈ l := List.count_pos_iff.1 (by omega)
      exact h2 _ this rfl
    · obtain ⟨e, hn, hl⟩ := first_at l 10 i h1
      have hne : ¬ ((Lib.indexByte l 10 == -1) = true) := by rw [h1]; simp
      rw [if_neg hne, h1]
      have e2 : linesB l = l.take i :: linesB (l.drop (i + 1)) := by
        conv => lhs; rw [e]
        exact linesB_at _ _ hn
      have hcnt : (l.drop (i + 1)).count 10 = k := by
        have h3 := congrArg (List.count 10) e
        rw [List.count_append, List.count_cons_self, List.count_eq_zero.2 (fun hm => hn _ hm rfl)] at h3
        omega
      rw [e2]
      simp only [List.length_singleton, Int.toNat_natCast, Nat.add_zero]
      rw [splitK_lines k _ hcnt]
theorem splitB_lines (s : ByteArray) : (Lib.splitB ⟨#[10]⟩ 0 (Lib.countB s ⟨#[10]⟩) s).map (·.data.toList) = linesB s.data.toList := by
  rw [Lib.splitB_data]
  have h : Lib.countB s ⟨#[10]⟩ = s.data.toList.count 10 := Lib.count_one 10 s.data.toList
  rw [h]
  exact splitK_lines _ _ rfl
theorem cut_one (l : List UInt8) (c : UInt8) : Lib.cut l [c] = cutAt c l := by
  unfold Lib.cut
  rw [Lib.index_one]
  rcases index_cases l c with h1 | ⟨i, h1⟩
  · rw [h1, if_neg (by omega), cutAt_none c l (no_at l c h1)]
  · obtain ⟨e, hn, hl⟩ := first_at l c i h1
    rw [h1, if_pos (by omega)]
    conv => rhs; rw [e]
    rw [cutAt_at c _ _ hn]
    simp
/-- A byte array of these bytes. -/
abbrev bytesA (l : List UInt8) : ByteArray := ⟨l.toArray⟩
theorem bytesA_eq (s : ByteArray) : bytesA s.data.toList = s := by apply ByteArray.ext; simp

set_option maxHeartbeats 1000000 in
/-- The lines of a text, in a block of their own. -/
theorem split_any (s : ByteArray) (w : World) (hs : s.size < 4294967281) : Calls Tryz.prog 28 #[.string s, .string ⟨#[10]⟩] w fun e w' =>
    e = .returned (.slice (some ⟨w.heap.size, 0, none⟩) (linesB s.data.toList).length (linesB s.data.toList).length) ∧ w' = w.alloc (.cells ((linesB s.data.toList).map fun l => Value.string (bytesA l)).toArray 9) := by
  have hl : (linesB s.data.toList).length = Lib.countB s ⟨#[10]⟩ + 1 := by
    rw [← splitB_lines, List.length_map]
    exact Lib.splitB_all ⟨#[10]⟩ (by decide) 0 _ s rfl
  have hv : ((Lib.splitB ⟨#[10]⟩ 0 (Lib.countB s ⟨#[10]⟩) s).map Value.string) = (linesB s.data.toList).map fun l => Value.string (bytesA l) := by
    rw [← splitB_lines, List.map_map]
    apply List.map_congr_left
    intro x _
    simp only [Function.comp, bytesA_eq]
  have hlen := Lib.splitB_all ⟨#[10]⟩ (by decide) 0 _ s rfl
  have hle := Lib.countB_le ⟨#[10]⟩ (by decide) s.size s (Nat.le_refl _)
  have c := Any.strings_genSplit_core (P := Tryz.prog) (ρ := Tryz.lays146_ren) { Tryz.lays146 with } (by kernel_rfl) s ⟨#[10]⟩ 0 (-1) (Lib.countB s ⟨#[10]⟩ + 1) w hs (by decide) (Nat.zero_le _)
    (fun x c hx => (Any.strings_Index_one { Tryz.lays146 with } x 10 _).mono fun e w' ⟨he, hw⟩ => ⟨by rw [he]; show _ = Ending.returned (Value.int .i64 (Lib.index x.data.toList [10])); rw [Lib.index_one], hw⟩)
    ((Any.strings_Count_one { Tryz.lays146 with } s 10 w).mono fun e w' ⟨he, hw⟩ => ⟨by rw [he]; show _ = Ending.returned (Value.int .i64 ((Lib.count s.data.toList [10] : Nat) : Int)); rw [Lib.count_one]; rfl, hw⟩)
    (by decide) (by decide) (by rw [if_pos (by decide)]; omega)
  rw [Nat.add_sub_cancel, hlen] at c
  have e2 : Lib.cellsOf (Lib.splitB ⟨#[10]⟩ 0 (Lib.countB s ⟨#[10]⟩) s) (Lib.countB s ⟨#[10]⟩ + 1) = ((linesB s.data.toList).map fun l => Value.string (bytesA l)).toArray := by rw [← hv, ← hlen]; exact Lib.cellsOf_full _
  rw [e2, ← hl] at c
  have C := Lib.hid (show Calls Tryz.prog 50 #[.string s, .string ⟨#[10]⟩, .int .i64 0, .int .i64 (-1)] w _ from c)
  clear c hl hv hlen hle e2
  go_enter Tryz.func28, Tryz.ntmps28
  go_wp2_with (go_at_call 50; refine C.out.mono ?_; rintro e w' ⟨rfl, hw⟩; rw [hw])
  go_ret
  exact ⟨rfl, rfl⟩

set_option maxHeartbeats 1000000 in
theorem slcut_any (s : ByteArray) (c : UInt8) (w : World) (hs : s.size < 4294967281) : Calls Tryz.prog 72 #[.string s, .string ⟨#[c]⟩] w fun e w' =>
    e = .returned (.tuple #[.string (bytesA (cutAt c s.data.toList).1), .string (bytesA (cutAt c s.data.toList).2.1), .bool (cutAt c s.data.toList).2.2]) ∧ ∃ n, w' = w.drewN n := by
  have hx : Lib.indexB s ⟨#[c]⟩ = Lib.indexByte s.data.toList c := Lib.index_one _ _
  rcases Lib.indexB_cases s ⟨#[c]⟩ with hix | ⟨i, hix, hroom⟩
  · obtain ⟨e1, e2, e3⟩ := Lib.cutB_miss s ⟨#[c]⟩ hix
    rw [show (⟨#[c]⟩ : ByteArray).data.toList = [c] from rfl, cut_one] at e1 e2 e3
    have C := Lib.hid (fun W => Tryz.stringslite_Index_one s c W)
    have HX := Lib.hid (hx.symm.trans hix)
    unfold bytesA
    rw [e1, e2, e3]
    clear e1 e2 e3 hix hx
    go_enter Tryz.func72, Tryz.ntmps72
    go_wp2_with (go_at_call 88; refine (C.out _).mono ?_; rintro e w' ⟨rfl, rfl⟩; rw [HX.out])
    go_ret3
    exact ⟨rfl, 0, rfl⟩
  · obtain ⟨e1, e2, e3⟩ := Lib.cutB_hit s ⟨#[c]⟩ i hix
    rw [show (⟨#[c]⟩ : ByteArray).data.toList = [c] from rfl, cut_one] at e1 e2 e3
    have C := Lib.hid (fun W => Tryz.stringslite_Index_one s c W)
    have HX := Lib.hid (hx.symm.trans hix)
    unfold bytesA
    rw [e1, e2, e3]
    have hr : (⟨#[c]⟩ : ByteArray).size = 1 := rfl
    rw [hr] at hroom
    have c1 : (0 : Int) ≤ ↑i := by omega
    have c2 : (↑i : Int) ≤ ↑s.size := by omega
    have c3 : (0 : Int) ≤ ↑i + 1 := by omega
    have c4 : (↑i + 1 : Int) ≤ ↑s.size := by omega
    clear e1 e2 e3 hix hx hr
    go_enter Tryz.func72, Tryz.ntmps72
    go_wp2_with (go_at_call 88; refine (C.out _).mono ?_; rintro e w' ⟨rfl, rfl⟩; rw [HX.out])
    go_region
    all_goals
      go_wp2
      go_ret3
      exact ⟨rfl, 1, rfl⟩
set_option maxHeartbeats 1000000 in
theorem cut_any (s : ByteArray) (c : UInt8) (w : World) (hs : s.size < 4294967281) : Calls Tryz.prog 51 #[.string s, .string ⟨#[c]⟩] w fun e w' =>
    e = .returned (.tuple #[.string (bytesA (cutAt c s.data.toList).1), .string (bytesA (cutAt c s.data.toList).2.1), .bool (cutAt c s.data.toList).2.2]) ∧ ∃ n, w' = w.drewN n := by
  obtain ⟨r, hr⟩ : ∃ r, r = cutAt c s.data.toList := ⟨_, rfl⟩
  have C := Lib.hid (fun W => slcut_any s c W hs)
  rw [← hr] at C ⊢
  clear hr
  go_enter Tryz.func51, Tryz.ntmps51
  go_wp2_with (go_at_call 72; refine (C.out _).mono ?_; rintro e w' ⟨rfl, n, rfl⟩)
  go_ret3
  exact ⟨rfl, n, rfl⟩
end Go.Proofs.YtneajiglkiffjaaGreatDoor
