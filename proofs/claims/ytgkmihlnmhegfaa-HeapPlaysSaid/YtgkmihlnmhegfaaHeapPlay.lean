/- The program's queue and the document's, side by side (layer 7): they hold the same, and a call of each leaves the same. -/
import Derived.Test.YtgkmihlnmhegfaaHeapRefD
import Derived.Test.YtgkmihlnmhegfaaHeapRefC
import Derived.Test.YtgkmihlnmhegfaaHeapSame
import Derived.Test.YtgkmihlnmhegfaaHeapAll3
import Derived.Test.YtgkmihlnmhegfaaHeapAwake
namespace Go.Proofs.Ytgkmihlnmhegfaa
open Go.RowKit
set_option linter.unusedVariables false

structure PlayI (w : World) (B0 : Nat) (W : World) (b mb N : Nat) (v : Value) (c : Nat) (S : List Itm) (n r Nr : Nat) (vr : Value) (T : List Itm) (m : Nat) : Prop where
  q : Since w B0 W b mb N v c S n
  p : RefQ W r Nr vr T m
  hr : B0 ≤ r
  hN : B0 ≤ Nr
  d : r ≠ b ∧ r ≠ mb
  n1 : ∀ k, v.ownBlock = some k → k ≠ r ∧ vr.ownBlock ≠ some k
  n2 : ∀ k, vr.ownBlock = some k → k ≠ b ∧ k ≠ mb
section
variable {w W W' : World} {B0 b mb N : Nat} {v : Value} {c : Nat} {S : List Itm} {n r Nr : Nat} {vr : Value} {T : List Itm} {m : Nat}
theorem PlayI.led {v' : Value} {c' : Nat} {S' : List Itm} {n' : Nat} (h : PlayI w B0 W b mb N v c S n r Nr vr T m) (l : Led W b mb N v W' v' c' S' n') : PlayI w B0 W' b mb N v' c' S' n' r Nr vr T m := by
  have hrl := h.p.top.lt
  have hown := h.p.row.lt
  have hF : ∀ k, k ≠ b → k ≠ mb → v.ownBlock ≠ some k → k ∉ b :: mb :: v.ownBlock.toList := fun k h1 h2 h3 => by
    simp only [List.mem_cons, not_or]
    exact ⟨h1, h2, fun e => h3 (by simpa using e)⟩
  refine ⟨h.q.led l, h.p.only l.only (hF _ h.d.1 h.d.2 (fun e => (h.n1 _ e).1 rfl)) (fun k hk => hF _ (h.n2 k hk).1 (h.n2 k hk).2 (fun e => (h.n1 k e).2 hk)), h.hr, h.hN, h.d, ?_, h.n2⟩
  intro k hk
  rcases l.jump k hk with e | e
  · exact h.n1 k e
  · exact ⟨by omega, fun e2 => by have := (hown k e2).2; omega⟩
theorem PlayI.ref {vr' : Value} {T' : List Itm} {m' : Nat} (h : PlayI w B0 W b mb N v c S n r Nr vr T m) (l : RefLed W r Nr vr W' vr' T' m') : PlayI w B0 W' b mb N v c S n r Nr vr' T' m' := by
  have hf := h.q.at1.facts
  have hown := h.q.at1.own
  refine ⟨⟨h.q.at1.only l.only (by simp; exact fun e => h.d.1 e.symm) (by simp; exact fun e => h.d.2 e.symm) (fun k hk => by simp; exact (h.n1 k hk).1), h.q.hb, h.q.hm, h.q.hN, h.q.bel.trans (l.only.below (by simp; exact h.hr) (by have := h.q.hN; omega))⟩, l.at1, h.hr, h.hN, h.d, fun k hk => ⟨(h.n1 k hk).1, fun e => ?_⟩, fun k hk => ?_⟩
  · rcases l.jump k e with e2 | e2
    · exact (h.n1 k hk).2 e2
    · have := (hown k hk).2; omega
  · rcases l.jump k hk with e2 | e2
    · exact h.n2 k e2
    · exact ⟨by omega, by omega⟩
theorem PlayI.below (h : PlayI w B0 W b mb N v c S n r Nr vr T m) (hb : Below W.heap.size W W') : PlayI w B0 W' b mb N v c S n r Nr vr T m := h.led (Led.same h.q.at1 hb)
theorem PlayI.up {d : Nat} (h : PlayI w B0 W b mb N v c S n r Nr vr T m) (hd : c ≤ d) : PlayI w B0 W b mb N v d S n r Nr vr T m :=
  ⟨⟨h.q.at1.mono hd, h.q.hb, h.q.hm, h.q.hN, h.q.bel⟩, h.p, h.hr, h.hN, h.d, h.n1, h.n2⟩
end

/-- What both calls of Put leave. -/
def PutNext (w : World) (B0 : Nat) (W : World) (b mb N : Nat) (c : Nat) (S : List Itm) (n r Nr : Nat) : Prop := ∃ v' vr' S', PlayI w B0 W b mb N v' (c + 2 * S.length + 3) S' (n + 1) r Nr vr' S' (n + 1) ∧ S'.length = S.length + 1
/-- The blocks that they turn. -/
abbrev bothB (b mb r : Nat) (v : Value) : List Nat := r :: b :: mb :: v.ownBlock.toList
section
variable {w W : World} {B0 b mb N : Nat} {v : Value} {c : Nat} {S : List Itm} {n r Nr : Nat} {vr : Value}
theorem putA (h : PlayI w B0 W b mb N v c S n r Nr vr S n) (d u : Int) (hl : S.length < 1073741822) (hn : n < 1073741823) (hc : c + 2 * S.length + 2 < maxLen) :
    Calls Try.prog 16 #[.pointer (some ⟨b, 0, none⟩), .int .u64 d, .int .u64 u] W fun e w1 => e = .returned (.int .i64 ((n : Int) + 1)) ∧ Only (bothB b mb r v) W w1 ∧
      Hid (Calls Try.prog 17 #[.pointer (some ⟨r, 0, none⟩), .int .u64 d, .int .u64 u] w1 fun e w2 => e = .returned (.int .i64 ((n : Int) + 1)) ∧ Only (bothB b mb r v) W w2 ∧ PutNext w B0 w2 b mb N c S n r Nr) := by
  have hh := h.q.at1.hs
  refine (putS h.q.at1 d u hl hn hc).mono ?_
  rintro e w1 ⟨rfl, v', l⟩
  have h1 := h.led l
  have o1 : Only (bothB b mb r v) W w1 := l.only.mono (fun k hk => List.mem_cons_of_mem _ hk)
  refine ⟨rfl, o1, Lib.hid ((refPut h1.p d u (by omega) hn).mono ?_)⟩
  rintro e w2 ⟨rfl, vr', l2⟩
  refine ⟨rfl, o1.trans (l2.only.mono (by simp)), v', vr', _, ?_, (insI_perm S ⟨d, u, (n : Int) + 1⟩).length_eq⟩
  have h2 := h1.ref l2
  rw [← spot_ins ⟨d, u, (n : Int) + 1⟩ S (fun y hy => by have := (hh y hy).2; show y.h < (n : Int) + 1; omega)] at h2
  exact h2
theorem putB (h : PlayI w B0 W b mb N v c S n r Nr vr S n) (d u : Int) (hl : S.length < 1073741822) (hn : n < 1073741823) (hc : c + 2 * S.length + 2 < maxLen) :
    Calls Try.prog 17 #[.pointer (some ⟨r, 0, none⟩), .int .u64 d, .int .u64 u] W fun e w1 => e = .returned (.int .i64 ((n : Int) + 1)) ∧ Only (bothB b mb r v) W w1 ∧
      Hid (Calls Try.prog 16 #[.pointer (some ⟨b, 0, none⟩), .int .u64 d, .int .u64 u] w1 fun e w2 => e = .returned (.int .i64 ((n : Int) + 1)) ∧ Only (bothB b mb r v) W w2 ∧ PutNext w B0 w2 b mb N c S n r Nr) := by
  have hh := h.q.at1.hs
  refine (refPut h.p d u (by omega) hn).mono ?_
  rintro e w1 ⟨rfl, vr', l⟩
  have h1 := h.ref l
  have o1 : Only (bothB b mb r v) W w1 := l.only.mono (by simp)
  refine ⟨rfl, o1, Lib.hid ((putS h1.q.at1 d u hl hn hc).mono ?_)⟩
  rintro e w2 ⟨rfl, v', l2⟩
  refine ⟨rfl, o1.trans (l2.only.mono (fun k hk => List.mem_cons_of_mem _ hk)), v', vr', _, ?_, (insI_perm S ⟨d, u, (n : Int) + 1⟩).length_eq⟩
  have h2 := h1.led l2
  rw [← spot_ins ⟨d, u, (n : Int) + 1⟩ S (fun y hy => by have := (hh y hy).2; show y.h < (n : Int) + 1; omega)] at h2
  exact h2
/-- What the other calls leave. -/
def Next (w : World) (B0 : Nat) (W : World) (b mb N : Nat) (c : Nat) (S : List Itm) (n r Nr : Nat) : Prop := ∃ v' vr' S', PlayI w B0 W b mb N v' (c + 2 * S.length + 1) S' n r Nr vr' S' n ∧ S'.length ≤ S.length
theorem next_same {W2 : World} (h : PlayI w B0 W2 b mb N v c S n r Nr vr S n) : Next w B0 W2 b mb N c S n r Nr := ⟨v, vr, S, h.up (by omega), Nat.le_refl _⟩
theorem only_below {F : List Nat} {W W' : World} (h : Below W.heap.size W W') : Only F W W' := Only.of_below h
theorem split_at (S : List Itm) (j : Nat) (h : j < S.length) : S = S.take j ++ at_ S j :: S.drop (j + 1) := by rw [at_get _ _ h]; simp

theorem firstAB (h : PlayI w B0 W b mb N v c S n r Nr vr S n) (hl : S.length < 1073741822) :
    Calls Try.prog 12 #[.pointer (some ⟨b, 0, none⟩)] W fun e w1 => ∃ x x' y, e = .returned (.tuple #[.int .u64 x, .int .u64 x', .bool y]) ∧ Only (bothB b mb r v) W w1 ∧
      Hid (Calls Try.prog 13 #[.pointer (some ⟨r, 0, none⟩)] w1 fun e w2 => e = .returned (.tuple #[.int .u64 x, .int .u64 x', .bool y]) ∧ Next w B0 w2 b mb N c S n r Nr) := by
  refine (firstS h.q.at1 (by omega)).mono ?_
  rintro e w1 ⟨rfl, hb⟩
  have h1 := h.below hb
  obtain ⟨x, x', y, hxy⟩ : ∃ x x' y, firstW S = .tuple #[.int .u64 x, .int .u64 x', .bool y] := by cases S <;> exact ⟨_, _, _, rfl⟩
  refine ⟨x, x', y, by rw [hxy], only_below hb, Lib.hid ((refFirst h1.p (by omega)).mono ?_)⟩
  rintro e w2 ⟨rfl, hb2⟩
  exact ⟨by rw [hxy], next_same (h1.below hb2)⟩
theorem popAB (h : PlayI w B0 W b mb N v c S n r Nr vr S n) (now : Int) (hl : S.length < 1073741822) (hn : n < 1073741823) (hc : c + 2 * S.length < maxLen) :
    Calls Try.prog 14 #[.pointer (some ⟨b, 0, none⟩), .int .u64 now] W fun e w1 => ∃ x y, e = .returned (.tuple #[.int .u64 x, .bool y]) ∧ Only (bothB b mb r v) W w1 ∧
      Hid (Calls Try.prog 15 #[.pointer (some ⟨r, 0, none⟩), .int .u64 now] w1 fun e w2 => e = .returned (.tuple #[.int .u64 x, .bool y]) ∧ Next w B0 w2 b mb N c S n r Nr) := by
  by_cases hy : ∃ y T, S = y :: T ∧ y.d ≤ now
  · obtain ⟨y, T, rfl, hd⟩ := hy
    refine (popS_yes h.q.at1 now hd (by omega) (by omega) hc).mono ?_
    rintro e w1 ⟨rfl, v', l⟩
    have h1 := h.led l
    refine ⟨_, _, rfl, l.only.mono (fun k hk => List.mem_cons_of_mem _ hk), Lib.hid ((refPop_yes h1.p now hd (by omega)).mono ?_)⟩
    rintro e w2 ⟨rfl, vr', l2⟩
    exact ⟨rfl, v', vr', T, h1.ref l2, by simp⟩
  · have hno : ∀ y T, S = y :: T → now < y.d := fun y T e => by
      rcases Int.lt_or_le now y.d with h | h
      · exact h
      · exact absurd ⟨y, T, e, h⟩ hy
    refine (popS_no h.q.at1 now hno (by omega)).mono ?_
    rintro e w1 ⟨rfl, hb⟩
    have h1 := h.below hb
    refine ⟨_, _, rfl, only_below hb, Lib.hid ((refPop_no h1.p now hno (by omega)).mono ?_)⟩
    rintro e w2 ⟨rfl, rfl⟩
    exact ⟨rfl, next_same h1⟩
theorem first_hit (S : List Itm) (k : Int) : (∀ j, j < S.length → (at_ S j).h ≠ k) ∨ ∃ j, j < S.length ∧ (at_ S j).h = k ∧ ∀ i, i < j → (at_ S i).h ≠ k := by
  induction S with
  | nil => exact .inl (fun j hj => by simp at hj)
  | cons y S ih =>
    by_cases hy : y.h = k
    · exact .inr ⟨0, by simp, by simpa [at_] using hy, fun i hi => by omega⟩
    · rcases ih with h | ⟨j, h1, h2, h3⟩
      · refine .inl (fun j hj => ?_)
        cases j with
        | zero => simpa [at_] using hy
        | succ j => have := h j (by simpa using hj); simpa [at_] using this
      · refine .inr ⟨j + 1, by simpa using h1, by simpa [at_] using h2, fun i hi => ?_⟩
        cases i with
        | zero => simpa [at_] using hy
        | succ i => have := h3 i (by omega); simpa [at_] using this
theorem dropAB (h : PlayI w B0 W b mb N v c S n r Nr vr S n) (k : Int) (hk : (Lit.int .i64 k).wf = true) (hl : S.length < 1073741822) (hn : n < 1073741823) (hc : c + 2 * S.length < maxLen) :
    Calls Try.prog 10 #[.pointer (some ⟨b, 0, none⟩), .int .i64 k] W fun e w1 => ∃ x y, e = .returned (.tuple #[.int .u64 x, .bool y]) ∧ Only (bothB b mb r v) W w1 ∧
      Hid (Calls Try.prog 11 #[.pointer (some ⟨r, 0, none⟩), .int .i64 k] w1 fun e w2 => e = .returned (.tuple #[.int .u64 x, .bool y]) ∧ Next w B0 w2 b mb N c S n r Nr) := by
  rcases first_hit S k with hno | ⟨j, hj, hjk, hf⟩
  · refine (dropS_no h.q.at1 k hk (fun x hx => ?_)).mono ?_
    · obtain ⟨i, hi, rfl⟩ := List.mem_iff_getElem.1 hx
      have := hno i hi
      rwa [at_get _ _ hi] at this
    rintro e w1 ⟨rfl, rfl⟩
    refine ⟨_, _, rfl, Only.refl _ _, Lib.hid ((refDrop_no h.p k hno (by omega)).mono ?_)⟩
    rintro e w2 ⟨rfl, rfl⟩
    exact ⟨rfl, next_same h⟩
  · have hS := split_at S j hj
    have hat := h.q.at1
    rw [hS] at hat
    have hle : (S.take j ++ at_ S j :: S.drop (j + 1)).length = S.length := by rw [← hS]
    refine (dropS_yes hat k hjk (by omega) (by omega) (by omega)).mono ?_
    rintro e w1 ⟨rfl, v', l⟩
    rw [hle] at l
    have h1 := h.led l
    refine ⟨_, _, rfl, l.only.mono (fun k hk => List.mem_cons_of_mem _ hk), Lib.hid ((refDrop_yes h1.p k j hj hjk hf (by omega)).mono ?_)⟩
    rintro e w2 ⟨rfl, vr', l2⟩
    exact ⟨rfl, v', vr', _, h1.ref l2, by simp; omega⟩
end
end Go.Proofs.Ytgkmihlnmhegfaa
