/- The clock in memory (layer 8): its block, its queue, its map; what a call may leave. -/
import Derived.Test.YtobbmhboahognaaDoorClkMap
import Derived.Test.YtobbmhboahognaaDoorHeapSince
namespace Go.Proofs.YtobbmhboahognaaDoor
open Go.RowKit
set_option linter.unusedVariables false

structure ClkP (W : World) (b qb mb N mc : Nat) (v : Value) (c cc : Nat) (now : Int) (S : List Itm) (last n : Nat) (f : Int → Option (Int × Int)) : Prop where
  row : Row W b [.int .u64 now, .pointer (some ⟨qb, 0, none⟩), .map (some mc)]
  heap : HeapIs W qb mb N v c S last
  al : AlIs W mc cc n f
  ap : b ≠ mc ∧ b ≠ qb ∧ b ≠ mb ∧ mc ≠ qb ∧ mc ≠ mb
  vb : ∀ k, v.ownBlock = some k → k ≠ b ∧ k ≠ mc
/-- The clock's blocks. -/
abbrev clkF (b qb mb mc : Nat) (v : Value) : List Nat := b :: mc :: qb :: mb :: v.ownBlock.toList
section
variable {W W' : World} {b qb mb N mc : Nat} {v : Value} {c cc : Nat} {now : Int} {S : List Itm} {last n : Nat} {f : Int → Option (Int × Int)}
theorem HeapIs.lts (h : HeapIs W qb mb N v c S last) : qb < W.heap.size ∧ mb < W.heap.size ∧ ∀ k, v.ownBlock = some k → k < W.heap.size := by
  have h1 := h.own
  obtain ⟨L, hL, hp, hs⟩ := h
  obtain ⟨f, q1, q2⟩ := hL.pos
  exact ⟨hL.row.lt, q1.lt, fun k hk => (h1 k hk).2⟩
theorem ClkP.lt (h : ClkP W b qb mb N mc v c cc now S last n f) : ∀ k ∈ clkF b qb mb mc v, k < W.heap.size := by
  obtain ⟨h1, h2, h3⟩ := h.heap.lts
  intro k hk
  simp only [List.mem_cons] at hk
  rcases hk with rfl | rfl | rfl | rfl | hk
  · exact h.row.lt
  · exact h.al.lt
  · exact h1
  · exact h2
  · exact h3 k (by simpa using hk)
theorem ClkP.only {G : List Nat} (h : ClkP W b qb mb N mc v c cc now S last n f) (ho : Only G W W') (hG : ∀ k ∈ clkF b qb mb mc v, k ∉ G) : ClkP W' b qb mb N mc v c cc now S last n f :=
  ⟨h.row.only ho (hG _ (by simp)), h.heap.only ho (hG _ (by simp)) (hG _ (by simp)) (fun k hk => hG k (by simp [hk])), h.al.block (ho.block _ h.al.lt (hG _ (by simp))), h.ap, h.vb⟩
theorem ClkP.step {v' : Value} {c' : Nat} {S' : List Itm} {last' : Nat} (h : ClkP W b qb mb N mc v c cc now S last n f) (l : Led W qb mb N v W' v' c' S' last') : ClkP W' b qb mb N mc v' c' cc now S' last' n f := by
  obtain ⟨a1, a2, a3, a4, a5⟩ := h.ap
  refine ⟨h.row.only l.only ?_, l.at1, h.al.block (l.only.block _ h.al.lt ?_), h.ap, fun k hk => ?_⟩
  · simp only [List.mem_cons, not_or]
    exact ⟨a2, a3, fun e => (h.vb b (by simpa using e)).1 rfl⟩
  · simp only [List.mem_cons, not_or]
    exact ⟨a4, a5, fun e => (h.vb mc (by simpa using e)).2 rfl⟩
  · rcases l.jump k hk with e | e
    · exact h.vb k e
    · have := h.row.lt; have := h.al.lt; omega
theorem ClkP.mapped {cc' n' : Nat} {f' : Int → Option (Int × Int)} (h : ClkP W b qb mb N mc v c cc now S last n f) (ho : Only [mc] W W') (ha : AlIs W' mc cc' n' f') : ClkP W' b qb mb N mc v c cc' now S last n' f' := by
  obtain ⟨a1, a2, a3, a4, a5⟩ := h.ap
  exact ⟨h.row.only ho (by simpa using a1), h.heap.only ho (by simpa using fun e => a4 e.symm) (by simpa using fun e => a5 e.symm) (fun k hk => by simpa using (h.vb k hk).2), ha, h.ap, h.vb⟩
theorem ClkP.set (h : ClkP W b qb mb N mc v c cc now S last n f) (u : Int) : ClkP (W.setCell ⟨b, 0, none⟩ (.int .u64 u)) b qb mb N mc v c cc u S last n f := by
  obtain ⟨a1, a2, a3, a4, a5⟩ := h.ap
  have o : Only [b] W (W.setCell ⟨b, 0, none⟩ (.int .u64 u)) := (Only.refl [b] W).setCell (p := ⟨b, 0, none⟩) (Or.inl (by simp)) _
  exact ⟨by simpa using h.row.set 0 (by simp) (.int .u64 u), h.heap.only o (by simpa using fun e => a2 e.symm) (by simpa using fun e => a3 e.symm) (fun k hk => by simpa using (h.vb k hk).1), h.al.block (o.block _ h.al.lt (by simpa using fun e => a1 e.symm)), h.ap, h.vb⟩
theorem ClkP.c0 (h : ClkP W b qb mb N mc v c cc now S last n f) : W.cell? ⟨b, 0, none⟩ = some (.int .u64 now) := h.row.cell 0 (by simp)
theorem ClkP.c1 (h : ClkP W b qb mb N mc v c cc now S last n f) : W.cell? ⟨b, 1, none⟩ = some (.pointer (some ⟨qb, 0, none⟩)) := h.row.cell 1 (by simp)
theorem ClkP.c2 (h : ClkP W b qb mb N mc v c cc now S last n f) : W.cell? ⟨b, 2, none⟩ = some (.map (some mc)) := h.row.cell 2 (by simp)
theorem ClkP.f0 (h : ClkP W b qb mb N mc v c cc now S last n f) : W.frozen? ⟨b, 0, none⟩ = false := h.row.free 0 (by simp)
theorem Led.clk (l : Led W qb mb N v W' v c S last) : True := trivial
theorem clk_only {v' : Value} {c' : Nat} {S' : List Itm} {last' : Nat} (l : Led W qb mb N v W' v' c' S' last') : Only (clkF b qb mb mc v) W W' := l.only.mono (fun k hk => by simp only [List.mem_cons] at *; exact .inr (.inr hk))
theorem clk_jump {v' : Value} {c' : Nat} {S' : List Itm} {last' : Nat} (l : Led W qb mb N v W' v' c' S' last') : ∀ k ∈ clkF b qb mb mc v', k ∈ clkF b qb mb mc v ∨ W.heap.size ≤ k := by
  intro k hk
  simp only [List.mem_cons] at *
  rcases hk with h | h | h | h | h
  · exact .inl (.inl h)
  · exact .inl (.inr (.inl h))
  · exact .inl (.inr (.inr (.inl h)))
  · exact .inl (.inr (.inr (.inr (.inl h))))
  · rcases l.jump k (by simpa using h) with e | e
    · exact .inl (.inr (.inr (.inr (.inr (by simp [e])))))
    · exact .inr e
theorem grown_only {w w' : World} {k : Nat} (h : w.grownBy w' (some k)) : Only [k] w w' := ⟨h.os, h.tape, h.output, h.size, fun j hj hn => h.block j hj (fun e => hn (by cases e; simp))⟩
end
/-- At block b lies a clock at the time now, whose armed ids are, in order, S; F are its blocks; last is its queue's last handle; m bounds how much it was used. -/
def ClockAt (W : World) (F : List Nat) (b : Nat) (now : Int) (S : List Itm) (last m : Nat) : Prop := ∃ qb mb N mc v c cc k, F = clkF b qb mb mc v ∧ ClkP W b qb mb N mc v c cc now S last S.length (fOf S) ∧ WD S ∧ (∀ x ∈ S, (Lit.int .u64 x.w).wf = true) ∧ k + S.length ≤ m ∧ last ≤ k ∧ cc ≤ k ∧ c ≤ k * 10000
/-- What a call leaves. -/
structure CLed (W : World) (F : List Nat) (b : Nat) (W' : World) (F' : List Nat) (now' : Int) (S' : List Itm) (last' m' : Nat) : Prop where
  at1 : ClockAt W' F' b now' S' last' m'
  jump : ∀ k ∈ F', k ∈ F ∨ W.heap.size ≤ k
  only : Only F W W'
section
variable {W W' : World} {F : List Nat} {b : Nat} {now : Int} {S : List Itm} {last m : Nat}
theorem ClockAt.lt (h : ClockAt W F b now S last m) : ∀ k ∈ F, k < W.heap.size := by obtain ⟨qb, mb, N, mc, v, c, cc, k, rfl, h, _⟩ := h; exact h.lt
theorem ClockAt.only {G : List Nat} (h : ClockAt W F b now S last m) (ho : Only G W W') (hG : ∀ k ∈ F, k ∉ G) : ClockAt W' F b now S last m := by
  obtain ⟨qb, mb, N, mc, v, c, cc, k, rfl, h, r⟩ := h
  exact ⟨qb, mb, N, mc, v, c, cc, k, rfl, h.only ho hG, r⟩
theorem ClockAt.below (h : ClockAt W F b now S last m) (hb : Below W.heap.size W W') : ClockAt W' F b now S last m := h.only (G := []) (Only.of_below hb) (fun _ _ => by simp)
theorem CLed.same (h : ClockAt W F b now S last m) (hb : Below W.heap.size W W') : CLed W F b W' F now S last m := ⟨h.below hb, fun k hk => .inl hk, Only.of_below hb⟩
end
/-- A clock that was made since w0. -/
structure ClkSince (w0 : World) (B0 : Nat) (W : World) (F : List Nat) (b : Nat) (now : Int) (S : List Itm) (last m : Nat) : Prop where
  at1 : ClockAt W F b now S last m
  hF : ∀ k ∈ F, B0 ≤ k
  bel : Below B0 w0 W
  hB : B0 ≤ W.heap.size
section
variable {w0 W W' : World} {B0 : Nat} {F F' : List Nat} {b : Nat} {now now' : Int} {S S' : List Itm} {last last' m m' : Nat}
theorem ClkSince.led (h : ClkSince w0 B0 W F b now S last m) (l : CLed W F b W' F' now' S' last' m') : ClkSince w0 B0 W' F' b now' S' last' m' :=
  ⟨l.at1, fun k hk => by
    rcases l.jump k hk with e | e
    · exact h.hF k e
    · have := h.hB; omega, h.bel.trans (l.only.below h.hF h.hB), Nat.le_trans h.hB l.only.size⟩
theorem ClkSince.below (h : ClkSince w0 B0 W F b now S last m) (hb : Below W.heap.size W W') : ClkSince w0 B0 W' F b now S last m := h.led (CLed.same h.at1 hb)
end
end Go.Proofs.YtobbmhboahognaaDoor
