/- A frame's return places (layer 6): the contract of copied: the same numbers in memory of the call's own; one more appended. The conditions: the numbers lie there, a hundred at most. -/
import Derived.Test.YtobbmhboahognaaDoorVmFrame
import Derived.Laws.AppendOwn
import Derived.Maps.AppendAt
import Derived.Lib.AppendZeros
import Derived.Deep.AppendSrc
import Derived.Deep.Upon
namespace Go.Proofs.YtobbmhboahognaaDoor
open Go.RowKit
set_option linter.unusedVariables false

/-- A slice of these numbers, of the call's own. -/
def OwnI (W : World) (base : Nat) (v : Value) (zs : List Int) : Prop := W.ownsRow base 3 1 v zs.length (zs.map (Value.int .i64))
theorem OwnI.intsIn {W : World} {base : Nat} {v : Value} {zs : List Int} (h : OwnI W base v zs) : ∃ B c, v = .slice B zs.length c ∧ IntsIn W .i64 B zs ∧ zs.length ≤ c ∧ ∀ a, B = some a → base ≤ a.block ∧ a.block < W.heap.size := by
  have hc := fun (g : Nat) (hg : v.ownBlock = some g) => World.ownsRow.cells h hg
  have hlt := h.lt
  rcases h.2 with ⟨hv, hn⟩ | ⟨g, cap, cur, hv, hb, hg, hnc, _, _, _⟩
  · exact ⟨none, 0, by rw [hv, hn], fun i hi => by omega, by omega, fun a e => by cases e⟩
  · subst hv
    have hl := (hlt g rfl).2
    refine ⟨_, _, rfl, fun i hi => ⟨_, rfl, hl, ?_⟩, hnc, fun a e => by cases e; exact ⟨hb, hl⟩⟩
    exact hc g rfl i _ (by simp [hi])
theorem info_vi : (Tryd.prog.info? 3).map (fun i => (i.zero, i.size, i.bytes)) = some (some (.int .i64 0), 1, 8) := by kernel_rfl
theorem ints_oneCell (zs : List Int) : ∀ u ∈ zs.map (Value.int .i64), u.oneCell' = true := by
  intro u hu
  obtain ⟨z, _, rfl⟩ := List.mem_map.1 hu
  rfl
theorem intsIn_news {W : World} {p : Addr} {zs : List Int} (h : IntsIn W .i64 (some p) zs) : ∀ j u, (zs.map (Value.int .i64))[j]? = some u → W.cell? (p.add j) = some u := by
  intro j u hu
  have hj : j < zs.length := by simpa using (List.getElem?_eq_some_iff.1 hu).1
  obtain ⟨a, e, _, hc⟩ := h j hj
  cases e
  rw [hc, ← hu]
  simp [hj]

/-- append([]int(nil), l...): the same numbers. -/
theorem run_copyInts (A : Option Addr) (cap : Nat) (zs : List Int) (W : World) (hI : IntsIn W .i64 A zs) (hl : zs.length ≤ 100) :
    ∃ v W1, (Builtin.append_ #[24, 24] 24 #[.slice none 0 0, .slice A zs.length cap]).run Tryd.prog W = .ok v W1 ∧ OwnI W1 W.heap.size v zs ∧ Below W.heap.size W W1 := by
  obtain ⟨i0, hi0, hz0, hz1, hz2⟩ := info_parts info_vi
  cases A with
  | none =>
    have h0 : zs = [] := by
      cases zs with
      | nil => rfl
      | cons z l => obtain ⟨a, e, _⟩ := hI 0 (by simp); cases e
    subst h0
    have hr := run_append_nothing W 24 24 24 _ i0 Tryd.underlying24 hi0 none 0 0 (Nat.le_refl _) (.slice none 0 cap) (Src.ofNil W Tryd.underlying24 cap)
    exact ⟨_, W, hr, World.ownsRow_nil _ _ _ _, Below.refl _ _⟩
  | some p =>
    obtain ⟨v', W1, hr, ho, hg, _, _⟩ := run_append_own_at (P := Tryd.prog) (w := W) W.heap.size 24 24 3 i0 (.int .i64 0) 1 8 Tryd.underlying24 hi0 hz0 hz1 hz2 (by simp [Value.cells]) (by omega) (.slice none 0 0) 0 [] (World.ownsRow_nil _ _ _ _)
      p zs.length cap (zs.map (Value.int .i64)) (by simp) (intsIn_news hI) (ints_oneCell zs) (by simp only [maxLen]; omega) (by omega) (Nat.le_refl _)
    refine ⟨v', W1, hr, ?_, (Below.refl W.heap.size W).grown hg (Nat.le_refl _) (by simp [Value.ownBlock])⟩
    unfold OwnI
    simpa using ho
/-- append of one number to a slice of the call's own. -/
theorem run_addInt {W : World} {base : Nat} {v : Value} {zs : List Int} (h : OwnI W base v zs) (hl : zs.length ≤ 100) (hb : base ≤ W.heap.size) (k : Int) :
    ∃ v' W2, (Builtin.append_ #[24, 24] 24 #[v, .slice (some ⟨W.heap.size, 0, none⟩) 1 1]).run Tryd.prog (W.alloc (.cells #[.int .i64 k] 3)) = .ok v' W2 ∧ OwnI W2 base v' (zs ++ [k]) ∧ Below base W W2 := by
  obtain ⟨i0, hi0, hz0, hz1, hz2⟩ := info_parts info_vi
  have h1 := h.alloc (.cells #[.int .i64 k] 3)
  obtain ⟨v', W2, hr, ho, hg, _, _⟩ := run_append_own_at (P := Tryd.prog) (w := W.alloc (.cells #[.int .i64 k] 3)) base 24 24 3 i0 (.int .i64 0) 1 8 Tryd.underlying24 hi0 hz0 hz1 hz2 (by simp [Value.cells]) (by omega) v zs.length _ h1 ⟨W.heap.size, 0, none⟩ 1 1 [.int .i64 k] rfl
    (fun j u hu => by
      have hj : j = 0 := by
        have := (List.getElem?_eq_some_iff.1 hu).1
        simpa using this
      subst hj
      have e0 : (⟨W.heap.size, 0, none⟩ : Addr).add 0 = ⟨W.heap.size, 0, none⟩ := by unfold Addr.add; simp
      rw [e0, World.cell?_alloc_at _ _ _ _ rfl]
      simpa using hu) (by intro u hu; simp at hu; subst hu; rfl) (by simp only [maxLen]; omega) (by omega) (by simp; omega)
  refine ⟨v', W2, hr, ?_, ((Below.refl base W).alloc hb _).grown hg (by simp; omega) (fun j hj => (h1.lt j hj).1)⟩
  unfold OwnI
  simpa using ho

/-- The same numbers, in memory of their own. -/
def CopPost (zs : List Int) (w : World) (e : Ending) (w' : World) : Prop := ∃ v, e = .returned v ∧ OwnI w' w.heap.size v zs ∧ Below w.heap.size w w'
set_option maxRecDepth 100000 in
theorem copied_any (A : Option Addr) (cap : Nat) (zs : List Int) (w : World) (hI : IntsIn w .i64 A zs) (hl : zs.length ≤ 100) :
    Calls Tryd.prog 42 #[.slice A zs.length cap] w (CopPost zs w) := by
  obtain ⟨v, W1, hr, ho, hb⟩ := run_copyInts A cap zs w hI hl
  have FIN := Lib.hid (show CopPost zs w (.returned v) W1 from ⟨v, rfl, ho, hb⟩)
  have HR := Lib.hid hr
  obtain ⟨n, hn⟩ : ∃ n, n = zs.length := ⟨_, rfl⟩
  rw [← hn] at HR ⊢
  clear hI hl hr ho hb hn
  go_enter Tryd.func42, Tryd.ntmps42
  go_wp2_with (at_builtin; refine Lib.wpList_append_run _ rfl _ _ 24 24 rfl _ _ rfl rfl _ _ HR.out ?_)
  go_ret
  exact FIN.out
end Go.Proofs.YtobbmhboahognaaDoor
