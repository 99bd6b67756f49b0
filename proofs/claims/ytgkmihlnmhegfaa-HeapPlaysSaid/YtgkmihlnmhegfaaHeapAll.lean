/- The statements' help all of layer 7: what is told, at most so many, as a new slice. The conditions: a queue lies there, fewer than 2^30 items. -/
import Derived.Test.YtgkmihlnmhegfaaHeapSorted
import Derived.Lib.AppendZeros
namespace Go.Proofs.Ytgkmihlnmhegfaa
open Go.RowKit
set_option linter.unusedVariables false

/-- The cells of deadlines and whats. -/
def Itm.ps (x : Itm) : List Value := [.int .u64 x.d, .int .u64 x.w]
def flatP (L : List Itm) : List Value := L.flatMap Itm.ps
theorem flatP_length (L : List Itm) : (flatP L).length = L.length * 2 := by
  induction L with
  | nil => rfl
  | cons x L ih => simp only [flatP, List.flatMap_cons, List.length_append, List.length_cons] at *; rw [ih]; simp [Itm.ps]; omega
theorem flatP_append (L M : List Itm) : flatP (L ++ M) = flatP L ++ flatP M := by simp [flatP]
theorem flatP_at (L : List Itm) (i : Nat) (hi : i < L.length) : (flatP L)[i * 2]? = some (.int .u64 (at_ L i).d) ∧ (flatP L)[i * 2 + 1]? = some (.int .u64 (at_ L i).w) := by
  induction L generalizing i with
  | nil => simp at hi
  | cons y L ih =>
    have h1 : flatP (y :: L) = y.ps ++ flatP L := rfl
    cases i with
    | zero => simp [h1, Itm.ps, at_]
    | succ i =>
      have := ih i (by simpa using hi)
      have h3 : y.ps.length = 2 := rfl
      have e : at_ (y :: L) (i + 1) = at_ L i := by simp [at_]
      rw [h1, e]
      refine ⟨?_, ?_⟩
      · rw [List.getElem?_append_right (by rw [h3]; omega), h3, show (i + 1) * 2 - 2 = i * 2 by omega]; exact this.1
      · rw [List.getElem?_append_right (by rw [h3]; omega), h3, show (i + 1) * 2 + 1 - 2 = i * 2 + 1 by omega]; exact this.2
theorem info_pr : (Try.prog.info? 43).map (fun i => (i.zero, i.size, i.bytes)) = some (some (.agg #[.int .u64 0, .int .u64 0]), 2, 16) := by kernel_rfl
theorem run_append_pr {w : World} {B : Nat} {v : Value} {L : List Itm} (h : w.ownsRow B 43 2 v L.length (flatP L)) (hs : L.length < 1073741824) (x : Itm) (q : Nat) (hq : w.heap[q]? = some (.cells #[.int .u64 x.d, .int .u64 x.w] 43 (0, 0))) (hB : B ≤ w.heap.size) (ty : TypeId) :
    ∃ v' w', (Builtin.append_ #[40, 40] ty #[v, .slice (some ⟨q, 0, none⟩) 1 1]).run Try.prog w = .ok v' w' ∧ w'.ownsRow B 43 2 v' (L.length + 1) (flatP (L ++ [x])) ∧ w.grownBy w' v.ownBlock := by
  obtain ⟨i0, hi0, hz0, hz1, hz2⟩ := info_parts info_pr
  have hsrc : ∀ j u, x.ps[j]? = some u → w.cell? ((⟨q, 0, none⟩ : Addr).add j) = some u := fun j u hu => by
    rw [add0, cell_of_row w q j _ _ (0, 0) hq]
    simpa [Itm.ps] using hu
  have h1 : ∀ u ∈ x.ps, u.oneCell' = true := by intro u hu; simp [Itm.ps] at hu; rcases hu with rfl | rfl <;> rfl
  have hm : L.length + 1 ≤ maxLen := by unfold maxLen; omega
  have hfl : flatP (L ++ [x]) = flatP L ++ x.ps := by rw [flatP_append]; rfl
  obtain ⟨v', w', hr, h2, h3, h4⟩ := run_append_own (P := Try.prog) w B 40 ty 43 i0 _ 2 16 Try.underlying40 hi0 hz0 hz1 hz2 rfl (by decide) v L.length (flatP L) h ⟨q, 0, none⟩ 1 1 x.ps rfl hsrc h1 hm (by omega) hB
  exact ⟨v', w', hr, by rw [hfl]; exact h2, h3⟩

/-- The function that collects: what it has, how many it wants; n₀ blocks lay there ahead. -/
structure Coll (w : World) (Bl Bm : Nat) (most : Int) (pre : List Itm) (W : World) : Prop where
  ex : ∃ u, Boxed W Bl 40 u ∧ W.ownsRow w.heap.size 43 2 u pre.length (flatP pre) ∧ some Bm ≠ u.ownBlock
  m : Boxed W Bm 3 (.int .i64 most)
  bel : Below w.heap.size w W
theorem Coll.keep {w W W' : World} {Bl Bm : Nat} {most : Int} {pre : List Itm} (h : Coll w Bl Bm most pre W) (hb : Below W.heap.size W W') : Coll w Bl Bm most pre W' := by
  obtain ⟨⟨u, h1, h2, h3⟩, h4, h5⟩ := h
  exact ⟨⟨u, boxed_of h1 (Only.of_below (F := []) hb) (by simp), ownsRow_only h2 (Only.of_below (F := []) hb) (fun _ _ => by simp), h3⟩, boxed_of h4 (Only.of_below (F := []) hb) (by simp), h5.trans (hb.mono h5.size)⟩

set_option maxHeartbeats 2000000 in
set_option maxRecDepth 100000 in
theorem coll_any {w W : World} {Bl Bm : Nat} {most : Int} {pre : List Itm} (h : Coll w Bl Bm most pre W) (hne : Bl ≠ Bm) (hB : w.heap.size ≤ Bl) (hs : pre.length < 1073741823) (x : Itm) (bb : Bool) (hbb : bb = decide (((pre.length + 1 : Nat) : Int) < most)) :
    Calls Try.prog 25 #[.int .u64 x.d, .int .u64 x.w, .pointer (some ⟨Bl, 0, none⟩), .pointer (some ⟨Bm, 0, none⟩)] W fun e W' => e = .returned (.bool bb) ∧ Coll w Bl Bm most (pre ++ [x]) W' ∧ ∀ g cap C, IRow W g cap C → IRow W' g cap C := by
  obtain ⟨⟨u, h1, h2, h3⟩, h4, h5⟩ := h
  have h6 := h5.size
  obtain ⟨u', W2, hr, how2, hg2⟩ := run_append_pr (w := W.alloc (.cells #[.int .u64 x.d, .int .u64 x.w] 43)) (h2.alloc _) (by omega) x W.heap.size (World.alloc_heap_new W _) (by simp; omega) 40
  obtain ⟨a1, a2, a3, a4, a5⟩ := Boxed.appended h1 (by decide) h2 h6 hB how2 hg2
  have b1 : Boxed W2 Bm 3 (.int .i64 most) := (h4.alloc _).kept hg2 h3
  have b2 : Boxed (W2.setCell ⟨Bl, 0, none⟩ u') Bm 3 (.int .i64 most) := boxed_of b1 ((Only.refl [Bl] W2).setCell (p := ⟨Bl, 0, none⟩) (Or.inl (by simp)) _) (by simp; exact fun e => hne e.symm)
  have KR : ∀ g cap C, IRow W g cap C → IRow (W2.setCell ⟨Bl, 0, none⟩ u') g cap C := fun g cap C hi => by
    have hgl := hi.lt
    have hi2 := hi
    obtain ⟨cur, hh, _⟩ := hi2
    refine hi.block ?_
    rw [Below.heap_setCell _ _ _ _ (fun e => by
      have e : g = Bl := e
      subst e; have h9 : W.heap[g]? = _ := h1; rw [h9] at hh; cases hh)]
    refine (hg2.block g (by simp; omega) (fun e => ?_)).trans (Below.heap_alloc _ _ _ hgl)
    rcases h2.2 with ⟨rfl, _⟩ | ⟨g9, cap9, cur9, rfl, _, hgg, _⟩
    · cases e
    · have e : g = g9 := by simpa [Value.ownBlock] using e
      subst e; rw [hgg] at hh; cases hh
  have FIN := Lib.hid (show Coll w Bl Bm most (pre ++ [x]) (W2.setCell ⟨Bl, 0, none⟩ u') ∧ ∀ g cap C, IRow W g cap C → IRow (W2.setCell ⟨Bl, 0, none⟩ u') g cap C from
    ⟨⟨⟨u', a2, by rw [List.length_append]; exact a3, b2.not_row (by decide) a3⟩, b2, h5.trans a5⟩, KR⟩)
  have cl := h1.cell
  have cl1 := a1.cell
  have fl1 := a1.frozen
  have cm1 := b2.cell
  have cm0 := h4.cell
  have hbl := h1.lt
  have hbm := h4.lt
  obtain ⟨g1, cap1, rfl⟩ := ownsRow_succ how2
  have HRUN := Lib.hid hr
  obtain ⟨k, hk⟩ : ∃ k, k = pre.length := ⟨_, rfl⟩
  have hk2 : k < 1073741823 := by omega
  rw [← hk] at HRUN FIN cm1 hbb
  have hb2 : (decide ((k : Int) + 1 < most)) = bb := by rw [hbb]; simp
  obtain ⟨p, m, c, rfl⟩ : ∃ p m c, u = .slice p m c := by
    rcases h2.2 with ⟨rfl, e⟩ | ⟨g, cap, cur, rfl, _⟩
    · exact ⟨none, 0, 0, rfl⟩
    · exact ⟨_, _, _, rfl⟩
  clear h1 h2 h3 h4 h5 h6 hr how2 hg2 a1 a2 a3 a4 a5 b1 b2 hk hbb KR
  obtain ⟨x0, x1, x2⟩ := x
  dsimp only at HRUN FIN
  go_enter Try.func25, Try.ntmps25
  go_wp2_with (at_builtin; refine Lib.wpList_append_run _ rfl _ _ 40 40 rfl _ _ rfl rfl _ _ HRUN.out ?_)
  go_ret
  exact ⟨rfl, FIN.out⟩
end Go.Proofs.Ytgkmihlnmhegfaa
