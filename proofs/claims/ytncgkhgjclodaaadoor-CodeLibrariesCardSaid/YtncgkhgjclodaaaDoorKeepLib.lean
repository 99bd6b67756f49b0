/- The statements' help CopyLib (layer 4): the same library, its instructions and rows in memory of their own. The conditions: they lie there, and fit the reach of memory. -/
import Derived.Test.YtncgkhgjclodaaaDoorLibIn
import Derived.Test.YtncgkhgjclodaaaDoorKeepCode
namespace Go.Proofs.YtncgkhgjclodaaaDoor
open Go.RowKit
set_option linter.unusedVariables false

/-- A row's cells. -/
def CallRow.vs (x : CallRow) : List Value := [.int .i64 x.num, .int .i64 x.pl, .int .i64 x.k0, .int .i64 x.k1, .int .i64 x.k2, .int .i64 x.k3]
def flatCalls (l : List CallRow) : List Value := l.flatMap CallRow.vs
theorem flatCalls_length (l : List CallRow) : (flatCalls l).length = l.length * 6 := by
  induction l with
  | nil => rfl
  | cons x l ih => rw [flatCalls, List.flatMap_cons, List.length_append, ← flatCalls, ih, List.length_cons, show x.vs.length = 6 from rfl]; omega
theorem flatCalls_get : ∀ (l : List CallRow) (i k : Nat), i < l.length → k < 6 → (flatCalls l)[i * 6 + k]? = (l.getD i callRow0).vs[k]?
  | [], i, k, h, _ => by simp at h
  | x :: l, 0, k, _, hk => by
    rw [flatCalls, List.flatMap_cons, List.getElem?_append_left (by show 0 * 6 + k < 6; omega)]; simp
  | x :: l, i + 1, k, h, hk => by
    rw [flatCalls, List.flatMap_cons, List.getElem?_append_right (by show 6 ≤ _; omega), ← flatCalls, show (i + 1) * 6 + k - x.vs.length = i * 6 + k by show (i + 1) * 6 + k - 6 = _; omega, flatCalls_get l i k (by simpa using h) hk]; simp
theorem flatCalls_one (l : List CallRow) : ∀ u ∈ flatCalls l, u.oneCell' = true := by
  intro u hu
  simp only [flatCalls, List.mem_flatMap] at hu
  obtain ⟨x, _, hx⟩ := hu
  simp [CallRow.vs] at hx
  rcases hx with rfl | rfl | rfl | rfl | rfl | rfl <;> rfl
/-- The cells behind a slice of rows, one after another. -/
theorem CallsIn.news {W : World} {p : Addr} {l : List CallRow} (h : CallsIn W (some p) l) : ∀ j u, (flatCalls l)[j]? = some u → W.cell? (p.add j) = some u := by
  intro j u hu
  have hj : j < l.length * 6 := by rw [← flatCalls_length]; exact (List.getElem?_eq_some_iff.1 hu).1
  have hi : j / 6 < l.length := by omega
  have hk : j % 6 < 6 := by omega
  have hjk : j = j / 6 * 6 + j % 6 := by omega
  rw [hjk, flatCalls_get l _ _ hi hk] at hu
  obtain ⟨p', e, _, c0, c1, c2, c3, c4, c5⟩ := h (j / 6) hi
  obtain rfl : p = p' := Option.some.inj e
  have ad : ∀ k, 0 < k → p.add (j / 6 * 6 + k) = ⟨(p.add (j / 6 * 6)).block, (p.add (j / 6 * 6)).off + k, none⟩ := fun k hk => by rw [← Go.Deep.add_add, add_pos _ _ hk]
  rw [hjk]
  generalize j % 6 = k at hu hk
  match k, hk with
  | 0, _ => rw [Nat.add_zero, c0]; exact hu
  | 1, _ => rw [ad 1 (by omega), c1]; exact hu
  | 2, _ => rw [ad 2 (by omega), c2]; exact hu
  | 3, _ => rw [ad 3 (by omega), c3]; exact hu
  | 4, _ => rw [ad 4 (by omega), c4]; exact hu
  | 5, _ => rw [ad 5 (by omega), c5]; exact hu
/-- A block whose first cells are the rows'. -/
theorem callsIn_of_block {W : World} {g : Nat} {l : List CallRow} (hg : g < W.heap.size) (h : ∀ j u, (flatCalls l)[j]? = some u → W.cell? ⟨g, j, none⟩ = some u) : CallsIn W (some ⟨g, 0, none⟩) l := fun i hi => by
  have k : ∀ k u, k < 6 → (l.getD i callRow0).vs[k]? = some u → W.cell? ⟨g, i * 6 + k, none⟩ = some u := fun k u hk hu => h _ _ (by rw [flatCalls_get l i k hi hk]; exact hu)
  have e0 : (⟨g, 0, none⟩ : Addr).add (i * 6) = ⟨g, i * 6, none⟩ := by
    unfold Addr.add; split
    · rename_i h0; rw [h0]
    · simp
  exact ⟨_, rfl, hg, by rw [e0]; exact k 0 _ (by omega) rfl, by rw [e0]; exact k 1 _ (by omega) rfl, by rw [e0]; exact k 2 _ (by omega) rfl, by rw [e0]; exact k 3 _ (by omega) rfl, by rw [e0]; exact k 4 _ (by omega) rfl, by rw [e0]; exact k 5 _ (by omega) rfl⟩

theorem info_row : (Tryd.prog.info? 76).map (fun i => (i.zero, i.size, i.bytes)) = some (some (.agg #[.int .i64 0, .int .i64 0, .int .i64 0, .int .i64 0, .int .i64 0, .int .i64 0]), 6, 48) := by kernel_rfl

/-- append([]api.Row(nil), l...): the same rows. -/
theorem run_copyCalls (A : Option Addr) (cap : Nat) (l : List CallRow) (W : World) (hI : CallsIn W A l) (hl : l.length * 48 ≤ 140737488355328) (ty : TypeId) :
    ∃ B c W1, (Builtin.append_ #[39, 39] ty #[.slice none 0 0, .slice A l.length cap]).run Tryd.prog W = .ok (.slice B l.length c) W1 ∧ CallsIn W1 B l ∧ Below W.heap.size W W1 ∧ (∀ q, B = some q → W.heap.size ≤ q.block) ∧ l.length ≤ c := by
  obtain ⟨i0, hi0, hz0, hz1, hz2⟩ := info_parts info_row
  by_cases h0 : l.length = 0
  · obtain rfl : l = [] := List.length_eq_zero_iff.1 h0
    have hs : ∃ A', A = A' ∧ Src Tryd.prog i0.size 39 (.slice A 0 cap) 0 [] W := by
      cases A with
      | none => exact ⟨none, rfl, Src.ofNil W Tryd.underlying39 cap⟩
      | some a => exact ⟨some a, rfl, Src.ofSlice W Tryd.underlying39 a 0 cap [] (by simp) (fun _ _ h => by simp at h) (fun _ h => by cases h)⟩
    obtain ⟨_, _, hs⟩ := hs
    have hr := run_append_nothing W 39 39 ty _ i0 Tryd.underlying39 hi0 none 0 0 (Nat.le_refl _) (.slice A 0 cap) hs
    exact ⟨none, 0, W, hr, fun i hi => by simp at hi, Below.refl _ _, (fun q h => by cases h), Nat.le_refl _⟩
  · obtain ⟨p, rfl, _⟩ : ∃ p, A = some p ∧ True := by
      obtain ⟨p, e, _⟩ := hI 0 (by omega)
      exact ⟨p, e, trivial⟩
    have hr := run_append_grow_src W 39 39 ty _ i0 _ Tryd.underlying39 hi0 hz0 none 0 0 [] (run_firstCells_none W.drew i0.size 0 0 0) (.slice (some p) l.length cap) l.length (flatCalls l)
      (Src.ofSlice W Tryd.underlying39 p l.length cap (flatCalls l) (by rw [hz1, flatCalls_length]) hI.news (flatCalls_one l)) (by omega) (by omega) (by rw [hz2]; exact growslice_fits (by omega) (by omega))
    simp only [Nat.zero_add] at hr
    refine ⟨_, _, _, hr, callsIn_of_block (by simp) (fun j u hu => ?_), (Below.refl _ _).drew.alloc (Nat.le_refl _) _, (fun q h => by cases h; exact Nat.le_refl _), grownCap_ge _ _ _ _⟩
    rw [cell_of_row _ W.heap.size j _ _ (0, 0) (heap_alloc_new W.drew _), Array.getElem?_append_left (by simpa using (List.getElem?_eq_some_iff.1 hu).1)]
    simpa using hu

theorem CallsIn.of_block {W W' : World} {A : Option Addr} {l : List CallRow} (h : CallsIn W A l) (hb : ∀ p, A = some p → p.block < W.heap.size → W'.heap[p.block]? = W.heap[p.block]?) : CallsIn W' A l := fun i hi => by
  obtain ⟨p, e, hp, c0, c1, c2, c3, c4, c5⟩ := h i hi
  have hh := hb p e hp
  have hlt : p.block < W'.heap.size := by
    rw [Array.getElem?_eq_getElem hp] at hh
    exact (Array.getElem?_eq_some_iff.1 hh).1
  have k : ∀ (a : Addr) (u : Value), a.block = p.block → W.cell? a = some u → W'.cell? a = some u := fun a u ha hc =>
    (World.cell?_of_block (w := W) (w' := W') (a := a) (by rw [ha]; exact hh)).trans hc
  have hq : (p.add (i * 6)).block = p.block := ChangeShapes.block_add _ _
  exact ⟨p, e, hlt, k _ _ hq c0, k _ _ hq c1, k _ _ hq c2, k _ _ hq c3, k _ _ hq c4, k _ _ hq c5⟩

set_option maxHeartbeats 2000000 in
/-- A library, its instructions and rows in memory of their own. -/
theorem copyLib_any (A : Option Addr) (cap : Nat) (l : List Inst) (lo : Int) (B : Option Addr) (capB : Nat) (r : List CallRow) (w : World) (hI : InsIn w A l) (hl : l.length * 56 ≤ 140737488355328) (hC : CallsIn w B r) (hr : r.length * 48 ≤ 140737488355328) :
    Calls Tryd.prog 21 #[.agg #[.slice A l.length cap, .int .i64 lo, .slice B r.length capB]] w fun e w' => ∃ A' c B' d, e = .returned (.agg #[.slice A' l.length c, .int .i64 lo, .slice B' r.length d]) ∧ InsIn w' A' l ∧ CallsIn w' B' r ∧ r.length ≤ d ∧ Below w.heap.size w w' := by
  obtain ⟨M, hM⟩ : ∃ M, M = r.length := ⟨_, rfl⟩
  obtain ⟨w1, hw1⟩ : ∃ w1, w1 = w.alloc (.cells #[.slice A l.length cap, .int .i64 lo, .slice B M capB] 41) := ⟨_, rfl⟩
  have hby : Below w.heap.size w (w1.alloc (.cells #[.slice none 0 0, .int .i64 0, .slice none 0 0] 41)) := by rw [hw1]; exact ((Below.refl _ _).alloc (Nat.le_refl _) _).alloc (by simp) _
  have CC := Lib.hid (copyCode_any A cap l _ (hI.below hby) hl)
  have rx : Row (w1.alloc (.cells #[.slice none 0 0, .int .i64 0, .slice none 0 0] 41)) w.heap.size [.slice A l.length cap, .int .i64 lo, .slice B M capB] := by
    rw [hw1]; exact (Row.new w [.slice A l.length cap, .int .i64 lo, .slice B M capB] 41).alloc _
  have ry : Row (w1.alloc (.cells #[.slice none 0 0, .int .i64 0, .slice none 0 0] 41)) (w.heap.size + 1) [.slice none 0 0, .int .i64 0, .slice none 0 0] := by
    have h := Row.new w1 [.slice none 0 0, .int .i64 0, .slice none 0 0] 41
    rw [show w1.heap.size = w.heap.size + 1 by rw [hw1]; simp] at h
    exact h
  rw [hw1] at CC rx ry hby
  obtain ⟨N, hN⟩ : ∃ N, N = l.length := ⟨_, rfl⟩
  rw [← hN] at CC rx ry hby ⊢
  rw [← hM]
  have HBX := Lib.hid hby
  have RX := Lib.hid rx
  have RY := Lib.hid ry
  have HC := Lib.hid hC
  have HM := Lib.hid hM
  have HRR := Lib.hid hr
  clear hw1 hby ry hN hI hl rx hC hr hM
  go_enter Tryd.func21, Tryd.ntmps21
  go_wp2_with fail
  go_at_call 11
  refine CC.out.mono ?_
  rintro e w1 ⟨A', c, rfl, hI1, hb1, hfr⟩
  have HI1 := Lib.hid hI1
  have HFR := Lib.hid hfr
  have r1 := RX.out.below hb1 (by simp; omega)
  have ry := RY.out.below hb1 (by simp)
  have R1 := Lib.hid r1
  have S1 := Lib.hid ry
  have BL := Lib.hid (HBX.out.trans (hb1.mono HBX.out.size))
  have x0 := r1.cell 0 (by simp)
  have x2 := r1.cell 2 (by simp)
  simp only [List.getElem_cons_zero, List.getElem_cons_succ] at x0 x2
  have fx0 := r1.free 0 (by simp)
  have hY : w1.heap[w.heap.size + 1]? = some (.cells #[.slice none 0 0, .int .i64 0, .slice none 0 0] 41) := by
    rw [hb1.block _ (by simp)]; exact heap_alloc2_new w _ _
  have HY := Lib.hid hY
  have hb2 : ∀ u, Below w.heap.size w (w1.setCell ⟨w.heap.size, 0, none⟩ u) := fun u => BL.out.setCell (Nat.le_refl _) u
  obtain ⟨B', d, W2, hr2, hC2, hb3, hfr2, hcd⟩ := run_copyCalls B capB r (w1.setCell ⟨w.heap.size, 0, none⟩ (.slice A' N c)) (HC.out.below (hb2 _)) HRR.out 39
  rw [← HM.out] at hr2 hcd
  have HCD := Lib.hid hcd
  clear hcd
  have HR2 := Lib.hid hr2
  have sx := (r1.set 0 (by simp) (.slice A' N c)).below hb3 (by simp [World.setCell]; exact R1.out.lt)
  have hsz : (w1.setCell ⟨w.heap.size, 0, none⟩ (.slice A' N c)).heap.size = w1.heap.size := by simp [World.setCell]
  have sy := (S1.out.other ⟨w.heap.size, 0, none⟩ (by simp) (.slice A' N c)).below hb3 (by rw [hsz]; exact S1.out.lt)
  have hY2 : W2.heap[w.heap.size + 1]? = some (.cells #[.slice none 0 0, .int .i64 0, .slice none 0 0] 41) := by
    rw [hb3.block _ (by rw [hsz]; exact S1.out.lt), Below.heap_setCell _ _ _ _ (by simp)]; exact HY.out
  have HY2 := Lib.hid hY2
  have z0 := sx.cell 0 (by simp)
  have z1 := sx.cell 1 (by simp)
  have z2 := sx.cell 2 (by simp)
  simp only [List.set_cons_zero, List.getElem_cons_zero, List.getElem_cons_succ] at z0 z1 z2
  have fz2 := sx.free 2 (by simp)
  have q0 := sy.cell 0 (by simp)
  have q1 := sy.cell 1 (by simp)
  have q2 := sy.cell 2 (by simp)
  simp only [List.getElem_cons_zero, List.getElem_cons_succ] at q0 q1 q2
  have fq0 := sy.free 0 (by simp)
  have fq1 := sy.free 1 (by simp)
  have fq2 := sy.free 2 (by simp)
  have BL2 := Lib.hid ((hb2 _).trans (hb3.mono (hb2 (.slice A' N c)).size))
  -- the two slices lie behind the boxes
  have hA2 : InsIn W2 A' l := HI1.out.of_block (fun q hq h2 => by
    have h1 := HFR.out q hq
    simp only [World.size_alloc] at h1
    rw [hb3.block _ (by rw [hsz]; exact h2), Below.heap_setCell _ _ _ _ (by show q.block ≠ w.heap.size; omega)])
  have hs1 : w.heap.size + 1 + 1 ≤ w1.heap.size := by have := hb1.size; simp at this; omega
  have HA2 := Lib.hid hA2
  have HC2 := Lib.hid hC2
  have HFR2 := Lib.hid (show ∀ q, B' = some q → w.heap.size + 1 + 1 ≤ q.block from fun q hq => by have := hfr2 q hq; rw [hsz] at this; omega)
  clear hA2 hC2 hfr2 hr2 hb3 hb2 hsz sx sy hY2 hY hs1 hfr hI1 hb1 r1 ry
  go_wp2_with (at_builtin; refine Lib.wpList_append_run _ rfl _ _ 39 39 rfl _ _ rfl rfl _ _ HR2.out ?_)
  have hb4 : ∀ u1 u2 u3 u4 : Value, Below w.heap.size w ((((W2.setCell ⟨w.heap.size, 2, none⟩ u1).setCell ⟨w.heap.size + 1, 0, none⟩ u2).setCell ⟨w.heap.size + 1, 1, none⟩ u3).setCell ⟨w.heap.size + 1, 2, none⟩ u4) := fun u1 u2 u3 u4 =>
    (((BL2.out.setCell (Nat.le_refl _) u1).setCell (Nat.le_succ _) u2).setCell (Nat.le_succ _) u3).setCell (Nat.le_succ _) u4
  refine bodyPost_ret (results_cell_row rfl _ _ (w.heap.size + 1) _ _ (0, 0) _ rfl (heap_set _ (heap_set _ (heap_set _ ((Below.heap_setCell _ _ _ _ (by simp)).trans HY2.out)))) Tryd.underlying41 rfl (by kernel_rfl)) rfl ?_
  refine ⟨A', c, B', d, by simp, HA2.out.of_block (fun q hq _ => ?_), HC2.out.of_block (fun q hq _ => ?_), HCD.out, hb4 _ _ _ _⟩
  · have hf := HFR.out q hq
    simp only [World.size_alloc] at hf
    rw [Below.heap_setCell _ _ _ _ (by show q.block ≠ w.heap.size + 1; omega), Below.heap_setCell _ _ _ _ (by show q.block ≠ w.heap.size + 1; omega), Below.heap_setCell _ _ _ _ (by show q.block ≠ w.heap.size + 1; omega), Below.heap_setCell _ _ _ _ (by show q.block ≠ w.heap.size; omega)]
  · have hf := HFR2.out q hq
    rw [Below.heap_setCell _ _ _ _ (by show q.block ≠ w.heap.size + 1; omega), Below.heap_setCell _ _ _ _ (by show q.block ≠ w.heap.size + 1; omega), Below.heap_setCell _ _ _ _ (by show q.block ≠ w.heap.size + 1; omega), Below.heap_setCell _ _ _ _ (by show q.block ≠ w.heap.size; omega)]
end Go.Proofs.YtncgkhgjclodaaaDoor
