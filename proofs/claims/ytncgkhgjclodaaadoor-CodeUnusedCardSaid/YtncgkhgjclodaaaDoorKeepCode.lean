/- The statements' help CopyCode (layer 4): the same instructions, in memory of their own. The conditions: they lie there, and fit the reach of memory. -/
import Derived.Test.YtncgkhgjclodaaaDoorInsIn
import Derived.Test.YtncgkhgjclodaaaDoorKeepIn
import Derived.Deep.Upon
import Derived.Deep.AppendSrc
import Derived.Lib.AppendZeros
import Derived.Deep.CutRange
import Derived.Deep.DeepCutAuto
import Derived.Deep.CutBlock
import Derived.BigQuiet
namespace Go.Proofs.YtncgkhgjclodaaaDoor
open Go.RowKit
set_option linter.unusedVariables false

/-- An instruction's cells. -/
def Inst.vs (x : Inst) : List Value := [.int .i64 x.op, .int .i64 x.a, .int .i64 x.b, .int .i64 x.c, .int .u64 x.v, .int .i64 x.m, .int .i64 x.wh]
def flatIns (l : List Inst) : List Value := l.flatMap Inst.vs
theorem flatIns_length (l : List Inst) : (flatIns l).length = l.length * 7 := by
  induction l with
  | nil => rfl
  | cons x l ih => rw [flatIns, List.flatMap_cons, List.length_append, ← flatIns, ih, List.length_cons, show x.vs.length = 7 from rfl]; omega
theorem flatIns_get : ∀ (l : List Inst) (i k : Nat), i < l.length → k < 7 → (flatIns l)[i * 7 + k]? = (l.getD i inst0).vs[k]?
  | [], i, k, h, _ => by simp at h
  | x :: l, 0, k, _, hk => by
    rw [flatIns, List.flatMap_cons, List.getElem?_append_left (by show 0 * 7 + k < 7; omega)]; simp
  | x :: l, i + 1, k, h, hk => by
    rw [flatIns, List.flatMap_cons, List.getElem?_append_right (by show 7 ≤ _; omega), ← flatIns, show (i + 1) * 7 + k - x.vs.length = i * 7 + k by show (i + 1) * 7 + k - 7 = _; omega, flatIns_get l i k (by simpa using h) hk]; simp
theorem flatIns_one (l : List Inst) : ∀ u ∈ flatIns l, u.oneCell' = true := by
  intro u hu
  simp only [flatIns, List.mem_flatMap] at hu
  obtain ⟨x, _, hx⟩ := hu
  simp [Inst.vs] at hx
  rcases hx with rfl | rfl | rfl | rfl | rfl | rfl | rfl <;> rfl
/-- The cells behind a slice of instructions, one after another. -/
theorem InsIn.news {W : World} {p : Addr} {l : List Inst} (h : InsIn W (some p) l) : ∀ j u, (flatIns l)[j]? = some u → W.cell? (p.add j) = some u := by
  intro j u hu
  have hj : j < l.length * 7 := by rw [← flatIns_length]; exact (List.getElem?_eq_some_iff.1 hu).1
  have hi : j / 7 < l.length := by omega
  have hk : j % 7 < 7 := by omega
  have hjk : j = j / 7 * 7 + j % 7 := by omega
  rw [hjk, flatIns_get l _ _ hi hk] at hu
  obtain ⟨p', e, _, c0, c1, c2, c3, c4, c5, c6⟩ := h (j / 7) hi
  obtain rfl : p = p' := Option.some.inj e
  have ad : ∀ k, 0 < k → p.add (j / 7 * 7 + k) = ⟨(p.add (j / 7 * 7)).block, (p.add (j / 7 * 7)).off + k, none⟩ := fun k hk => by rw [← Go.Deep.add_add, add_pos _ _ hk]
  rw [hjk]
  generalize j % 7 = k at hu hk
  match k, hk with
  | 0, _ => rw [Nat.add_zero, c0]; exact hu
  | 1, _ => rw [ad 1 (by omega), c1]; exact hu
  | 2, _ => rw [ad 2 (by omega), c2]; exact hu
  | 3, _ => rw [ad 3 (by omega), c3]; exact hu
  | 4, _ => rw [ad 4 (by omega), c4]; exact hu
  | 5, _ => rw [ad 5 (by omega), c5]; exact hu
  | 6, _ => rw [ad 6 (by omega), c6]; exact hu
/-- A block whose first cells are the instructions'. -/
theorem insIn_of_block {W : World} {g : Nat} {l : List Inst} (hg : g < W.heap.size) (h : ∀ j u, (flatIns l)[j]? = some u → W.cell? ⟨g, j, none⟩ = some u) : InsIn W (some ⟨g, 0, none⟩) l := fun i hi => by
  have k : ∀ k u, k < 7 → (l.getD i inst0).vs[k]? = some u → W.cell? ⟨g, i * 7 + k, none⟩ = some u := fun k u hk hu => h _ _ (by rw [flatIns_get l i k hi hk]; exact hu)
  have e0 : (⟨g, 0, none⟩ : Addr).add (i * 7) = ⟨g, i * 7, none⟩ := by
    unfold Addr.add; split
    · rename_i h0; rw [h0]
    · simp
  exact ⟨_, rfl, hg, by rw [e0]; exact k 0 _ (by omega) rfl, by rw [e0]; exact k 1 _ (by omega) rfl, by rw [e0]; exact k 2 _ (by omega) rfl, by rw [e0]; exact k 3 _ (by omega) rfl, by rw [e0]; exact k 4 _ (by omega) rfl, by rw [e0]; exact k 5 _ (by omega) rfl, by rw [e0]; exact k 6 _ (by omega) rfl⟩

theorem info_ins : (Tryd.prog.info? 55).map (fun i => (i.zero, i.size, i.bytes)) = some (some (.agg #[.int .i64 0, .int .i64 0, .int .i64 0, .int .i64 0, .int .u64 0, .int .i64 0, .int .i64 0]), 7, 56) := by kernel_rfl

/-- append([]api.Ins(nil), l...): the same instructions. -/
theorem run_copyIns (A : Option Addr) (cap : Nat) (l : List Inst) (W : World) (hI : InsIn W A l) (hl : l.length * 56 ≤ 140737488355328) (ty : TypeId) :
    ∃ B c W1, (Builtin.append_ #[22, 22] ty #[.slice none 0 0, .slice A l.length cap]).run Tryd.prog W = .ok (.slice B l.length c) W1 ∧ InsIn W1 B l ∧ Below W.heap.size W W1 ∧ (∀ q, B = some q → W.heap.size ≤ q.block) := by
  obtain ⟨i0, hi0, hz0, hz1, hz2⟩ := info_parts info_ins
  by_cases h0 : l.length = 0
  · obtain rfl : l = [] := List.length_eq_zero_iff.1 h0
    have hs : ∃ A', A = A' ∧ Src Tryd.prog i0.size 22 (.slice A 0 cap) 0 [] W := by
      cases A with
      | none => exact ⟨none, rfl, Src.ofNil W Tryd.underlying22 cap⟩
      | some a => exact ⟨some a, rfl, Src.ofSlice W Tryd.underlying22 a 0 cap [] (by simp) (fun _ _ h => by simp at h) (fun _ h => by cases h)⟩
    obtain ⟨_, _, hs⟩ := hs
    have hr := run_append_nothing W 22 22 ty _ i0 Tryd.underlying22 hi0 none 0 0 (Nat.le_refl _) (.slice A 0 cap) hs
    exact ⟨none, 0, W, hr, fun i hi => by simp at hi, Below.refl _ _, fun q h => by cases h⟩
  · obtain ⟨p, rfl, _⟩ : ∃ p, A = some p ∧ True := by
      obtain ⟨p, e, _⟩ := hI 0 (by omega)
      exact ⟨p, e, trivial⟩
    have hr := run_append_grow_src W 22 22 ty _ i0 _ Tryd.underlying22 hi0 hz0 none 0 0 [] (run_firstCells_none W.drew i0.size 0 0 0) (.slice (some p) l.length cap) l.length (flatIns l)
      (Src.ofSlice W Tryd.underlying22 p l.length cap (flatIns l) (by rw [hz1, flatIns_length]) hI.news (flatIns_one l)) (by omega) (by omega) (by rw [hz2]; exact growslice_fits (by omega) (by omega))
    simp only [Nat.zero_add] at hr
    refine ⟨_, _, _, hr, insIn_of_block (by simp) (fun j u hu => ?_), (Below.refl _ _).drew.alloc (Nat.le_refl _) _, fun q h => by cases h; exact Nat.le_refl _⟩
    rw [cell_of_row _ W.heap.size j _ _ (0, 0) (heap_alloc_new W.drew _), Array.getElem?_append_left (by simpa using (List.getElem?_eq_some_iff.1 hu).1)]
    simpa using hu

/-- The same instructions, in memory of their own. -/
theorem copyCode_any (A : Option Addr) (cap : Nat) (l : List Inst) (w : World) (hI : InsIn w A l) (hl : l.length * 56 ≤ 140737488355328) :
    Calls Tryd.prog 11 #[.slice A l.length cap] w fun e w' => ∃ B c, e = .returned (.slice B l.length c) ∧ InsIn w' B l ∧ Below w.heap.size w w' ∧ (∀ q, B = some q → w.heap.size ≤ q.block) := by
  have HI := Lib.hid hI
  obtain ⟨N, hN⟩ : ∃ N, N = l.length := ⟨_, rfl⟩
  obtain ⟨B, c, W1, hr, hI1, hb1, hfr⟩ := run_copyIns A cap l w hI hl 22
  have HR := Lib.hid hr
  rw [← hN] at HR ⊢
  have FIN := Lib.hid (show ∃ B' c', Ending.returned (.slice B N c) = Ending.returned (.slice B' N c') ∧ InsIn W1 B' l ∧ Below w.heap.size w W1 ∧ (∀ q, B' = some q → w.heap.size ≤ q.block) from ⟨_, _, rfl, hI1, hb1, hfr⟩)
  clear hI hl hN hr hI1 hb1 hfr
  go_enter Tryd.func11, Tryd.ntmps11
  go_wp2_with (at_builtin; refine Lib.wpList_append_run _ rfl _ _ 22 22 rfl _ _ rfl rfl _ _ HR.out ?_)
  go_ret
  exact FIN.out

theorem InsIn.of_block {W W' : World} {A : Option Addr} {l : List Inst} (h : InsIn W A l) (hb : ∀ p, A = some p → p.block < W.heap.size → W'.heap[p.block]? = W.heap[p.block]?) : InsIn W' A l := fun i hi => by
  obtain ⟨p, e, hp, c0, c1, c2, c3, c4, c5, c6⟩ := h i hi
  have hh := hb p e hp
  have hlt : p.block < W'.heap.size := by
    rw [Array.getElem?_eq_getElem hp] at hh
    exact (Array.getElem?_eq_some_iff.1 hh).1
  have k : ∀ (a : Addr) (u : Value), a.block = p.block → W.cell? a = some u → W'.cell? a = some u := fun a u ha hc =>
    (World.cell?_of_block (w := W) (w' := W') (a := a) (by rw [ha]; exact hh)).trans hc
  have hq : (p.add (i * 7)).block = p.block := ChangeShapes.block_add _ _
  exact ⟨p, e, hlt, k _ _ hq c0, k _ _ hq c1, k _ _ hq c2, k _ _ hq c3, k _ _ hq c4, k _ _ hq c5, k _ _ hq c6⟩
theorem heap_set {w : World} {g i : Nat} {cs : Array Value} {t : TypeId} (u : Value) (h : w.heap[g]? = some (.cells cs t)) : (w.setCell ⟨g, i, none⟩ u).heap[g]? = some (.cells (cs.set! i u) t) := by
  have hl : g < w.heap.size := (Array.getElem?_eq_some_iff.1 h).1
  have hg : w.heap[g] = .cells cs t := (Array.getElem?_eq_some_iff.1 h).2
  simp [World.setCell, Array.getElem?_modify, h]

set_option maxHeartbeats 1000000 in
/-- A program, its instructions in memory of their own. -/
theorem copyProg_any (A : Option Addr) (cap : Nat) (l : List Inst) (en wi na : Int) (w : World) (hI : InsIn w A l) (hl : l.length * 56 ≤ 140737488355328) :
    Calls Tryd.prog 17 #[.agg #[.slice A l.length cap, .int .i64 en, .int .i64 wi, .int .i64 na]] w fun e w' => ∃ B c, e = .returned (.agg #[.slice B l.length c, .int .i64 en, .int .i64 wi, .int .i64 na]) ∧ InsIn w' B l ∧ Below w.heap.size w w' := by
  have hbx : Below w.heap.size w (w.alloc (.cells #[.slice A l.length cap, .int .i64 en, .int .i64 wi, .int .i64 na] 34)) := (Below.refl _ _).alloc (Nat.le_refl _) _
  obtain ⟨w1, hw1⟩ : ∃ w1, w1 = w.alloc (.cells #[.slice A l.length cap, .int .i64 en, .int .i64 wi, .int .i64 na] 34) := ⟨_, rfl⟩
  have hby : Below w.heap.size w (w1.alloc (.cells #[.slice none 0 0, .int .i64 0, .int .i64 0, .int .i64 0] 34)) := by rw [hw1]; exact hbx.alloc hbx.size _
  have CC := Lib.hid (copyCode_any A cap l _ (hI.below hby) hl)
  have rx : Row (w1.alloc (.cells #[.slice none 0 0, .int .i64 0, .int .i64 0, .int .i64 0] 34)) w.heap.size [.slice A l.length cap, .int .i64 en, .int .i64 wi, .int .i64 na] := by
    rw [hw1]; exact (Row.new w [.slice A l.length cap, .int .i64 en, .int .i64 wi, .int .i64 na] 34).alloc _
  have ry : Row (w1.alloc (.cells #[.slice none 0 0, .int .i64 0, .int .i64 0, .int .i64 0] 34)) (w.heap.size + 1) [.slice none 0 0, .int .i64 0, .int .i64 0, .int .i64 0] := by
    have h := Row.new w1 [.slice none 0 0, .int .i64 0, .int .i64 0, .int .i64 0] 34
    rw [show w1.heap.size = w.heap.size + 1 by rw [hw1]; simp] at h
    exact h
  rw [hw1] at CC rx ry hby
  obtain ⟨N, hN⟩ : ∃ N, N = l.length := ⟨_, rfl⟩
  rw [← hN] at CC rx ry hby ⊢
  have HBX := Lib.hid hby
  have RX := Lib.hid rx
  have RY := Lib.hid ry
  clear hw1 hbx hby ry
  clear hN hI hl rx
  go_enter Tryd.func17, Tryd.ntmps17
  go_wp2_with fail
  go_at_call 11
  refine CC.out.mono ?_
  rintro e w1 ⟨B, c, rfl, hI1, hb1, hfr⟩
  have HI1 := Lib.hid hI1
  have HFR := Lib.hid hfr
  have r1 := RX.out.below hb1 (by simp; omega)
  have ry := RY.out.below hb1 (by simp)
  have R1 := Lib.hid r1
  have S1 := Lib.hid ry
  have BL := Lib.hid (HBX.out.trans (hb1.mono HBX.out.size))
  have x0 := r1.cell 0 (by simp)
  have x1 := r1.cell 1 (by simp)
  have x2 := r1.cell 2 (by simp)
  have x3 := r1.cell 3 (by simp)
  simp only [List.getElem_cons_zero, List.getElem_cons_succ] at x0 x1 x2 x3
  have y0 := ry.cell 0 (by simp)
  have y1 := ry.cell 1 (by simp)
  have y2 := ry.cell 2 (by simp)
  have y3 := ry.cell 3 (by simp)
  simp only [List.getElem_cons_zero, List.getElem_cons_succ] at y0 y1 y2 y3
  have fx0 := r1.free 0 (by simp)
  have fy0 := ry.free 0 (by simp)
  have fy1 := ry.free 1 (by simp)
  have fy2 := ry.free 2 (by simp)
  have fy3 := ry.free 3 (by simp)
  have hY : w1.heap[w.heap.size + 1]? = some (.cells #[.slice none 0 0, .int .i64 0, .int .i64 0, .int .i64 0] 34) := by
    rw [hb1.block _ (by simp)]; exact heap_alloc2_new w _ _
  have HY := Lib.hid hY
  clear r1 ry hb1 hI1 hY hfr
  go_wp2_with fail
  have hb2 : ∀ u0 u1 u2 u3 u4 : Value, Below w.heap.size w (((((w1.setCell ⟨w.heap.size, 0, none⟩ u0).setCell ⟨w.heap.size + 1, 0, none⟩ u1).setCell ⟨w.heap.size + 1, 1, none⟩ u2).setCell ⟨w.heap.size + 1, 2, none⟩ u3).setCell ⟨w.heap.size + 1, 3, none⟩ u4) := fun u0 u1 u2 u3 u4 =>
    ((((BL.out.setCell (Nat.le_refl _) u0).setCell (Nat.le_succ _) u1).setCell (Nat.le_succ _) u2).setCell (Nat.le_succ _) u3).setCell (Nat.le_succ _) u4
  refine bodyPost_ret (results_cell_row rfl _ _ (w.heap.size + 1) _ _ (0, 0) _ rfl (heap_set _ (heap_set _ (heap_set _ (heap_set _ ((Below.heap_setCell _ _ _ _ (by simp)).trans HY.out))))) Tryd.underlying34 rfl (by kernel_rfl)) rfl ?_
  refine ⟨B, c, by simp, HI1.out.of_block (fun q hq _ => ?_), hb2 _ _ _ _ _⟩
  have hf := HFR.out q hq
  simp only [World.size_alloc] at hf
  rw [Below.heap_setCell _ _ _ _ (by show q.block ≠ w.heap.size + 1; omega), Below.heap_setCell _ _ _ _ (by show q.block ≠ w.heap.size + 1; omega), Below.heap_setCell _ _ _ _ (by show q.block ≠ w.heap.size + 1; omega), Below.heap_setCell _ _ _ _ (by show q.block ≠ w.heap.size + 1; omega), Below.heap_setCell _ _ _ _ (by show q.block ≠ w.heap.size; omega)]

set_option maxHeartbeats 1000000 in
/-- The same instructions twice are the same. -/
theorem code_same (A B : Option Addr) (cap cap2 : Nat) (l : List Inst) (w : World) (hl : l.length < 4611686018427387904) (hA : InsIn w A l) (hB : InsIn w B l) :
    Calls Tryd.prog 15 #[.slice A l.length cap, .slice B l.length cap2] w fun e w' => e = .returned (.bool true) ∧ Below w.heap.size w w' := by
  obtain ⟨N, hN⟩ : ∃ N, N = l.length := ⟨_, rfl⟩
  have HA := Lib.hid hA
  have HB := Lib.hid hB
  have HN := Lib.hid hN
  rw [← hN] at hl ⊢
  clear hN hA hB
  go_enter Tryd.func15, Tryd.ntmps15
  go_wp2_with fail
  go_loopw [5] (fun vi wr => ∃ i : Nat, i ≤ N ∧ vi = .int .i64 i ∧ Hid (Below w.heap.size w wr)) (fun vi _ => N - (intOf vi).toNat)
  case atStart => exact ⟨0, by omega, rfl, Lib.hid (Below.refl _ _)⟩
  case round =>
    obtain ⟨i, hi, rfl, hbl⟩ := hrel
    by_cases hlt : i < N
    · obtain ⟨p, rfl, hp, c0, c1, c2, c3, c4, c5, c6⟩ := (HA.out.below hbl.out) i (by rw [← HN.out]; exact hlt)
      obtain ⟨p', rfl, hp', d0, d1, d2, d3, d4, d5, d6⟩ := (HB.out.below hbl.out) i (by rw [← HN.out]; exact hlt)
      generalize l.getD i inst0 = x at c0 c1 c2 c3 c4 c5 c6 d0 d1 d2 d3 d4 d5 d6
      have BD := Lib.hid (fun n => (⟨hbl.out.os, hbl.out.tape, hbl.out.output, hbl.out.size, hbl.out.block⟩ : Below w.heap.size w (wr.drewN n)))
      go_upto_region 6 with fail
      go_quiet (fail)
      go_wp2_with fail
      go_roundw
      case rel => exact ⟨i + 1, by omega, by go_num, Lib.hid (BD.out _)⟩
      case measure => simp [intOf]; omega
    · have FIN := Lib.hid hbl.out
      go_wp2_with fail
      go_ret
      exact ⟨rfl, FIN.out⟩
end Go.Proofs.YtncgkhgjclodaaaDoor
