/- place (layer 7): an item is laid at an index, and its handle's place into the map. The conditions: the index is of the row, handles are the machine's numbers, the map has room. -/
import Derived.Test.YtobbmhboahognaaDoorHeapRow
namespace Go.Proofs.YtobbmhboahognaaDoor
open Go.RowKit
set_option linter.unusedVariables false

/-- What place leaves. -/
def PlacePost (b mb g cap c : Nat) (C : List Itm) (f : Int → Option Nat) (W : World) (e : Ending) (W' : World) : Prop := e = .returned (.tuple #[]) ∧ Core W' b mb g cap c C f ∧ Only [g, mb] W W'

set_option maxHeartbeats 2000000 in
set_option maxRecDepth 100000 in
theorem place_any {W : World} {b mb g cap c : Nat} {C : List Itm} {f : Int → Option Nat} (h : Core W b mb g cap c C f) (i : Nat) (hi : i < C.length) (hl : C.length < 2147483648) (x : Itm) (hx : (Lit.int .i64 x.h).wf = true) (hc : c < maxLen) :
    Calls Tryd.prog 99 #[.pointer (some ⟨b, 0, none⟩), .int .i64 i, .agg #[.int .u64 x.d, .int .u64 x.w, .int .i64 x.h]] W (PlacePost b mb g cap (c + 1) (C.set i x) (fput f x.h i) W) := by
  obtain ⟨n, hn⟩ : ∃ n, n = C.length := ⟨_, rfl⟩
  have c0 := h.c0
  have c1 := h.c1
  have hbl := h.lt
  have hgl := h.row.lt
  obtain ⟨q0, q1, q2⟩ := h.row.at3 i hi
  have r0 := h.row.free (i * 3)
  have r1 := h.row.free (i * 3 + 1)
  have r2 := h.row.free (i * 3 + 2)
  have hbg := h.bg
  rw [← hn] at c0 hi hl
  have H := Lib.hid h
  have HN := Lib.hid hn
  clear h hn
  go_enter Tryd.func99, Tryd.ntmps99
  go_wp2
  refine region_tail 7 (by kernel_rfl) (by kernel_rfl) ?_
  simp only [List.take_succ_cons, List.take_zero, List.drop_succ_cons, List.drop_zero]
  repeat still_step
  refine wpStill_nil ?_
  go_wp2_with fail
  have ho := setItm_only W g i x
  have hm := H.out.mg
  have hbm := H.out.bm
  have hpl := H.out.pos.lt
  have p0 : PosIs (setItm W g i x) mb c f := H.out.pos.block (ho.block mb hpl (by simpa using hm))
  have d0 : (setItm W g i x).cell? ⟨b, 0, none⟩ = some (.slice (some ⟨g, 0, none⟩) n cap) := by rw [World.cell?_of_block (w := W) (a := ⟨b, 0, none⟩) (ho.block b hbl (by simpa using hbg))]; exact c0
  have d1 : (setItm W g i x).cell? ⟨b, 1, none⟩ = some (.map (some mb)) := by rw [World.cell?_of_block (w := W) (a := ⟨b, 1, none⟩) (ho.block b hbl (by simpa using hbg))]; exact c1
  have row2 : IRow (setItm W g i x) g cap (C.set i x) := H.out.row.set i (by rw [← HN.out]; exact hi) x
  have hb2 : b < (setItm W g i x).heap.size := Nat.lt_of_lt_of_le hbl ho.size
  have hp2 : mb < (setItm W g i x).heap.size := Nat.lt_of_lt_of_le hpl ho.size
  have hsz : W.heap.size = (setItm W g i x).heap.size := by simp [setItm, World.setCell]
  have HO := Lib.hid ho
  have ROW := Lib.hid row2
  obtain ⟨W2, hW2⟩ : ∃ W2, W2 = setItm W g i x := ⟨_, rfl⟩
  rw [← hW2] at p0 d0 d1 hb2 hp2 HO ROW hsz
  rw [show ((W.setCell { block := g, off := i * 3 } (Value.int IntKind.u64 x.d)).setCell { block := g, off := i * 3 + 1 } (Value.int IntKind.u64 x.w)).setCell { block := g, off := i * 3 + 2 } (Value.int IntKind.i64 x.h) = setItm W g i x from rfl, ← hW2]
  have p1 : PosIs (W2.alloc (.cells #[.int .u64 x.d, .int .u64 x.w, .int .i64 x.h] 171)).drew.drew mb c f := p0.block (Below.heap_alloc _ _ _ hp2)
  obtain ⟨W3, hr, p3, hg3, hs3⟩ := p1.put x.h hx i (by exact WalkArith.wf_i64 (by omega)) hc
  have hr' : (Instr.mapUpdate 165 (.map (some mb)) (.int .i64 x.h) (.int .i64 i)).run Tryd.prog (W2.alloc (.cells #[.int .u64 x.d, .int .u64 x.w, .int .i64 x.h] 171)).drew.drew = .ok () W3 := hr
  have FIN := Lib.hid (show PlacePost b mb g cap (c + 1) (C.set i x) (fput f x.h i) W (.returned (.tuple #[])) W3 by
    have hWo : Only [g, mb] W W3 := by
      have o2 : Only [g, mb] W2 (W2.alloc (.cells #[.int .u64 x.d, .int .u64 x.w, .int .i64 x.h] 171)).drew.drew := (((Only.refl _ W2).alloc _).drew).drew
      exact ((HO.out.mono (by simp)).trans o2).trans ⟨hg3.os, hg3.tape, hg3.output, hg3.size, fun k hk hn => hg3.block k hk (fun e => hn (by cases e; simp))⟩
    refine ⟨rfl, ⟨?_, ?_, ?_, p3, hbg⟩, hWo⟩
    · rw [World.cell?_of_block (w := W) (a := ⟨b, 0, none⟩) (hWo.block b hbl (by simp; exact ⟨hbg, hbm⟩)), List.length_set, ← HN.out]; exact c0
    · rw [World.cell?_of_block (w := W) (a := ⟨b, 1, none⟩) (hWo.block b hbl (by simp; exact ⟨hbg, hbm⟩))]; exact c1
    · refine ROW.out.block ?_
      rw [hg3.block g (by have := HO.out.size; simp; omega) (fun e => hm (by cases e; rfl))]
      exact Below.heap_alloc _ _ _ (by have := HO.out.size; omega))
  have b2 : (W2.alloc (.cells #[.int .u64 x.d, .int .u64 x.w, .int .i64 x.h] 171)).cell? ⟨W.heap.size, 2, none⟩ = some (.int .i64 x.h) := by rw [World.cell?_alloc_at _ _ _ _ hsz]; simp
  clear hsz hr p1 p3 hg3 hs3 p0 q0 q1 q2 r0 r1 r2 ho row2 hW2 c0 c1 hm hbm hpl hp2
  refine region_tail 7 (by kernel_rfl) (by kernel_rfl) ?_
  simp only [List.take_succ_cons, List.take_zero, List.drop_succ_cons, List.drop_zero]
  repeat still_step
  refine wpStill_nil ?_
  go_wp2_with fail
  go_end0
  exact FIN.out
end Go.Proofs.YtobbmhboahognaaDoor
