/- The program's memory (layer 2): how it lies in memory, and contracts of its calls that only read (Width, There, Count), of the errors that it makes, and of the look at a row of cells; no condition but that it lies there. -/
import Derived.Test.YtobbmhboahognaaDoorMemPlain
import Derived.Test.YtobbmhboahognaaDoorProg
import Derived.Test.YtobbmhboahognaaDoorCut
import Derived.Lib.Hide
import Derived.BigQuiet
import Derived.RegionTactic
import Derived.BigRegion
namespace Go.Proofs.YtobbmhboahognaaDoor
open Go.RowKit
set_option linter.unusedVariables false

/-- The program's memory m lies at block b, its cells at block bc; it counts t of them as mapped. -/
structure MemAt (w : World) (b bc : Nat) (m : Cells) (t : Int) : Prop where
  top : Row w b [.slice (some ⟨bc, 0, none⟩) m.ws.length m.ws.length, .int .i64 t, .int .i64 m.n]
  cw : ∀ i, i < m.ws.length → w.cell? ⟨bc, i * 2, none⟩ = some (.int .i64 (m.ws.getD i 0))
  ch : ∀ i, i < m.ws.length → w.cell? ⟨bc, i * 2 + 1, none⟩ = some (.int .u64 (m.hs.getD i 0))
  fr : ∀ j, w.frozen? ⟨bc, j, none⟩ = false
  lt : bc < w.heap.size
  len : m.hs.length = m.ws.length
  ne : b ≠ bc
theorem MemAt.c0 {w : World} {b bc : Nat} {m : Cells} {t : Int} (h : MemAt w b bc m t) : w.cell? ⟨b, 0, none⟩ = some (.slice (some ⟨bc, 0, none⟩) m.ws.length m.ws.length) := h.top.cell 0 (by simp)
theorem MemAt.c1 {w : World} {b bc : Nat} {m : Cells} {t : Int} (h : MemAt w b bc m t) : w.cell? ⟨b, 1, none⟩ = some (.int .i64 t) := h.top.cell 1 (by simp)
theorem MemAt.c2 {w : World} {b bc : Nat} {m : Cells} {t : Int} (h : MemAt w b bc m t) : w.cell? ⟨b, 2, none⟩ = some (.int .i64 m.n) := h.top.cell 2 (by simp)
theorem MemAt.f1 {w : World} {b bc : Nat} {m : Cells} {t : Int} (h : MemAt w b bc m t) : w.frozen? ⟨b, 1, none⟩ = false := h.top.free 1 (by simp)
theorem MemAt.f2 {w : World} {b bc : Nat} {m : Cells} {t : Int} (h : MemAt w b bc m t) : w.frozen? ⟨b, 2, none⟩ = false := h.top.free 2 (by simp)
theorem MemAt.of_blocks {w w' : World} {b bc : Nat} {m : Cells} {t : Int} (h : MemAt w b bc m t) (h0 : w'.heap[b]? = w.heap[b]?) (h1 : w'.heap[bc]? = w.heap[bc]?) : MemAt w' b bc m t := by
  refine ⟨h.top.of_block h0, fun i hi => ?_, fun i hi => ?_, fun j => ?_, ?_, h.len, h.ne⟩
  · rw [World.cell?_of_block (w := w) (w' := w') (a := ⟨bc, i * 2, none⟩) h1]; exact h.cw i hi
  · rw [World.cell?_of_block (w := w) (w' := w') (a := ⟨bc, i * 2 + 1, none⟩) h1]; exact h.ch i hi
  · rw [World.frozen?_of_block (w := w) (w' := w') (a := ⟨bc, j, none⟩) h1]; exact h.fr j
  · have h2 := h.lt
    rcases Nat.lt_or_ge bc w'.heap.size with g | g
    · exact g
    · rw [Array.getElem?_eq_none g, Array.getElem?_eq_getElem h2] at h1; cases h1
theorem MemAt.only {w w' : World} {b bc : Nat} {m : Cells} {t : Int} {F : List Nat} (h : MemAt w b bc m t) (ho : Only F w w') (h0 : b ∉ F) (h1 : bc ∉ F) : MemAt w' b bc m t :=
  h.of_blocks (ho.block b h.top.lt h0) (ho.block bc h.lt h1)
theorem MemAt.drewN {w : World} {b bc : Nat} {m : Cells} {t : Int} (h : MemAt w b bc m t) (n : Nat) : MemAt (w.drewN n) b bc m t := h.of_blocks rfl rfl
theorem MemAt.drew {w : World} {b bc : Nat} {m : Cells} {t : Int} (h : MemAt w b bc m t) : MemAt w.drew b bc m t := h.of_blocks rfl rfl
theorem MemAt.alloc {w : World} {b bc : Nat} {m : Cells} {t : Int} (h : MemAt w b bc m t) (o : Obj) : MemAt (w.alloc o) b bc m t := h.of_blocks (Below.heap_alloc _ _ _ h.top.lt) (Below.heap_alloc _ _ _ h.lt)
theorem MemAt.setN {w : World} {b bc : Nat} {m : Cells} {t : Int} (h : MemAt w b bc m t) (N : Int) : MemAt (w.setCell ⟨b, 2, none⟩ (.int .i64 N)) b bc { ws := m.ws, hs := m.hs, n := N } t := by
  have hb : (w.setCell ⟨b, 2, none⟩ (.int .i64 N)).heap[bc]? = w.heap[bc]? := Below.heap_setCell _ _ _ _ (Ne.symm h.ne)
  refine ⟨by have := h.top.set 2 (by simp) (.int .i64 N); simpa using this, fun i hi => ?_, fun i hi => ?_, fun j => ?_, by simpa [World.setCell] using h.lt, h.len, h.ne⟩
  · rw [World.cell?_of_block (w := w) (a := ⟨bc, i * 2, none⟩) hb]; exact h.cw i hi
  · rw [World.cell?_of_block (w := w) (a := ⟨bc, i * 2 + 1, none⟩) hb]; exact h.ch i hi
  · rw [World.frozen?_setCell]; exact h.fr j
theorem MemAt.setT {w : World} {b bc : Nat} {m : Cells} {t : Int} (h : MemAt w b bc m t) (T : Int) : MemAt (w.setCell ⟨b, 1, none⟩ (.int .i64 T)) b bc m T := by
  have hb : (w.setCell ⟨b, 1, none⟩ (.int .i64 T)).heap[bc]? = w.heap[bc]? := Below.heap_setCell _ _ _ _ (Ne.symm h.ne)
  refine ⟨by have := h.top.set 1 (by simp) (.int .i64 T); simpa using this, fun i hi => ?_, fun i hi => ?_, fun j => ?_, by simpa [World.setCell] using h.lt, h.len, h.ne⟩
  · rw [World.cell?_of_block (w := w) (a := ⟨bc, i * 2, none⟩) hb]; exact h.cw i hi
  · rw [World.cell?_of_block (w := w) (a := ⟨bc, i * 2 + 1, none⟩) hb]; exact h.ch i hi
  · rw [World.frozen?_setCell]; exact h.fr j
theorem MemAt.setH {w : World} {b bc : Nat} {m : Cells} {t : Int} (h : MemAt w b bc m t) (i : Nat) (hi : i < m.ws.length) (y : Int) : MemAt (w.setCell ⟨bc, i * 2 + 1, none⟩ (.int .u64 y)) b bc { ws := m.ws, hs := m.hs.set i y, n := m.n } t := by
  refine ⟨h.top.other ⟨bc, i * 2 + 1, none⟩ h.ne _, fun j hj => ?_, fun j hj => ?_, fun j => ?_, by simpa [World.setCell] using h.lt, by rw [List.length_set]; exact h.len, h.ne⟩
  · rw [World.cell?_setCell_other _ _ _ _ (by simp <;> omega)]; exact h.cw j hj
  · by_cases e : i = j
    · subst e
      rw [World.cell?_setCell_same _ _ _ (u := .int .u64 (m.hs.getD i 0)) (h.ch i hj)]
      simp [show i < m.hs.length by rw [h.len]; exact hi]
    · rw [World.cell?_setCell_other _ _ _ _ (by simp <;> omega), h.ch j hj]
      simp [List.getD, List.getElem?_set_ne e]
  · rw [World.frozen?_setCell]; exact h.fr j
theorem MemAt.setW {w : World} {b bc : Nat} {m : Cells} {t : Int} (h : MemAt w b bc m t) (i : Nat) (hi : i < m.ws.length) (y : Int) : MemAt (w.setCell ⟨bc, i * 2, none⟩ (.int .i64 y)) b bc { ws := m.ws.set i y, hs := m.hs, n := m.n } t := by
  refine ⟨by have := h.top.other ⟨bc, i * 2, none⟩ h.ne (.int .i64 y); simpa using this, fun j hj => ?_, fun j hj => ?_, fun j => ?_, by simpa [World.setCell] using h.lt, by rw [List.length_set]; exact h.len, h.ne⟩
  · rw [List.length_set] at hj
    by_cases e : i = j
    · subst e
      rw [World.cell?_setCell_same _ _ _ (u := .int .i64 (m.ws.getD i 0)) (h.cw i hj)]
      simp [hi]
    · rw [World.cell?_setCell_other _ _ _ _ (by simp <;> omega), h.cw j hj]
      simp [List.getD, List.getElem?_set_ne e]
  · rw [List.length_set] at hj
    rw [World.cell?_setCell_other _ _ _ _ (by simp <;> omega)]; exact h.ch j hj
  · rw [World.frozen?_setCell]; exact h.fr j

set_option maxHeartbeats 400000 in
theorem memWidth {w : World} {b bc : Nat} {m : Cells} {t : Int} (h : MemAt w b bc m t) (hl : m.ws.length < 2147483648) (at' : Nat) :
    Calls Tryd.prog 90 #[.pointer (some ⟨b, 0, none⟩), .int .u64 at'] w fun e w' => e = .returned (.int .i64 (widthAt m.ws at')) ∧ w = w' := by
  have c0 := h.c0
  by_cases hi : at' < m.ws.length
  · have cw := h.cw at' hi
    obtain ⟨x, hx⟩ : ∃ x, x = widthAt m.ws at' := ⟨_, rfl⟩
    rw [← hx]
    rw [show m.ws.getD at' 0 = x from hx.symm] at cw
    clear hx h
    go_enter Tryd.func90, Tryd.ntmps90
    go_wp2
    go_ret
    exact ⟨rfl, rfl⟩
  · rw [widthAt_out _ _ hi]
    clear h
    go_enter Tryd.func90, Tryd.ntmps90
    go_wp2
    go_ret
    exact ⟨rfl, rfl⟩

/-- What an error of the memory's leaves. -/
def FaultPost (n k : Int) (w : World) (e : Ending) (w' : World) : Prop := e = .returned (.iface 108 (.pointer (some ⟨w.heap.size, 0, none⟩))) ∧ w' = w.alloc (.cells #[.string memS, .int .i64 n, .iface 55 (.int .i64 k)] 112)

set_option maxHeartbeats 400000 in
theorem fault_any (k n : Int) (w : World) : Calls Tryd.prog 63 #[.int .i64 k, .int .i64 n] w (FaultPost n k w) := by
  go_enter Tryd.func63, Tryd.ntmps63
  go_wp2
  go_ret
  exact ⟨rfl, rfl⟩

end Go.Proofs.YtobbmhboahognaaDoor
