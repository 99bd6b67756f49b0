/- The document's memory (layer 2): how it lies behind a write of one of its cells. -/
import Derived.Test.YtobbmhboahognaaDoorRefMem
import Derived.Deep.RegionWith
namespace Go.Proofs.YtobbmhboahognaaDoor
open Go.RowKit
set_option linter.unusedVariables false

theorem RefMem.setN {w : World} {b bw bh : Nat} {m : Cells} (h : RefMem w b bw bh m) (N : Int) : RefMem (w.setCell ⟨b, 2, none⟩ (.int .i64 N)) b bw bh { ws := m.ws, hs := m.hs, n := N } :=
  ⟨by have := h.top.set 2 (by simp) (.int .i64 N); simpa using this, h.rw.other _ (Ne.symm h.n1) _, h.rh.other _ (Ne.symm h.n2) _, h.len, h.n1, h.n2, h.n3⟩
theorem RefMem.setH {w : World} {b bw bh : Nat} {m : Cells} (h : RefMem w b bw bh m) (i : Nat) (hi : i < m.ws.length) (y : Int) : RefMem (w.setCell ⟨bh, i, none⟩ (.int .u64 y)) b bw bh { ws := m.ws, hs := m.hs.set i y, n := m.n } :=
  ⟨h.top.other _ h.n2 _, h.rw.other _ h.n3 _, by have := h.rh.set i (by rw [List.length_map, h.len]; exact hi) (.int .u64 y); simpa [List.map_set] using this, by rw [List.length_set]; exact h.len, h.n1, h.n2, h.n3⟩
theorem RefMem.setW {w : World} {b bw bh : Nat} {m : Cells} (h : RefMem w b bw bh m) (i : Nat) (hi : i < m.ws.length) (y : Int) : RefMem (w.setCell ⟨bw, i, none⟩ (.int .i64 y)) b bw bh { ws := m.ws.set i y, hs := m.hs, n := m.n } :=
  ⟨by have := h.top.other ⟨bw, i, none⟩ h.n1 (.int .i64 y); simpa using this, by have := h.rw.set i (by simpa using hi) (.int .i64 y); simpa [List.map_set] using this, h.rh.other _ (Ne.symm h.n3) _, by rw [List.length_set]; exact h.len, h.n1, h.n2, h.n3⟩
theorem RefMem.drew {w : World} {b bw bh : Nat} {m : Cells} (h : RefMem w b bw bh m) : RefMem w.drew b bw bh m := ⟨h.top.drew, h.rw.drew, h.rh.drew, h.len, h.n1, h.n2, h.n3⟩

end Go.Proofs.YtobbmhboahognaaDoor
