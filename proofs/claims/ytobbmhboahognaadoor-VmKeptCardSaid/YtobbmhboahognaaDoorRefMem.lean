/- The document's memory (layer 2): how it lies in memory, and contracts of its functions that only read (whether cells are in it); no condition but that it lies there. -/
import Derived.Test.YtobbmhboahognaaDoorMemPlain
import Derived.Test.YtobbmhboahognaaDoorKeepNo
import Derived.BigQuiet
import Derived.RegionTactic
import Derived.BigRegion
namespace Go.Proofs.YtobbmhboahognaaDoor
open Go.RowKit

/-- The document's memory m lies at block b. -/
structure RefMem (w : World) (b bw bh : Nat) (m : Cells) : Prop where
  top : Row w b [.slice (some ⟨bw, 0, none⟩) m.ws.length m.ws.length, .slice (some ⟨bh, 0, none⟩) m.ws.length m.ws.length, .int .i64 m.n]
  rw : Row w bw (m.ws.map (Value.int .i64))
  rh : Row w bh (m.hs.map (Value.int .u64))
  len : m.hs.length = m.ws.length
  n1 : b ≠ bw
  n2 : b ≠ bh
  n3 : bw ≠ bh
theorem RefMem.c0 {w : World} {b bw bh : Nat} {m : Cells} (h : RefMem w b bw bh m) : w.cell? ⟨b, 0, none⟩ = some (.slice (some ⟨bw, 0, none⟩) m.ws.length m.ws.length) := h.top.cell 0 (by simp)
theorem RefMem.c1 {w : World} {b bw bh : Nat} {m : Cells} (h : RefMem w b bw bh m) : w.cell? ⟨b, 1, none⟩ = some (.slice (some ⟨bh, 0, none⟩) m.ws.length m.ws.length) := h.top.cell 1 (by simp)
theorem RefMem.c2 {w : World} {b bw bh : Nat} {m : Cells} (h : RefMem w b bw bh m) : w.cell? ⟨b, 2, none⟩ = some (.int .i64 m.n) := h.top.cell 2 (by simp)
theorem RefMem.f2 {w : World} {b bw bh : Nat} {m : Cells} (h : RefMem w b bw bh m) : w.frozen? ⟨b, 2, none⟩ = false := h.top.free 2 (by simp)
theorem RefMem.cw {w : World} {b bw bh : Nat} {m : Cells} (h : RefMem w b bw bh m) (i : Nat) (hi : i < m.ws.length) : w.cell? ⟨bw, i, none⟩ = some (.int .i64 (m.ws.getD i 0)) := by
  have := h.rw.cell i (by simpa using hi); simpa [hi] using this
theorem RefMem.ch {w : World} {b bw bh : Nat} {m : Cells} (h : RefMem w b bw bh m) (i : Nat) (hi : i < m.ws.length) : w.cell? ⟨bh, i, none⟩ = some (.int .u64 (m.hs.getD i 0)) := by
  have := h.rh.cell i (by rw [List.length_map, h.len]; exact hi); simpa [h.len, hi] using this
theorem RefMem.only {w w' : World} {b bw bh : Nat} {m : Cells} {F : List Nat} (h : RefMem w b bw bh m) (ho : Only F w w') (h0 : b ∉ F) (h1 : bw ∉ F) (h2 : bh ∉ F) : RefMem w' b bw bh m :=
  ⟨h.top.only ho h0, h.rw.only ho h1, h.rh.only ho h2, h.len, h.n1, h.n2, h.n3⟩
theorem RefMem.drewN {w : World} {b bw bh : Nat} {m : Cells} (h : RefMem w b bw bh m) (n : Nat) : RefMem (w.drewN n) b bw bh m := ⟨h.top.drewN n, h.rw.drewN n, h.rh.drewN n, h.len, h.n1, h.n2, h.n3⟩

set_option maxHeartbeats 400000 in
theorem refIn {w : World} {b bw bh : Nat} {m : Cells} (h : RefMem w b bw bh m) (hl : m.ws.length < 2147483648) (at' n : Int) (hn : 1 ≤ n) :
    Calls Tryd.prog 66 #[.pointer (some ⟨b, 0, none⟩), .int .i64 at', .int .i64 n] w fun e w' => e = .returned (.bool (inside m.ws.length at' n)) ∧ w = w' := by
  have c0 := h.c0
  obtain ⟨L, hL⟩ : ∃ L, L = m.ws.length := ⟨_, rfl⟩
  rw [← hL] at c0 hl ⊢
  clear hL h
  by_cases h1 : 0 ≤ at'
  · by_cases h2 : n ≤ (L : Int)
    · by_cases h3 : at' ≤ (L : Int) - n
      · rw [show inside L at' n = true by simp [inside, h1, h2, h3]]
        go_enter Tryd.func66, Tryd.ntmps66
        go_wp2
        go_ret
        exact ⟨rfl, rfl⟩
      · rw [show inside L at' n = false by simp [inside, h3]]
        go_enter Tryd.func66, Tryd.ntmps66
        go_wp2
        go_ret
        exact ⟨rfl, rfl⟩
    · rw [show inside L at' n = false by simp [inside, h2]]
      go_enter Tryd.func66, Tryd.ntmps66
      go_wp2
      go_ret
      exact ⟨rfl, rfl⟩
  · rw [show inside L at' n = false by simp [inside, h1]]
    go_enter Tryd.func66, Tryd.ntmps66
    go_wp2
    go_ret
    exact ⟨rfl, rfl⟩
end Go.Proofs.YtobbmhboahognaaDoor
