/- The program's blocks of cells (layer 3): contracts of Get: which error, or how the blocks and the memory lie behind it. The conditions: the blocks lie there over their memory. -/
import Derived.Test.YtlodelcenejfhaaDoorAllocState
namespace Go.Proofs.YtlodelcenejfhaaDoor
open Go.RowKit Go.Shelf
set_option linter.unusedVariables false

/-- What Get leaves where it refuses. -/
def GetBad (n k : Int) (w : World) (e : Ending) (w' : World) : Prop := ∃ x, e = .returned (.tuple #[.int .i64 0, .iface 89 (.pointer (some ⟨x, 0, none⟩))]) ∧ ErrBlk w' x allocS n k ∧ w.heap.size ≤ x ∧ Below w.heap.size w w'
theorem getBad_of {n k : Int} {w w1 : World} (hb : Below w.heap.size w w1) : GetBad n k w (.returned (.tuple #[.int .i64 0, .iface 89 (.pointer (some ⟨w1.heap.size, 0, none⟩))])) (w1.alloc (.cells #[.string allocS, .int .i64 n, .iface 57 (.int .i64 k)] 93)) :=
  ⟨_, rfl, ErrBlk.new _ _ _ _, hb.size, hb.alloc hb.size _⟩

set_option maxHeartbeats 1000000 in
theorem get_arg (p : Value) (n k : Int) (h : n < 1 ∨ 4096 < n ∨ ¬ (k = 64 ∨ k = 32)) (w : World) :
    Calls Tryd.prog 22 #[p, .int .i64 n, .int .i64 k] w (GetBad 0 1 w) := by
  have FA := Lib.hid (fun W => afault_any 0 57 (.int .i64 1) W)
  have FIN := Lib.hid (getBad_of (n := 0) (k := 1) (Below.refl w.heap.size w))
  by_cases h1 : n < 1
  · clear h
    go_enter Tryd.func22, Tryd.ntmps22
    go_wp2_with (go_at_call 35; refine (FA.out _).mono ?_; rintro e w' ⟨rfl, rfl⟩)
    go_ret2
    exact FIN.out
  · by_cases h2 : 4096 < n
    · clear h
      go_enter Tryd.func22, Tryd.ntmps22
      go_wp2_with (go_at_call 35; refine (FA.out _).mono ?_; rintro e w' ⟨rfl, rfl⟩)
      go_ret2
      exact FIN.out
    · have h3 : (k != 32) = true := by simp; omega
      have h4 : (k != 64) = true := by simp; omega
      have h5 : ¬ (k = 32) := by omega
      have h6 : ¬ (k = 64) := by omega
      clear h
      go_enter Tryd.func22, Tryd.ntmps22
      go_wp2_with (go_at_call 35; refine (FA.out _).mono ?_; rintro e w' ⟨rfl, rfl⟩)
      go_ret2
      exact FIN.out

section
variable {w : World} {a mb mc B : Nat} {frm e : Int} {v : Value} {L : List Blk} {m : Cells} {t : Int}
set_option maxHeartbeats 1000000 in
theorem get_room32 (h : Alc w a mb mc B frm e v L m t) (n : Int) (h1 : 1 ≤ n) (h2 : n ≤ 4096) (hg : firstGap n (gaps e frm L) = none) :
    Calls Tryd.prog 22 #[.pointer (some ⟨a, 0, none⟩), .int .i64 n, .int .i64 32] w (GetBad 0 3 w) := by
  have RM := h.room n
  rw [hg] at RM
  have R := Lib.hid (show Calls Tryd.prog 44 #[.pointer (some ⟨a, 0, none⟩), .int .i64 n] w fun en W' => en = .returned (.tuple #[.int .i64 0, .bool false]) ∧ Below w.heap.size w W' from RM)
  have FA := Lib.hid (fun W => afault_any 0 57 (.int .i64 3) W)
  have FIN := Lib.hid (fun w1 (hb : Below w.heap.size w w1) => getBad_of (n := 0) (k := 3) hb)
  clear h RM hg
  go_enter Tryd.func22, Tryd.ntmps22
  go_wp2_with (first | (go_at_call 44; refine R.out.mono ?_; rintro e w1 ⟨rfl, hb⟩) | (go_at_call 35; refine (FA.out _).mono ?_; rintro e w' ⟨rfl, rfl⟩))
  go_ret2
  exact FIN.out _ hb
set_option maxHeartbeats 1000000 in
theorem get_room64 (h : Alc w a mb mc B frm e v L m t) (n : Int) (h1 : 1 ≤ n) (h2 : n ≤ 4096) (hg : firstGap n (gaps e frm L) = none) :
    Calls Tryd.prog 22 #[.pointer (some ⟨a, 0, none⟩), .int .i64 n, .int .i64 64] w (GetBad 0 3 w) := by
  have RM := h.room n
  rw [hg] at RM
  have R := Lib.hid (show Calls Tryd.prog 44 #[.pointer (some ⟨a, 0, none⟩), .int .i64 n] w fun en W' => en = .returned (.tuple #[.int .i64 0, .bool false]) ∧ Below w.heap.size w W' from RM)
  have FA := Lib.hid (fun W => afault_any 0 57 (.int .i64 3) W)
  have FIN := Lib.hid (fun w1 (hb : Below w.heap.size w w1) => getBad_of (n := 0) (k := 3) hb)
  clear h RM hg
  go_enter Tryd.func22, Tryd.ntmps22
  go_wp2_with (first | (go_at_call 44; refine R.out.mono ?_; rintro e w1 ⟨rfl, hb⟩) | (go_at_call 35; refine (FA.out _).mono ?_; rintro e w' ⟨rfl, rfl⟩))
  go_ret2
  exact FIN.out _ hb
theorem get_room (h : Alc w a mb mc B frm e v L m t) (n k : Int) (h1 : 1 ≤ n) (h2 : n ≤ 4096) (hk : k = 64 ∨ k = 32) (hg : firstGap n (gaps e frm L) = none) :
    Calls Tryd.prog 22 #[.pointer (some ⟨a, 0, none⟩), .int .i64 n, .int .i64 k] w (GetBad 0 3 w) := by
  rcases hk with rfl | rfl
  · exact get_room64 h n h1 h2 hg
  · exact get_room32 h n h1 h2 hg
end
end Go.Proofs.YtlodelcenejfhaaDoor
