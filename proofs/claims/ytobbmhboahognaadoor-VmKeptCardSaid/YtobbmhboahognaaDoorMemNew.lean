/- The program's memory (layer 2): contracts of New (an error, or a new memory of that many cells, none of which is there). -/
import Derived.Test.YtobbmhboahognaaDoorMemSet
import Derived.Test.YtobbmhboahognaaDoorGood
import Derived.Laws.MakeOwn
namespace Go.Proofs.YtobbmhboahognaaDoor
open Go.RowKit
set_option linter.unusedVariables false

/-- What New leaves. -/
def NewPost (c : Nat) (w : World) (e : Ending) (w' : World) : Prop := ∃ b bc : Nat, e = .returned (.tuple #[.pointer (some ⟨b, 0, none⟩), .nilIface]) ∧
  MemAt w' b bc { ws := List.replicate c 0, hs := List.replicate c 0, n := 0 } 0 ∧ Below w.heap.size w w' ∧ w.heap.size ≤ b ∧ w.heap.size ≤ bc

theorem info_cell : (Tryd.prog.info? 137).map (fun i => (i.zero, i.size, i.bytes)) = some (some (.agg #[.int .i64 0, .int .u64 0]), 2, 16) := by kernel_rfl
theorem make_cells (c : Nat) (hc : c ≤ 65536) (W : World) : (Instr.makeSlice 115 (.int .i64 (c : Int)) (.int .i64 (c : Int))).run Tryd.prog W = .ok (.slice (some ⟨W.heap.size, 0, none⟩) c c) (W.alloc (.cells (madeCells #[.int .i64 0, .int .u64 0] (c * 2)) 137)) := by
  obtain ⟨i, hi, hz, hs, hb⟩ := info_parts info_cell
  have := run_make (P := Tryd.prog) W 115 137 i _ Tryd.underlying115 hi hz .i64 .i64 c c (by omega) (by omega) (by rw [hb]; omega) (by omega)
  rw [hs] at this
  simp only [Int.toNat_natCast] at this
  exact this
theorem made_even (c i : Nat) (h : i < c) : (madeCells #[.int .i64 0, .int .u64 0] (c * 2))[i * 2]? = some (.int .i64 0) := by
  unfold madeCells
  rw [Array.getElem?_map, Array.getElem?_range, if_pos (by omega)]
  show some (#[Value.int .i64 0, .int .u64 0][i * 2 % 2]!) = _
  rw [show i * 2 % 2 = 0 by omega]; rfl
theorem made_odd (c i : Nat) (h : i < c) : (madeCells #[.int .i64 0, .int .u64 0] (c * 2))[i * 2 + 1]? = some (.int .u64 0) := by
  unfold madeCells
  rw [Array.getElem?_map, Array.getElem?_range, if_pos (by omega)]
  show some (#[Value.int .i64 0, .int .u64 0][(i * 2 + 1) % 2]!) = _
  rw [show (i * 2 + 1) % 2 = 1 by omega]; rfl
theorem newMem (w : World) (c : Nat) (A : Array Value) (hA : A = madeCells #[.int .i64 0, .int .u64 0] (c * 2)) :
    NewPost c w (.returned (.tuple #[.pointer (some ⟨w.heap.size + 1, 0, none⟩), .nilIface])) ((w.alloc (.cells A 137)).alloc (.cells #[.slice (some ⟨w.heap.size, 0, none⟩) c c, .int .i64 0, .int .i64 0] 117)) := by
  subst hA
  have r := Row.new (w.alloc (.cells (madeCells #[.int .i64 0, .int .u64 0] (c * 2)) 137)) [.slice (some ⟨w.heap.size, 0, none⟩) c c, .int .i64 0, .int .i64 0] 117
  simp only [World.size_alloc] at r
  have hc : ∀ o, ((w.alloc (.cells (madeCells #[.int .i64 0, .int .u64 0] (c * 2)) 137)).alloc (.cells #[.slice (some ⟨w.heap.size, 0, none⟩) c c, .int .i64 0, .int .i64 0] 117)).cell? ⟨w.heap.size, o, none⟩ = (madeCells #[.int .i64 0, .int .u64 0] (c * 2))[o]? := fun o => by
    rw [World.cell?_alloc_lt _ _ ⟨w.heap.size, o, none⟩ (by simp), World.cell?_alloc_at _ _ _ _ rfl]
  refine ⟨w.heap.size + 1, w.heap.size, rfl, ⟨by simpa using r, fun i hi => ?_, fun i hi => ?_, fun j => ?_, by simp; omega, by simp, by omega⟩, ?_, by omega, by omega⟩
  · rw [hc, made_even c i (by simpa using hi)]; rw [getD_rep]
  · rw [hc, made_odd c i (by simpa using hi)]; rw [getD_rep]
  · rw [World.frozen?_alloc_old _ _ ⟨w.heap.size, j, none⟩ (by simp)]; exact World.frozen?_alloc_new _ _ _ _
  · exact ((Below.refl _ _).alloc (Nat.le_refl _) _).alloc (by simp) _

set_option maxHeartbeats 1000000 in
theorem memNew (c : Nat) (h1 : 1 ≤ c) (h2 : c ≤ 65536) (w : World) : Calls Tryd.prog 34 #[.int .i64 c] w (NewPost c w) := by
  have mk := make_cells c h2
  obtain ⟨A, hA⟩ : ∃ A, A = madeCells #[.int .i64 0, .int .u64 0] (c * 2) := ⟨_, rfl⟩
  rw [← hA] at mk
  have HA := Lib.hid hA
  clear hA
  go_enter Tryd.func34, Tryd.ntmps34
  go_wp2
  go_ret2
  exact newMem w c A HA.out

set_option maxHeartbeats 1000000 in
theorem memNew_bad (c : Int) (h : c < 1 ∨ 65536 < c) (w : World) :
    Calls Tryd.prog 34 #[.int .i64 c] w fun e w' => e = .returned (.tuple #[.pointer none, .iface 108 (.pointer (some ⟨w.heap.size, 0, none⟩))]) ∧
      w' = w.alloc (.cells #[.string memS, .int .i64 0, .iface 55 (.int .i64 1)] 112) := by
  have FA := Lib.hid (fun W => fault_any 1 0 W)
  by_cases h1 : c < 1
  · clear h
    go_enter Tryd.func34, Tryd.ntmps34
    go_wp2_with (go_at_call 63; refine (FA.out _).mono ?_; rintro e w' ⟨rfl, rfl⟩)
    go_ret2
    exact ⟨rfl, rfl⟩
  · have h2 : 65536 < c := by omega
    clear h
    go_enter Tryd.func34, Tryd.ntmps34
    go_wp2_with (go_at_call 63; refine (FA.out _).mono ?_; rintro e w' ⟨rfl, rfl⟩)
    go_ret2
    exact ⟨rfl, rfl⟩

theorem fill_rep (k v : Int) (c : Nat) : fillIn k (List.replicate c v) 0 c = List.replicate c k := by
  apply List.ext_getElem?
  intro i
  have hl : (fillIn k (List.replicate c v) 0 c).length = c := by rw [fillIn_length]; simp
  by_cases h : i < c
  · have := fillIn_getD k c (List.replicate c v) 0 i (by simp)
    rw [if_pos (by omega)] at this
    rw [List.getElem?_eq_getElem (by omega)]
    simp only [List.getD, List.getElem?_eq_getElem (show i < (fillIn k (List.replicate c v) 0 c).length by omega)] at this
    simp [h]
    simpa using this
  · rw [List.getElem?_eq_none (by omega), List.getElem?_eq_none (by simp; omega)]
theorem firstNZ_rep (c : Nat) : firstNZ (List.replicate c 0) 0 c = none := firstNZ_of _ _ _ fun j _ _ => getD_rep c j
end Go.Proofs.YtobbmhboahognaaDoor
