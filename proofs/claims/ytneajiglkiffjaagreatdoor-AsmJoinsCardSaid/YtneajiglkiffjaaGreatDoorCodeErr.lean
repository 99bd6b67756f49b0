/- The program's errors (layer 4): the contract of fault; what a call leaves that may tell one. -/
import Derived.Test.YtneajiglkiffjaaGreatDoorSameAt
import Derived.Test.YtneajiglkiffjaaGreatDoorInsIn
namespace Go.Proofs.YtneajiglkiffjaaGreatDoor
open Go.RowKit
set_option linter.unusedVariables false

set_option maxHeartbeats 400000 in
theorem cfault_any (n : Int) (t : TypeId) (x : Value) (w : World) : Calls Tryz.prog 57 #[.int .i64 n, .iface t x] w fun e w' =>
    e = .returned (.iface 69 (.pointer (some ⟨w.heap.size, 0, none⟩))) ∧ w' = w.alloc (.cells #[.string codeS, .int .i64 n, .iface t x] 73) := by
  go_enter Tryz.func57, Tryz.ntmps57
  go_wp2
  go_ret
  exact ⟨rfl, rfl⟩
/-- What a call leaves that answers nil, or an error of these places and a kind. -/
def EPost (r : Option (List (ByteArray × Int) × Int)) (w : World) (e : Ending) (w' : World) : Prop := match r with
  | none => e = .returned .nilIface ∧ Below w.heap.size w w'
  | some (l, k) => ∃ x, e = .returned (.iface 69 (.pointer (some ⟨x, 0, none⟩))) ∧ ErrAt w' (.iface 69 (.pointer (some ⟨x, 0, none⟩))) l k ∧ Below w.heap.size w w'
theorem e_no (n k : Int) {w w1 : World} (hb : Below w.heap.size w w1) : EPost (some ([(codeS, n)], k)) w (.returned (.iface 69 (.pointer (some ⟨w1.heap.size, 0, none⟩)))) (w1.alloc (.cells #[.string codeS, .int .i64 n, .iface 49 (.int .i64 k)] 73)) :=
  ⟨_, rfl, (ErrBlk.new w1 codeS n k).errAt, hb.alloc hb.size _⟩
theorem errAt_below {B : Nat} {W W' : World} (hb : Below B W W') (hB : W.heap.size ≤ B) {E : Value} {l : List (ByteArray × Int)} {k : Int} (h : ErrAt W E l k) : ErrAt W' E l k :=
  h.mono fun p v hv => by rw [hb.cell (Nat.lt_of_lt_of_le (World.block_lt_of_cell? _ _ hv) hB)]; exact hv
theorem below_alloc_one (w : World) (o : Obj) : Below w.heap.size w (w.alloc o) := (Below.refl _ _).alloc (Nat.le_refl _) _
theorem e_in (n k : Int) (l : List (ByteArray × Int)) {w w1 : World} {x : Nat} (h : ErrAt w1 (.iface 69 (.pointer (some ⟨x, 0, none⟩))) l k) (hb : Below w.heap.size w w1) :
    EPost (some ((codeS, n) :: l, k)) w (.returned (.iface 69 (.pointer (some ⟨w1.heap.size, 0, none⟩)))) (w1.alloc (.cells #[.string codeS, .int .i64 n, .iface 69 (.pointer (some ⟨x, 0, none⟩))] 73)) := by
  have hn := heap_alloc_new w1 (.cells #[.string codeS, .int .i64 n, .iface 69 (.pointer (some ⟨x, 0, none⟩))] 73)
  exact ⟨_, rfl, .place _ codeS n _ l k (by rw [cells_of hn]; rfl) (by rw [cells_of hn]; rfl) (by rw [cells_of hn]; rfl) (errAt_below (below_alloc_one w1 _) (Nat.le_refl _) h), hb.alloc hb.size _⟩
end Go.Proofs.YtneajiglkiffjaaGreatDoor
