/- What the document's words on a code leave (layer 4): nothing, or the Fail of one place and a kind, or of several places. -/
import Derived.Test.YtncgkhgjclodaaaDoorInsIn
import Derived.Test.YtncgkhgjclodaaaDoorKeepIn
namespace Go.Proofs.YtncgkhgjclodaaaDoor
open Go.RowKit
set_option linter.unusedVariables false

/-- What Check leaves. -/
def ChkPost (r : Option (Int × Int)) (w : World) (e : Ending) (w' : World) : Prop := match r with
  | none => e = .returned (.pointer none) ∧ Below w.heap.size w w'
  | some (n, k) => ∃ z, e = .returned (.pointer (some ⟨z + 1 + 1, 0, none⟩)) ∧ FailBlk w' z codeS n k ∧ Below w.heap.size w w'
theorem chk_no (n k : Int) {w w1 : World} (hb : Below w.heap.size w w1) : ChkPost (some (n, k)) w (.returned (.pointer (some ⟨w1.heap.size + 1 + 1, 0, none⟩)))
    (((w1.alloc (.cells #[.string codeS] 9)).alloc (.cells #[.int .i64 n] 3)).alloc (.cells #[.slice (some ⟨w1.heap.size, 0, none⟩) 1 1, .slice (some ⟨w1.heap.size + 1, 0, none⟩) 1 1, .int .i64 k] 66)) :=
  ⟨_, rfl, FailBlk.new w1 codeS n k, ((hb.alloc hb.size _).alloc (by have := hb.size; simp; omega) _).alloc (by have := hb.size; simp; omega) _⟩

/-- What a Fail of any places, or none, leaves. -/
def FPost (r : Option (List (ByteArray × Int) × Int)) (w : World) (e : Ending) (w' : World) : Prop := match r with
  | none => e = .returned (.pointer none) ∧ Below w.heap.size w w'
  | some (l, k) => ∃ z, e = .returned (.pointer (some ⟨z, 0, none⟩)) ∧ FailAt w' (.pointer (some ⟨z, 0, none⟩)) l k ∧ Below w.heap.size w w'
theorem f_no (n k : Int) {w w1 : World} (hb : Below w.heap.size w w1) : FPost (some ([(codeS, n)], k)) w (.returned (.pointer (some ⟨w1.heap.size + 1 + 1, 0, none⟩)))
    (((w1.alloc (.cells #[.string codeS] 9)).alloc (.cells #[.int .i64 n] 3)).alloc (.cells #[.slice (some ⟨w1.heap.size, 0, none⟩) 1 1, .slice (some ⟨w1.heap.size + 1, 0, none⟩) 1 1, .int .i64 k] 66)) :=
  ⟨_, rfl, (FailBlk.new w1 codeS n k).failAt, ((hb.alloc hb.size _).alloc (by have := hb.size; simp; omega) _).alloc (by have := hb.size; simp; omega) _⟩

/-- What the document says of a client's program. -/
def clientRes (l : List Inst) (en wi na : Int) : Option (List (ByteArray × Int) × Int) :=
  if wi < 0 ∨ na < 0 ∨ 256 < wi ∨ 256 - wi < na ∨ l.length = 0 then some ([(codeS, 0)], 1) else
  match checkRes l false with
  | some x => some ([(codeS, x.1), (codeS, x.1)], x.2)
  | none => if en < 0 ∨ (l.length : Int) ≤ en then some ([(codeS, max en 0)], 5) else none

end Go.Proofs.YtncgkhgjclodaaaDoor
