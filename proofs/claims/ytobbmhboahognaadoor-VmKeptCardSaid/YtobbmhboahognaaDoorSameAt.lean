/- An error of one place and the Fail of the same, each laid in blocks of its own: Same answers true at them. The condition: the library's variable errors.errorType holds the type error. -/
import Derived.Test.YtobbmhboahognaaDoorKeepSame
import Derived.Test.YtobbmhboahognaaDoorKeepNo
import Derived.Test.YtobbmhboahognaaDoorFrame
namespace Go.Proofs.YtobbmhboahognaaDoor
open Go.RowKit

/-- An error of one place, and a kind behind it, lies at block x. -/
def ErrBlk (W : World) (x : Nat) (y : ByteArray) (n k : Int) : Prop := W.heap[x]? = some (.cells #[.string y, .int .i64 n, .iface 55 (.int .i64 k)] 112)
/-- The Fail of one place lies at block z, its lists at the two blocks ahead of it. -/
structure FailBlk (W : World) (z : Nat) (y : ByteArray) (n k : Int) : Prop where
  f0 : W.heap[z]? = some (.cells #[.string y] 9)
  f1 : W.heap[z + 1]? = some (.cells #[.int .i64 n] 3)
  f2 : W.heap[z + 1 + 1]? = some (.cells #[.slice (some ⟨z, 0, none⟩) 1 1, .slice (some ⟨z + 1, 0, none⟩) 1 1, .int .i64 k] 107)
theorem heap_lt {W : World} {x : Nat} {o : Obj} (h : W.heap[x]? = some o) : x < W.heap.size := by
  rcases Nat.lt_or_ge x W.heap.size with g | g
  · exact g
  · rw [Array.getElem?_eq_none g] at h; cases h
theorem cells_of {W : World} {x : Nat} {cs : Array Value} {t : TypeId} (h : W.heap[x]? = some (.cells cs t)) (i : Nat) : W.cell? ⟨x, i, none⟩ = cs[i]? := cell_of_row W x i cs t (0, 0) h
theorem ErrBlk.new (w : World) (y : ByteArray) (n k : Int) : ErrBlk (w.alloc (.cells #[.string y, .int .i64 n, .iface 55 (.int .i64 k)] 112)) w.heap.size y n k := heap_alloc_new w _
theorem ErrBlk.only {F : List Nat} {w w' : World} {x : Nat} {y : ByteArray} {n k : Int} (h : ErrBlk w x y n k) (ho : Only F w w') (hx : x ∉ F) : ErrBlk w' x y n k := (ho.block x (heap_lt h) hx).trans h
theorem ErrBlk.drew {w : World} {x : Nat} {y : ByteArray} {n k : Int} (h : ErrBlk w x y n k) : ErrBlk w.drew x y n k := h
theorem FailBlk.only {F : List Nat} {w w' : World} {z : Nat} {y : ByteArray} {n k : Int} (h : FailBlk w z y n k) (ho : Only F w w') (h0 : z ∉ F) (h1 : z + 1 ∉ F) (h2 : z + 1 + 1 ∉ F) : FailBlk w' z y n k :=
  ⟨(ho.block _ (heap_lt h.f0) h0).trans h.f0, (ho.block _ (heap_lt h.f1) h1).trans h.f1, (ho.block _ (heap_lt h.f2) h2).trans h.f2⟩
theorem FailBlk.drew {w : World} {z : Nat} {y : ByteArray} {n k : Int} (h : FailBlk w z y n k) : FailBlk w.drew z y n k := ⟨h.f0, h.f1, h.f2⟩
theorem FailBlk.new (w : World) (y : ByteArray) (n k : Int) : FailBlk (((w.alloc (.cells #[.string y] 9)).alloc (.cells #[.int .i64 n] 3)).alloc (.cells #[.slice (some ⟨w.heap.size, 0, none⟩) 1 1, .slice (some ⟨w.heap.size + 1, 0, none⟩) 1 1, .int .i64 k] 107)) w.heap.size y n k := by
  refine ⟨?_, ?_, ?_⟩
  · rw [Below.heap_alloc _ _ _ (by simp; omega), Below.heap_alloc _ _ _ (by simp)]; exact heap_alloc_new w _
  · rw [Below.heap_alloc _ _ _ (by simp)]
    have := heap_alloc_new (w.alloc (.cells #[.string y] 9)) (.cells #[.int .i64 n] 3)
    simp only [World.size_alloc] at this; exact this
  · have := heap_alloc_new ((w.alloc (.cells #[.string y] 9)).alloc (.cells #[.int .i64 n] 3)) (.cells #[.slice (some ⟨w.heap.size, 0, none⟩) 1 1, .slice (some ⟨w.heap.size + 1, 0, none⟩) 1 1, .int .i64 k] 107)
    simp only [World.size_alloc] at this; exact this
theorem ErrBlk.errAt {W : World} {x : Nat} {y : ByteArray} {n k : Int} (h : ErrBlk W x y n k) : ErrAt W (.iface 108 (.pointer (some ⟨x, 0, none⟩))) [(y, n)] k :=
  .place _ y n (.iface 55 (.int .i64 k)) [] k (by rw [cells_of h]; rfl) (by rw [cells_of h]; rfl) (by rw [cells_of h]; rfl) (.kind k)
theorem FailBlk.failAt {W : World} {z : Nat} {y : ByteArray} {n k : Int} (h : FailBlk W z y n k) : FailAt W (.pointer (some ⟨z + 1 + 1, 0, none⟩)) [(y, n)] k := by
  refine ⟨z + 1 + 1, z, z + 1, 1, 1, rfl, by rw [cells_of h.f2]; rfl, by rw [cells_of h.f2]; rfl, by rw [cells_of h.f2]; rfl, ?_, ?_⟩
  · intro j hj
    obtain rfl : j = 0 := by simpa using hj
    rw [cells_of h.f0]; rfl
  · intro j hj
    obtain rfl : j = 0 := by simpa using hj
    rw [cells_of h.f1]; rfl
theorem same_blk {W : World} {x z : Nat} {y : ByteArray} {n k : Int} (hE : ErrBlk W x y n k) (hF : FailBlk W z y n k) (h1 : 1 ≤ k) (h10 : k ≤ 10) (hg : ErrType W) :
    Calls Tryd.prog 14 #[.iface 108 (.pointer (some ⟨x, 0, none⟩)), .pointer (some ⟨z + 1 + 1, 0, none⟩)] W fun e w' => e = .returned (.bool true) ∧ Below W.heap.size W w' :=
  same_any _ _ _ k hE.errAt hF.failAt (by simp) h1 h10 hg
theorem below_alloc4 (w : World) (o1 o2 o3 o4 : Obj) : Below w.heap.size w ((((w.alloc o1).alloc o2).alloc o3).alloc o4) :=
  ((((Below.refl _ _).alloc (Nat.le_refl _) _).alloc (by simp) _).alloc (by simp; omega) _).alloc (by simp; omega) _
theorem only_alloc3 (w : World) (o2 o3 o4 : Obj) : Only [] w (((w.alloc o2).alloc o3).alloc o4) := ((((Only.refl [] w).alloc o2).alloc o3).alloc o4)
/-- The memory's error and the Fail of the same, laid one behind the other. -/
theorem same_new (y : ByteArray) (n k : Int) (h1 : 1 ≤ k) (h10 : k ≤ 10) (w : World) (hg : ErrType w) :
    Calls Tryd.prog 14 #[.iface 108 (.pointer (some ⟨w.heap.size, 0, none⟩)), .pointer (some ⟨w.heap.size + 1 + 1 + 1, 0, none⟩)]
      ((((w.alloc (.cells #[.string y, .int .i64 n, .iface 55 (.int .i64 k)] 112)).alloc (.cells #[.string y] 9)).alloc (.cells #[.int .i64 n] 3)).alloc (.cells #[.slice (some ⟨w.heap.size + 1, 0, none⟩) 1 1, .slice (some ⟨w.heap.size + 1 + 1, 0, none⟩) 1 1, .int .i64 k] 107))
      fun e w' => e = .returned (.bool true) ∧ Below w.heap.size w w' := by
  have hF := FailBlk.new (w.alloc (.cells #[.string y, .int .i64 n, .iface 55 (.int .i64 k)] 112)) y n k
  have hE := (ErrBlk.new w y n k).only (only_alloc3 _ (.cells #[.string y] 9) (.cells #[.int .i64 n] 3) (.cells #[.slice (some ⟨w.heap.size + 1, 0, none⟩) 1 1, .slice (some ⟨w.heap.size + 1 + 1, 0, none⟩) 1 1, .int .i64 k] 107)) (by simp)
  simp only [World.size_alloc] at hF
  have hb := below_alloc4 w (.cells #[.string y, .int .i64 n, .iface 55 (.int .i64 k)] 112) (.cells #[.string y] 9) (.cells #[.int .i64 n] 3) (.cells #[.slice (some ⟨w.heap.size + 1, 0, none⟩) 1 1, .slice (some ⟨w.heap.size + 1 + 1, 0, none⟩) 1 1, .int .i64 k] 107)
  refine (same_blk hE hF h1 h10 (errType_below hb hg (cell_lt hg))).mono ?_
  rintro e w' ⟨rfl, h⟩
  exact ⟨rfl, hb.trans (h.mono (by simp; omega))⟩
theorem errType_only {F : List Nat} {w w' : World} (ho : Only F w w') (hF : 0 ∉ F) (h : ErrType w) : ErrType w' := by
  have hl := cell_lt h
  unfold ErrType at *
  rw [World.cell?_of_block (w := w) (w' := w') (a := ⟨0, 0, none⟩) (ho.block _ hl hF)]; exact h
end Go.Proofs.YtobbmhboahognaaDoor
