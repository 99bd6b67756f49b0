/- What the walks of layer 3's laws share: the state through a law's rounds, and what a law's last line finds. -/
import Derived.Test.YtlodelcenejfhaaDoorAllocTold
import Derived.Test.YtlodelcenejfhaaDoorKeepWithin
import Derived.Test.YtlodelcenejfhaaDoorLawClose
namespace Go.Proofs.YtlodelcenejfhaaDoor
open Go.RowKit Go.Shelf
set_option linter.unusedVariables false

/-- The state through a law's rounds: a room of 100 cells, beyond what the law found. -/
structure Run (w0 W : World) (a mb mc B : Nat) (v : Value) (L : List Blk) (m : Cells) : Prop where
  r : Rm W a mb mc B v L m
  len : m.ws.length = 100
  b : Below w0.heap.size w0 W
  h1 : w0.heap.size ≤ a
  h2 : w0.heap.size ≤ mb
  h3 : w0.heap.size ≤ mc
  h4 : w0.heap.size ≤ B
/-- Some state of it. -/
def Runs (w0 W : World) (a mb mc B : Nat) : Prop := ∃ v L m, Run w0 W a mb mc B v L m
section
variable {w0 W : World} {a mb mc B : Nat} {v : Value} {L : List Blk} {m : Cells}
theorem Run.below {W' : World} (h : Run w0 W a mb mc B v L m) (hb : Below W.heap.size W W') : Run w0 W' a mb mc B v L m := ⟨h.r.below hb, h.len, h.b.trans (hb.mono h.b.size), h.h1, h.h2, h.h3, h.h4⟩
theorem Run.next {W' : World} {v' : Value} {L' : List Blk} {m' : Cells} (h : Run w0 W a mb mc B v L m) (hr : Rm W' a mb mc B v' L' m') (hl : (m'.ws.length : Int) = m.ws.length) (ho : Only (a :: mb :: mc :: v.ownBlock.toList) W W') : Run w0 W' a mb mc B v' L' m' :=
  ⟨hr, by have := h.len; omega, h.b.trans (only_below ho h.r.al.own h.h1 h.h2 h.h3 h.h4 h.b.size), h.h1, h.h2, h.h3, h.h4⟩
theorem Runs.get (h : Runs w0 W a mb mc B) (n k : Int) : Calls Tryd.prog 22 #[.pointer (some ⟨a, 0, none⟩), .int .i64 n, .int .i64 k] W fun en w' => (∃ r, en = .returned (.tuple r)) ∧ Runs w0 w' a mb mc B := by
  obtain ⟨v, L, m, h⟩ := h
  refine (rm_get h.r n k).mono ?_
  rintro en w' ⟨r0, ty, r1, rfl, _, L', _, v', m', hr, hl, hj, ho⟩
  exact ⟨⟨_, rfl⟩, v', L', m', h.next hr hl ho⟩
theorem Runs.put (h : Runs w0 W a mb mc B) (x : Int) : Calls Tryd.prog 16 #[.pointer (some ⟨a, 0, none⟩), .int .i64 x] W fun en w' => (∃ r, en = .returned r) ∧ Runs w0 w' a mb mc B := by
  obtain ⟨v, L, m, h⟩ := h
  refine (rm_put h.r x).mono ?_
  rintro en w' ⟨ty, r1, rfl, _, L', _, v', m', hr, hl, hj, ho⟩
  exact ⟨⟨_, rfl⟩, v', L', m', h.next hr hl ho⟩
theorem run_room {w : World} {e : Ending} (hp : RoomPost w e W) : ∃ a mb mc B m, e = .returned (.tuple #[.pointer (some ⟨mb, 0, none⟩), .pointer (some ⟨a, 0, none⟩)]) ∧ Run w W a mb mc B (.slice none 0 0) [] m := by
  obtain ⟨a, mb, mc, B, m, rfl, hR, hl, hb, h1, h2, h3, h4⟩ := hp
  exact ⟨a, mb, mc, B, m, rfl, hR, hl, hb, h1, h2, h3, h4⟩
end
/-- A slice of integers of the law's arguments, through the law. -/
theorem IntsIn.later {w W : World} {A : Option Addr} {zs : List Int} (h : IntsIn w .i64 A zs) (hb : Below w.heap.size w W) (k : Nat) (hk : k < zs.length) : ∃ ad, A = some ad ∧ W.cell? (ad.add k) = some (.int .i64 (zs.getD k 0)) := by
  obtain ⟨ad, e, _, hc⟩ := h.below hb k hk
  exact ⟨ad, e, hc⟩

/-- What a law's last line finds: where it began, the blocks, an error of the allocator's. -/
structure Tail (w0 W : World) (a mb mc B : Nat) (v : Value) (L : List Blk) (m : Cells) (x : Nat) (n k : Int) : Prop where
  b : Below w0.heap.size w0 W
  r : Rm W a mb mc B v L m
  x : ErrBlk W x allocS n k
  e : ErrType W
section
variable {w0 W : World} {a mb mc B : Nat} {v : Value} {L : List Blk} {m : Cells} {x : Nat} {n k : Int}
theorem Tail.below {W' : World} (h : Tail w0 W a mb mc B v L m x n k) (hb : Below W.heap.size W W') : Tail w0 W' a mb mc B v L m x n k :=
  ⟨h.b.trans (hb.mono h.b.size), h.r.below hb, h.x.only (F := []) (Only.of_below hb) (by simp), errType_below hb h.e (cell_lt h.e)⟩
theorem Tail.drew (h : Tail w0 W a mb mc B v L m x n k) : Tail w0 W.drew a mb mc B v L m x n k := h.below (Below.refl _ _).drew
theorem Tail.no (h : Tail w0 W a mb mc B v L m x n k) (n' k' : Int) : Calls Tryd.prog 28 #[.string allocS, .int .i64 n', .int .i64 k'] W fun e w' => ∃ z, e = .returned (.pointer (some ⟨z + 1 + 1, 0, none⟩)) ∧ Tail w0 w' a mb mc B v L m x n k ∧ FailBlk w' z allocS n' k' := by
  refine (no_any allocS n' k' W).mono ?_
  rintro e w' ⟨rfl, hw⟩
  refine ⟨_, rfl, h.below ?_, ?_⟩
  · rw [hw]; exact (((Below.refl _ _).alloc (Nat.le_refl _) _).alloc (by simp) _).alloc (by simp; omega) _
  · rw [hw]; exact FailBlk.new W allocS n' k'
theorem Tail.same (h : Tail w0 W a mb mc B v L m x n k) (z : Nat) (hz : FailBlk W z allocS n k) (h1 : 1 ≤ k) (h10 : k ≤ 10) : Calls Tryd.prog 15 #[.iface 89 (.pointer (some ⟨x, 0, none⟩)), .pointer (some ⟨z + 1 + 1, 0, none⟩)] W fun e w' => e = .returned (.bool true) ∧ Tail w0 w' a mb mc B v L m x n k :=
  (same_blk h.x hz h1 h10 h.e).mono fun e w' ⟨h1, h2⟩ => ⟨h1, h.below h2⟩
theorem Tail.used (h : Tail w0 W a mb mc B v L m x n k) (u : Int) (hu : usedOf L = u) : Calls Tryd.prog 29 #[.pointer (some ⟨a, 0, none⟩)] W fun e w' => e = .returned (.int .i64 u) ∧ Tail w0 w' a mb mc B v L m x n k :=
  hu ▸ h.r.al.used.mono fun e w' ⟨h1, h2⟩ => ⟨h1, h.below h2⟩
theorem Tail.widest (h : Tail w0 W a mb mc B v L m x n k) (u : Int) (hu : longest (gaps m.ws.length 0 L) = u) : Calls Tryd.prog 30 #[.pointer (some ⟨a, 0, none⟩)] W fun e w' => e = .returned (.int .i64 u) ∧ Tail w0 w' a mb mc B v L m x n k :=
  hu ▸ h.r.al.widest.mono fun e w' ⟨h1, h2⟩ => ⟨h1, h.below h2⟩
theorem Tail.awake (h : Tail w0 W a mb mc B v L m x n k) : Calls Tryd.prog 27 #[] W fun e w' => e = .returned (.bool true) ∧ Tail w0 w' a mb mc B v L m x n k :=
  (awake_any W h.e).mono fun e w' ⟨h1, h2⟩ => ⟨h1, h.below h2⟩
end

end Go.Proofs.YtlodelcenejfhaaDoor
