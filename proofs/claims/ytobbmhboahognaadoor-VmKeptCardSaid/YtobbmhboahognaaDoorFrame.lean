/- Plain words on memory, nothing of the program: a row of cells that a call may write, and a world in which nothing has turned but certain blocks. -/
import Derived.WalkKit
import Derived.WalkSpells
import Derived.WalkLawsBesides
import Derived.Lib.Hide
namespace Go.Proofs.YtobbmhboahognaaDoor
open Go.RowKit

/-- Block b's first cells are vs; they may be written. -/
structure Row (w : World) (b : Nat) (vs : List Value) : Prop where
  cell : ∀ i (h : i < vs.length), w.cell? ⟨b, i, none⟩ = some vs[i]
  free : ∀ i, i < vs.length → w.frozen? ⟨b, i, none⟩ = false
  lt : b < w.heap.size

/-- Nothing has turned but in the blocks of F, and new ones. -/
structure Only (F : List Nat) (w w' : World) : Prop where
  os : w'.os = w.os
  tape : w'.tape = w.tape
  output : w'.output = w.output
  size : w.heap.size ≤ w'.heap.size
  block : ∀ k, k < w.heap.size → k ∉ F → w'.heap[k]? = w.heap[k]?

theorem Only.refl (F : List Nat) (w : World) : Only F w w := ⟨rfl, rfl, rfl, Nat.le_refl _, fun _ _ _ => rfl⟩
theorem Only.trans {F : List Nat} {a b c : World} (h : Only F a b) (k : Only F b c) : Only F a c :=
  ⟨k.os.trans h.os, k.tape.trans h.tape, k.output.trans h.output, Nat.le_trans h.size k.size, fun i hi hn => (k.block i (Nat.lt_of_lt_of_le hi h.size) hn).trans (h.block i hi hn)⟩
theorem Only.mono {F G : List Nat} {w w' : World} (h : Only F w w') (hs : ∀ k ∈ F, k ∈ G) : Only G w w' := ⟨h.os, h.tape, h.output, h.size, fun k hk hn => h.block k hk fun hF => hn (hs k hF)⟩
theorem Only.drewN {F : List Nat} {a w : World} (h : Only F a w) (n : Nat) : Only F a (w.drewN n) := ⟨h.os, h.tape, h.output, h.size, h.block⟩
theorem Only.drew {F : List Nat} {a w : World} (h : Only F a w) : Only F a w.drew := ⟨h.os, h.tape, h.output, h.size, h.block⟩
theorem Only.alloc {F : List Nat} {a w : World} (h : Only F a w) (o : Obj) : Only F a (w.alloc o) :=
  h.trans ⟨rfl, rfl, rfl, by simp, fun k hk _ => Below.heap_alloc _ _ _ hk⟩
theorem Only.setCell {F : List Nat} {a w : World} (h : Only F a w) {p : Addr} (hp : p.block ∈ F ∨ a.heap.size ≤ p.block) (u : Value) : Only F a (w.setCell p u) :=
  ⟨h.os, h.tape, h.output, by simpa [World.setCell] using h.size, fun k hk hn => by
    have hne : k ≠ p.block := by
      intro e
      subst e
      rcases hp with hp | hp
      · exact hn hp
      · omega
    rw [Below.heap_setCell _ _ _ _ hne]
    exact h.block k hk hn⟩
theorem Only.below {F : List Nat} {B : Nat} {w w' : World} (h : Only F w w') (hF : ∀ k ∈ F, B ≤ k) (hB : B ≤ w.heap.size) : Below B w w' :=
  ⟨h.os, h.tape, h.output, h.size, fun k hk => h.block k (by omega) fun hm => by have := hF k hm; omega⟩
theorem Only.of_below {F : List Nat} {w w' : World} (h : Below w.heap.size w w') : Only F w w' := ⟨h.os, h.tape, h.output, h.size, fun k hk _ => h.block k hk⟩

theorem Row.of_block {w w' : World} {b : Nat} {vs : List Value} (h : Row w b vs) (hb : w'.heap[b]? = w.heap[b]?) : Row w' b vs := by
  refine ⟨fun i hi => ?_, fun i hi => ?_, ?_⟩
  · rw [World.cell?_of_block (w := w) (w' := w') (a := ⟨b, i, none⟩) hb]; exact h.cell i hi
  · rw [World.frozen?_of_block (w := w) (w' := w') (a := ⟨b, i, none⟩) hb]; exact h.free i hi
  · have h1 := h.lt
    rcases Nat.lt_or_ge b w'.heap.size with g | g
    · exact g
    · rw [Array.getElem?_eq_none g, Array.getElem?_eq_getElem h1] at hb; cases hb
theorem Row.only {w w' : World} {b : Nat} {vs : List Value} {F : List Nat} (h : Row w b vs) (ho : Only F w w') (hb : b ∉ F) : Row w' b vs := h.of_block (ho.block b h.lt hb)
theorem Row.below {w w' : World} {b B : Nat} {vs : List Value} (h : Row w b vs) (ho : Below B w w') (hb : b < B) : Row w' b vs := h.of_block (ho.block b hb)
theorem Row.drewN {w : World} {b : Nat} {vs : List Value} (h : Row w b vs) (n : Nat) : Row (w.drewN n) b vs := h.of_block rfl
theorem Row.drew {w : World} {b : Nat} {vs : List Value} (h : Row w b vs) : Row w.drew b vs := h.of_block rfl
theorem Row.alloc {w : World} {b : Nat} {vs : List Value} (h : Row w b vs) (o : Obj) : Row (w.alloc o) b vs := h.of_block (Below.heap_alloc _ _ _ h.lt)
theorem Row.other {w : World} {b : Nat} {vs : List Value} (h : Row w b vs) (p : Addr) (hp : b ≠ p.block) (u : Value) : Row (w.setCell p u) b vs := h.of_block (Below.heap_setCell _ _ _ _ hp)
theorem Row.set {w : World} {b : Nat} {vs : List Value} (h : Row w b vs) (i : Nat) (hi : i < vs.length) (u : Value) : Row (w.setCell ⟨b, i, none⟩ u) b (vs.set i u) := by
  refine ⟨fun j hj => ?_, fun j hj => ?_, ?_⟩
  · rw [List.length_set] at hj
    by_cases e : i = j
    · subst e
      rw [World.cell?_setCell_same _ _ _ (u := vs[i]) (h.cell i hi), List.getElem_set_self]
    · rw [World.cell?_setCell_other _ _ _ _ (by simp), h.cell j hj, List.getElem_set_ne e]
  · rw [List.length_set] at hj
    rw [World.frozen?_setCell]; exact h.free j hj
  · simpa [World.setCell] using h.lt
theorem Row.new (w : World) (vs : List Value) (t : TypeId) : Row (w.alloc (.cells vs.toArray t)) w.heap.size vs := by
  refine ⟨fun i hi => ?_, fun i hi => ?_, by simp⟩
  · rw [World.cell?_alloc_at _ _ _ _ rfl]; simp [hi]
  · exact World.frozen?_alloc_new _ _ _ _
end Go.Proofs.YtobbmhboahognaaDoor
