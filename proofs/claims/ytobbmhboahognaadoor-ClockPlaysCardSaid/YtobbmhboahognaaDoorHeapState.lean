/- A queue in memory (layer 7): what it is; what a call may leave; a queue that is new. -/
import Derived.Test.YtobbmhboahognaaDoorHeapSettle2
import Derived.Laws.AppendOwnNone
import Derived.Deep.RegionLaw
namespace Go.Proofs.YtobbmhboahognaaDoor
open Go.RowKit
set_option linter.unusedVariables false

/-- At block b lies a queue with these items; its map is block mb, its row in a block from N on; last is its last handle. -/
structure HeapAt (W : World) (b mb N : Nat) (v : Value) (c : Nat) (L : List Itm) (last : Nat) : Prop where
  row : Row W b [v, .map (some mb), .int .i64 last]
  own : W.ownsRow N 171 3 v L.length (flatI L)
  pos : ∃ f, PosIs W mb c f ∧ PosAll L f
  heap : Heaped L
  dist : Distinct L
  hs : ∀ x ∈ L, 1 ≤ x.h ∧ x.h ≤ last
  bN : b < N
  mN : mb < N
  NW : N ≤ W.heap.size
section
variable {W W' : World} {b mb N c : Nat} {v : Value} {L : List Itm} {last : Nat}
theorem ownsRow_only {F : List Nat} {W W' : World} {B : Nat} {t : TypeId} {s : Nat} {v : Value} {n : Nat} {xs : List Value} (h : W.ownsRow B t s v n xs) (ho : Only F W W') (hF : ∀ k, v.ownBlock = some k → k ∉ F) : W'.ownsRow B t s v n xs := by
  refine ⟨h.1, ?_⟩
  rcases h.2 with hn | ⟨g, cap, cur, rfl, hb, hgg, rest⟩
  · exact .inl hn
  · exact .inr ⟨g, cap, cur, rfl, hb, (ho.block g (Array.getElem?_eq_some_iff.1 hgg).1 (hF g rfl)).trans hgg, rest⟩
theorem HeapAt.only {F : List Nat} (h : HeapAt W b mb N v c L last) (ho : Only F W W') (h1 : b ∉ F) (h2 : mb ∉ F) (h3 : ∀ k, v.ownBlock = some k → k ∉ F) : HeapAt W' b mb N v c L last := by
  obtain ⟨f, hp, hf⟩ := h.pos
  exact ⟨h.row.only ho h1, ownsRow_only h.own ho h3, ⟨f, hp.block (ho.block mb hp.lt h2), hf⟩, h.heap, h.dist, h.hs, h.bN, h.mN, Nat.le_trans h.NW ho.size⟩
theorem HeapAt.below (h : HeapAt W b mb N v c L last) (hb : Below W.heap.size W W') : HeapAt W' b mb N v c L last := h.only (F := []) (Only.of_below hb) (by simp) (by simp) (fun _ _ => by simp)
theorem HeapAt.c0 (h : HeapAt W b mb N v c L last) : W.cell? ⟨b, 0, none⟩ = some v := h.row.cell 0 (by simp)
theorem HeapAt.c1 (h : HeapAt W b mb N v c L last) : W.cell? ⟨b, 1, none⟩ = some (.map (some mb)) := h.row.cell 1 (by simp)
theorem HeapAt.c2 (h : HeapAt W b mb N v c L last) : W.cell? ⟨b, 2, none⟩ = some (.int .i64 last) := h.row.cell 2 (by simp)
/-- The row, where there is an item. -/
theorem HeapAt.rowAt (h : HeapAt W b mb N v c L last) (hl : 0 < L.length) : ∃ g cap, v = .slice (some ⟨g, 0, none⟩) L.length cap ∧ N ≤ g ∧ IRow W g cap L := by
  rcases h.own.2 with ⟨_, e⟩ | ⟨g, cap, cur, rfl, hb, hgg, hn, hm, hs, ht⟩
  · omega
  · exact ⟨g, cap, rfl, hb, cur, hgg, hs, hn, hm, ht⟩
/-- Nil, or a row. -/
theorem HeapAt.two (h : HeapAt W b mb N v c L last) : (v = .slice none 0 0 ∧ L = []) ∨ ∃ g cap, v = .slice (some ⟨g, 0, none⟩) L.length cap ∧ N ≤ g ∧ IRow W g cap L := by
  rcases h.own.2 with ⟨e1, e2⟩ | ⟨g, cap, cur, rfl, hb, hgg, hn, hm, hs, ht⟩
  · exact .inl ⟨e1, List.eq_nil_of_length_eq_zero e2⟩
  · exact .inr ⟨g, cap, rfl, hb, cur, hgg, hs, hn, hm, ht⟩
theorem IRow.owns {g cap : Nat} (h : IRow W g cap L) (hN : N ≤ g) : W.ownsRow N 171 3 (.slice (some ⟨g, 0, none⟩) L.length cap) L.length (flatI L) := by
  obtain ⟨cur, h1, h2, h3, h4, h5⟩ := h
  exact ⟨flatI_length L, .inr ⟨g, cap, cur, rfl, hN, h1, h3, h4, h2, h5⟩⟩
end

/-- A call turned the queue's own blocks alone, and left it with these items. -/
structure Turned (W : World) (b mb N : Nat) (v : Value) (c : Nat) (W' : World) (v' : Value) (c' : Nat) (L' : List Itm) (last' : Nat) : Prop where
  at1 : HeapAt W' b mb N v' c' L' last'
  jump : ∀ k, v'.ownBlock = some k → v.ownBlock = some k ∨ W.heap.size ≤ k
  only : Only (b :: mb :: v.ownBlock.toList) W W'

set_option maxHeartbeats 1000000 in
theorem new_any (w : World) : Calls Tryd.prog 54 #[] w fun e w' => e = .returned (.pointer (some ⟨w.heap.size + 1, 0, none⟩)) ∧ HeapAt w' (w.heap.size + 1) w.heap.size (w.heap.size + 2) (.slice none 0 0) 0 [] 0 ∧ Below w.heap.size w w' := by
  have hmm := @run_makeMap Tryd.prog
  have H1 : Row ((w.alloc (.map #[] 0)).alloc (.cells #[.slice none 0 0, .map (some w.heap.size), .int .i64 0] 168)) (w.heap.size + 1) [.slice none 0 0, .map (some w.heap.size), .int .i64 0] := by
    have := Row.new (w.alloc (.map #[] 0)) [.slice none 0 0, .map (some w.heap.size), .int .i64 0] 168
    rwa [World.size_alloc] at this
  have H2 : PosIs ((w.alloc (.map #[] 0)).alloc (.cells #[.slice none 0 0, .map (some w.heap.size), .int .i64 0] 168)) w.heap.size 0 (fun _ => none) := (PosIs.made w).block (Below.heap_alloc _ _ _ (by simp))
  have FIN := Lib.hid (show HeapAt ((w.alloc (.map #[] 0)).alloc (.cells #[.slice none 0 0, .map (some w.heap.size), .int .i64 0] 168)) (w.heap.size + 1) w.heap.size (w.heap.size + 2) (.slice none 0 0) 0 [] 0 ∧ Below w.heap.size w ((w.alloc (.map #[] 0)).alloc (.cells #[.slice none 0 0, .map (some w.heap.size), .int .i64 0] 168)) from
    ⟨⟨H1, World.ownsRow_nil _ _ _ _, ⟨_, H2, fun k i => by simp⟩, fun i _ hi => by simp at hi, fun i j hi => by simp at hi, by simp, by omega, by omega, by simp⟩, ((Below.refl _ w).alloc (Nat.le_refl _) _).alloc (by simp) _⟩)
  clear H1 H2
  go_enter Tryd.func54, Tryd.ntmps54
  go_wp2
  go_ret
  exact ⟨rfl, FIN.out⟩

/-- What First tells. -/
def firstV (L : List Itm) : Value := if L = [] then .tuple #[.int .u64 0, .int .u64 0, .bool false] else .tuple #[.int .u64 (at_ L 0).d, .int .u64 (at_ L 0).w, .bool true]
set_option maxHeartbeats 1000000 in
theorem first_any {w : World} {b mb N c : Nat} {v : Value} {L : List Itm} {last : Nat} (h : HeapAt w b mb N v c L last) (hl : L.length < 1073741824) : Calls Tryd.prog 88 #[.pointer (some ⟨b, 0, none⟩)] w fun e w' => e = .returned (firstV L) ∧ Below w.heap.size w w' := by
  have c0 := h.c0
  unfold firstV
  by_cases h0 : L = []
  · rw [if_pos h0]
    subst h0
    rcases h.two with ⟨rfl, _⟩ | ⟨g, cap, rfl, hN, hr⟩
    all_goals
      go_enter Tryd.func88, Tryd.ntmps88
      go_wp2
      go_ret3
      exact ⟨rfl, Below.refl _ _⟩
  · rw [if_neg h0]
    have hl0 : 0 < L.length := List.length_pos_iff.2 h0
    obtain ⟨g, cap, rfl, hN, hr⟩ := h.rowAt hl0
    obtain ⟨p0, p1, p2⟩ := hr.at3 0 hl0
    obtain ⟨x, hx⟩ : ∃ x, x = at_ L 0 := ⟨_, rfl⟩
    rw [← hx] at p0 p1 p2 ⊢
    obtain ⟨n, hn⟩ : ∃ n, n = L.length := ⟨_, rfl⟩
    rw [← hn] at c0 hl hl0 
    obtain ⟨x0, x1, x2⟩ := x
    have hnz : ((n : Int) == 0) = false := by simp; omega
    have hn0 : (0 : Int) < (n : Int) := by omega
    clear hn h hr hx h0
    dsimp only at p0 p1 p2 ⊢
    go_enter Tryd.func88, Tryd.ntmps88
    go_wp2
    go_region
    all_goals
      go_wp2
      go_ret3
      exact ⟨rfl, (Below.refl _ _).drew⟩
end Go.Proofs.YtobbmhboahognaaDoor
