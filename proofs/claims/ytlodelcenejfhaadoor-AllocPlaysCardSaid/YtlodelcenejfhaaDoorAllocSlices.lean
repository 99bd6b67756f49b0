/- The library's Clone at a slice of blocks (layer 3): a slice of new memory that holds the same; and what a slice of blocks in memory of the program's own is. The condition: the slice lies there, with fewer than 2^31 elements. -/
import Derived.Test.YtlodelcenejfhaaDoorAlloc
import Derived.Laws.CopyOwn
import Derived.Laws.AppendOwnNone
import Derived.Deep.RegionLaw
import Derived.Lib.Overlaps
import Derived.Lib.Slices
namespace Go.Proofs.YtlodelcenejfhaaDoor
open Go.RowKit Go.Shelf
set_option linter.unusedVariables false

theorem info_blk : (Tryd.prog.info? 65).map (fun i => (i.zero, i.size, i.bytes)) = some (some (.agg #[.int .i64 0, .int .i64 0, .int .i64 0]), 3, 24) := by kernel_rfl
theorem add0 (g j : Nat) : (⟨g, 0, none⟩ : Addr).add j = ⟨g, j, none⟩ := by unfold Addr.add; split <;> simp_all

theorem eql_nil (w : World) (a : Option Addr) (n c n' c' : Nat) : (binOp .eql 58 (.slice a n c) (.slice none n' c')).run Tryd.prog w = .ok (.bool a.isNone) w := Lib.run_eql_slice_nil w _ _ a n c n' c' Tryd.underlying58
/-- What Clone leaves. -/
def ClonePost (n : Nat) (xs : List Value) (w : World) (e : Ending) (w' : World) : Prop := ∃ v', e = .returned v' ∧ w'.ownsRow w.heap.size 65 3 v' n xs ∧ Below w.heap.size w w'

set_option maxRecDepth 100000 in
set_option maxHeartbeats 1000000 in
theorem clone_nil (w : World) : Calls Tryd.prog 62 #[.slice none 0 0] w (ClonePost 0 [] w) := by
  have q := eql_nil
  go_enter Tryd.func62, Tryd.ntmps62
  go_wp2
  go_ret
  exact ⟨_, rfl, World.ownsRow_nil _ _ _ _, Below.refl _ _⟩
set_option maxRecDepth 100000 in
set_option maxHeartbeats 1000000 in
theorem clone_some (g n cap : Nat) (xs : List Value) (hl : xs.length = n * 3) (h1 : ∀ u ∈ xs, u.oneCell' = true) (hs : n < 2147483648) (w : World) (hg : g < w.heap.size) (hc : ∀ j u, xs[j]? = some u → w.cell? ⟨g, j, none⟩ = some u) :
    Calls Tryd.prog 62 #[.slice (some ⟨g, 0, none⟩) n cap] w (ClonePost n xs w) := by
  have q := eql_nil
  obtain ⟨i0, hi, hz0, hz1, hz2⟩ := info_parts info_blk
  have HC := Lib.hid hc
  have HL := Lib.hid hl
  have H1 := Lib.hid h1
  have HI := Lib.hid (And.intro hi (And.intro hz0 (And.intro hz1 hz2)))
  clear hc hl h1 hi hz0 hz1 hz2
  go_enter Tryd.func62, Tryd.ntmps62
  go_wp2_with (at_builtin; refine wpList_append_own _ rfl _ _ 58 rfl w.heap.size 65 i0 _ 3 24 Tryd.underlying58 HI.out.1 HI.out.2.1 HI.out.2.2.1 HI.out.2.2.2 rfl (by decide) _ 0 [] rfl (World.ownsRow_made w #[] 0 (Nat.le_refl _) (by simp) rfl) ⟨g, 0, none⟩ n cap xs rfl HL.out (fun j u hu => by rw [add0, World.cell?_alloc_lt _ _ ⟨g, j, none⟩ hg]; exact HC.out j u hu) H1.out (by simp only [maxLen]; omega) (by omega) (by simp) ?_; intro v' w1 hown hgrow _)
  have HO := Lib.hid hown
  clear hown
  go_ret
  exact ⟨_, rfl, by have := HO.out; simpa using this, ((Below.refl _ w).alloc (Nat.le_refl _) _).grown hgrow (by simp) (fun k e => by cases e; exact Nat.le_refl _)⟩
/-- Clone of an allocator's blocks. -/
theorem clone_any {w : World} {B : Nat} {v : Value} {L : List Blk} (h : w.ownsRow B 65 3 v L.length (flat L)) (hs : L.length < 2147483648) :
    Calls Tryd.prog 62 #[v] w (ClonePost L.length (flat L) w) := by
  have h' := h
  rcases h.2 with ⟨rfl, e⟩ | ⟨g, cap, cur, rfl, hb, hgg, hn, hm, hsz, ht⟩
  · obtain rfl : L = [] := List.eq_nil_of_length_eq_zero e
    exact clone_nil w
  · exact clone_some g L.length cap (flat L) (flat_length L) (flat_one L) hs w (Array.getElem?_eq_some_iff.1 hgg).1 (fun j u hu => by have := h'.cells (g := g) rfl j u hu; rwa [add0] at this)
end Go.Proofs.YtlodelcenejfhaaDoor
