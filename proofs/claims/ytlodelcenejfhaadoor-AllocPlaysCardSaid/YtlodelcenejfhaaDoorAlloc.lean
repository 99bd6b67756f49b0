/- The program's blocks of cells (layer 3): how an allocator lies in memory; contracts of its errors, of New, and of the closure that tells the free ranges one by one (for every loop's body that keeps what lay ahead of the loop). The conditions: the blocks lie one behind the other between the two places. -/
import Derived.RangeFuncNested
import Derived.RangeFuncBound
import Derived.RangeFuncCalls
import Derived.RangeFuncLeaves
import Derived.Shelf.Abstract
import Derived.Shelf.RegionOpen
import Derived.OwnWalkIn
import Derived.TacticsInMore
import Derived.LoopNIn
import Derived.LoopIn
import Derived.Test.YtlodelcenejfhaaDoorProg
import Derived.Test.YtlodelcenejfhaaDoorAllocPlain
import Derived.BigQuiet
import Derived.RegionTactic
import Derived.BigRegion
namespace Go.Proofs.YtlodelcenejfhaaDoor
open Go.RowKit Go.Shelf
set_option linter.unusedVariables false

/-- "alloc". -/
def allocS : ByteArray := ⟨#[97, 108, 108, 111, 99]⟩

/-- The program's allocator lies at block a: over the memory at block mb, between frm and e, its blocks' slice is v; that lies beyond B. -/
structure AllocAt (w : World) (a mb B : Nat) (frm e : Int) (v : Value) (L : List Blk) : Prop where
  top : Row w a [.pointer (some ⟨mb, 0, none⟩), .int .i64 frm, .int .i64 e, v]
  row : w.ownsRow B 65 3 v L.length (flat L)
theorem AllocAt.c0 {w : World} {a mb B : Nat} {frm e : Int} {v : Value} {L : List Blk} (h : AllocAt w a mb B frm e v L) : w.cell? ⟨a, 0, none⟩ = some (.pointer (some ⟨mb, 0, none⟩)) := h.top.cell 0 (by simp)
theorem AllocAt.c1 {w : World} {a mb B : Nat} {frm e : Int} {v : Value} {L : List Blk} (h : AllocAt w a mb B frm e v L) : w.cell? ⟨a, 1, none⟩ = some (.int .i64 frm) := h.top.cell 1 (by simp)
theorem AllocAt.c2 {w : World} {a mb B : Nat} {frm e : Int} {v : Value} {L : List Blk} (h : AllocAt w a mb B frm e v L) : w.cell? ⟨a, 2, none⟩ = some (.int .i64 e) := h.top.cell 2 (by simp)
theorem AllocAt.c3 {w : World} {a mb B : Nat} {frm e : Int} {v : Value} {L : List Blk} (h : AllocAt w a mb B frm e v L) : w.cell? ⟨a, 3, none⟩ = some v := h.top.cell 3 (by simp)
theorem AllocAt.f3 {w : World} {a mb B : Nat} {frm e : Int} {v : Value} {L : List Blk} (h : AllocAt w a mb B frm e v L) : w.frozen? ⟨a, 3, none⟩ = false := h.top.free 3 (by simp)
theorem ownsRow_only {F : List Nat} {w w' : World} {B : Nat} {t : TypeId} {s : Nat} {v : Value} {n : Nat} {xs : List Value} (h : w.ownsRow B t s v n xs) (ho : Only F w w') (hv : ∀ g, v.ownBlock = some g → g ∉ F) : w'.ownsRow B t s v n xs := by
  refine ⟨h.1, ?_⟩
  rcases h.2 with hn | ⟨g, cap, cur, rfl, hb, hgg, rest⟩
  · exact .inl hn
  · exact .inr ⟨g, cap, cur, rfl, hb, (ho.block g (Array.getElem?_eq_some_iff.1 hgg).1 (hv g rfl)).trans hgg, rest⟩
theorem AllocAt.only {F : List Nat} {w w' : World} {a mb B : Nat} {frm e : Int} {v : Value} {L : List Blk} (h : AllocAt w a mb B frm e v L) (ho : Only F w w') (ha : a ∉ F) (hv : ∀ g, v.ownBlock = some g → g ∉ F) : AllocAt w' a mb B frm e v L :=
  ⟨h.top.only ho ha, ownsRow_only h.row ho hv⟩
theorem AllocAt.below {w w' : World} {a mb B : Nat} {frm e : Int} {v : Value} {L : List Blk} (h : AllocAt w a mb B frm e v L) (hb : Below w.heap.size w w') : AllocAt w' a mb B frm e v L :=
  h.only (F := []) (Only.of_below hb) (by simp) (fun g _ => by simp)
/-- The slice, cell by cell. -/
theorem AllocAt.cells {w : World} {a mb B : Nat} {frm e : Int} {v : Value} {L : List Blk} (h : AllocAt w a mb B frm e v L) :
    (v = .slice none 0 0 ∧ L = []) ∨ ∃ g cap, v = .slice (some ⟨g, 0, none⟩) L.length cap ∧ B ≤ g ∧ g < w.heap.size ∧ L.length ≤ cap ∧ ∀ j u, (flat L)[j]? = some u → w.cell? ⟨g, j, none⟩ = some u := by
  rcases h.row.2 with ⟨e1, e2⟩ | ⟨g, cap, cur, rfl, hb, hgg, hn, hm, hs, ht⟩
  · exact .inl ⟨e1, List.eq_nil_of_length_eq_zero e2⟩
  · refine .inr ⟨g, cap, rfl, hb, (Array.getElem?_eq_some_iff.1 hgg).1, hn, fun j u hu => ?_⟩
    rw [cell_of_row w g j cur _ (0, 0) hgg]
    rw [← ht, List.getElem?_take] at hu
    split at hu
    · simpa using hu
    · cases hu

/-- What an error of the allocator's leaves. -/
def AFaultPost (n : Int) (E : Value) (w : World) (e : Ending) (w' : World) : Prop := e = .returned (.iface 89 (.pointer (some ⟨w.heap.size, 0, none⟩))) ∧ w' = w.alloc (.cells #[.string allocS, .int .i64 n, E] 93)

set_option maxHeartbeats 400000 in
theorem afault_any (n : Int) (t : TypeId) (x : Value) (w : World) : Calls Tryd.prog 35 #[.int .i64 n, .iface t x] w (AFaultPost n (.iface t x) w) := by
  go_enter Tryd.func35, Tryd.ntmps35
  go_wp2
  go_ret
  exact ⟨rfl, rfl⟩

set_option maxHeartbeats 400000 in
theorem allocNew (mb : Nat) (frm e : Int) (h0 : 0 ≤ frm) (h1 : frm ≤ e) (w : World) : Calls Tryd.prog 13 #[.pointer (some ⟨mb, 0, none⟩), .int .i64 frm, .int .i64 e] w fun en w' =>
    en = .returned (.tuple #[.pointer (some ⟨w.heap.size, 0, none⟩), .nilIface]) ∧ w' = w.alloc (.cells #[.pointer (some ⟨mb, 0, none⟩), .int .i64 frm, .int .i64 e, .slice none 0 0] 81) := by
  go_enter Tryd.func13, Tryd.ntmps13
  go_wp2
  go_ret2
  exact ⟨rfl, rfl⟩
theorem AllocAt.new (w : World) (mb B : Nat) (frm e : Int) : AllocAt (w.alloc (.cells #[.pointer (some ⟨mb, 0, none⟩), .int .i64 frm, .int .i64 e, .slice none 0 0] 81)) w.heap.size mb B frm e (.slice none 0 0) [] :=
  ⟨Row.new w [.pointer (some ⟨mb, 0, none⟩), .int .i64 frm, .int .i64 e, .slice none 0 0] 81, World.ownsRow_nil _ _ _ _⟩

attribute [local go_sem] Oper.semAt_some

/-- A range of cells, as the loop's body is handed it. -/
abbrev encG (g : Int × Int) : Array Value := #[.int .i64 g.1, .int .i64 g.2]

/-- Of the blocks that hold cells none has turned but those of F. -/
structure KeptBut (F : List Nat) (A B : World) : Prop where
  size : A.heap.size ≤ B.heap.size
  same : ∀ (k : Nat) (o : Obj), A.heap[k]? = some o → o.isCells = true → k ∉ F → B.heap[k]? = some o
theorem KeptBut.refl (F : List Nat) (A : World) : KeptBut F A A := ⟨Nat.le_refl _, fun _ _ h _ _ => h⟩
theorem KeptBut.trans {F : List Nat} {A B C : World} (h : KeptBut F A B) (k : KeptBut F B C) : KeptBut F A C := ⟨Nat.le_trans h.size k.size, fun i o hi ho hF => k.same i o (h.same i o hi ho hF) ho hF⟩
theorem KeptBut.alloc {F : List Nat} {A B : World} (h : KeptBut F A B) (o : Obj) : KeptBut F A (B.alloc o) :=
  h.trans ⟨by simp, fun k o' hk _ _ => (Below.heap_alloc B o k (Array.getElem?_eq_some_iff.1 hk).1).trans hk⟩
theorem KeptBut.setCell {F : List Nat} {A B : World} (h : KeptBut F A B) {p : Addr} (hp : p.block ∈ F) (u : Value) : KeptBut F A (B.setCell p u) :=
  h.trans ⟨by simp [World.setCell], fun k o' hk _ hF => (Below.heap_setCell _ _ _ _ (show k ≠ p.block from fun e => hF (by rw [e]; exact hp))).trans hk⟩
theorem KeptBut.grown {F : List Nat} {A B C : World} (h : KeptBut F A B) {row : Option Nat} (hg : B.grownBy C row) (hr : ∀ k, row = some k → k ∈ F ∨ B.heap.size ≤ k) : KeptBut F A C :=
  h.trans ⟨hg.size, fun k o hk _ hF => (hg.block k (Array.getElem?_eq_some_iff.1 hk).1 (fun e => by
    rcases hr k e.symm with h1 | h1
    · exact hF h1
    · have := (Array.getElem?_eq_some_iff.1 hk).1; omega)).trans hk⟩
theorem KeptBut.cell {F : List Nat} {A B : World} (h : KeptBut F A B) {p : Addr} {u : Value} (hc : A.cell? p = some u) (hF : p.block ∉ F) : B.cell? p = some u := by
  unfold World.cell? at hc ⊢
  cases hh : A.heap[p.block]? with
  | none => rw [hh] at hc; cases hc
  | some o =>
    rw [hh] at hc
    cases o with
    | cells cs t fr => rw [h.same _ _ hh rfl hF]; exact hc
    | _ => cases hc
theorem keptBut_b {F : List Nat} {w : World} (W : World) (l : Nat) (o o' : Obj) (_ : w.heap.size ≤ l) (h : W.heap[l]? = some o) (hc : o.isCells = false) (_ : o.isWalk = false) : KeptBut F W (W.putObj l o') :=
  ⟨by simp [World.putObj], fun k x hk hx _ => (World.putObj_heap_other (fun e => by subst e; rw [h] at hk; cases hk; rw [hc] at hx; cases hx)).trans hk⟩
theorem keptBut_t {F : List Nat} {A B C : World} (h : KeptBut F A B) (k : KeptBut F B C) : KeptBut F A C := h.trans k

/-- What the blocks' slice holds; the loop's body writes blocks of F alone. -/
structure Holds (F : List Nat) (W : World) (a : Nat) (frm e : Int) (g cap : Nat) (L : List Blk) : Prop where
  c1 : W.cell? ⟨a, 1, none⟩ = some (.int .i64 frm)
  c2 : W.cell? ⟨a, 2, none⟩ = some (.int .i64 e)
  c3 : W.cell? ⟨a, 3, none⟩ = some (.slice (some ⟨g, 0, none⟩) L.length cap)
  cs : ∀ j u, (flat L)[j]? = some u → W.cell? ⟨g, j, none⟩ = some u
  la : a ∉ F
  lg : g ∉ F
theorem Holds.kept {F : List Nat} {A B : World} (h : KeptBut F A B) {a : Nat} {frm e : Int} {g cap : Nat} {L : List Blk} (k : Holds F A a frm e g cap L) : Holds F B a frm e g cap L :=
  ⟨h.cell (p := ⟨a, 1, none⟩) k.c1 k.la, h.cell (p := ⟨a, 2, none⟩) k.c2 k.la, h.cell (p := ⟨a, 3, none⟩) k.c3 k.la, fun j u hu => h.cell (p := ⟨g, j, none⟩) (k.cs j u hu) k.lg, k.la, k.lg⟩
end Go.Proofs.YtlodelcenejfhaaDoor
