/- A queue as a list in order (layer 7): what each call does to that list. The conditions: the queue is not too long, its last handle not too great, and its map has room. -/
import Derived.Test.YtobbmhboahognaaDoorHeapTake
namespace Go.Proofs.YtobbmhboahognaaDoor
open Go.RowKit
set_option linter.unusedVariables false

def Sorted (S : List Itm) : Prop := S.Pairwise ltI
/-- x is laid behind those that come earlier. -/
def insI : List Itm → Itm → List Itm
  | [], x => [x]
  | y :: S, x => if ltI x y then x :: y :: S else y :: insI S x
theorem insI_perm (S : List Itm) (x : Itm) : (insI S x).Perm (x :: S) := by
  induction S with
  | nil => exact List.Perm.refl _
  | cons y S ih =>
    unfold insI
    split
    · exact List.Perm.refl _
    · exact (ih.cons y).trans (List.Perm.swap x y S)
theorem insI_sorted {S : List Itm} (h : Sorted S) (x : Itm) (hx : ∀ y ∈ S, y.h ≠ x.h) : Sorted (insI S x) := by
  induction S with
  | nil => simp [insI, Sorted]
  | cons y S ih =>
    obtain ⟨h1, h2⟩ := List.pairwise_cons.1 h
    unfold insI
    split
    · rename_i hlt
      refine List.pairwise_cons.2 ⟨fun z hz => ?_, h⟩
      rcases List.mem_cons.1 hz with rfl | hz
      · exact hlt
      · have := h1 z hz; unfold ltI at *; omega
    · rename_i hlt
      refine List.pairwise_cons.2 ⟨fun z hz => ?_, ih h2 (fun z hz => hx z (List.mem_cons_of_mem _ hz))⟩
      rcases List.mem_cons.1 ((insI_perm S x).mem_iff.1 hz) with rfl | hz
      · have := hx y (by simp); unfold ltI at *; omega
      · exact h1 z hz
theorem sorted_head {L S : List Itm} {y : Itm} (hh : Heaped L) (hp : L.Perm (y :: S)) (hs : Sorted (y :: S)) : at_ L 0 = y := by
  have hl : 0 < L.length := by rw [hp.length_eq]; simp
  have hy : y ∈ L := hp.mem_iff.2 (by simp)
  obtain ⟨j, hj, e⟩ := List.mem_iff_getElem.1 hy
  have h1 := hh.min j hj
  rw [at_get _ _ hj, e] at h1
  have h0 : at_ L 0 ∈ y :: S := hp.mem_iff.1 (by rw [at_get _ _ hl]; exact List.getElem_mem _)
  rcases List.mem_cons.1 h0 with h0 | h0
  · exact h0
  · exact absurd ((List.pairwise_cons.1 hs).1 _ h0) h1

/-- At block b lies a queue whose items are, in order, S. -/
def HeapIs (W : World) (b mb N : Nat) (v : Value) (c : Nat) (S : List Itm) (last : Nat) : Prop := ∃ L, HeapAt W b mb N v c L last ∧ L.Perm S ∧ Sorted S
structure Led (W : World) (b mb N : Nat) (v : Value) (W' : World) (v' : Value) (c' : Nat) (S' : List Itm) (last' : Nat) : Prop where
  at1 : HeapIs W' b mb N v' c' S' last'
  jump : ∀ k, v'.ownBlock = some k → v.ownBlock = some k ∨ W.heap.size ≤ k
  only : Only (b :: mb :: v.ownBlock.toList) W W'
section
variable {W W' : World} {b mb N c : Nat} {v : Value} {S : List Itm} {last : Nat}
theorem HeapIs.only {F : List Nat} (h : HeapIs W b mb N v c S last) (ho : Only F W W') (h1 : b ∉ F) (h2 : mb ∉ F) (h3 : ∀ k, v.ownBlock = some k → k ∉ F) : HeapIs W' b mb N v c S last := by
  obtain ⟨L, hL, hp, hs⟩ := h
  exact ⟨L, hL.only ho h1 h2 h3, hp, hs⟩
theorem HeapIs.below (h : HeapIs W b mb N v c S last) (hb : Below W.heap.size W W') : HeapIs W' b mb N v c S last := h.only (F := []) (Only.of_below hb) (by simp) (by simp) (fun _ _ => by simp)
theorem HeapIs.mono {d : Nat} (h : HeapIs W b mb N v c S last) (hc : c ≤ d) : HeapIs W b mb N v d S last := by
  obtain ⟨L, hL, hp, hs⟩ := h
  obtain ⟨f, q1, q2⟩ := hL.pos
  exact ⟨L, ⟨hL.row, hL.own, ⟨f, q1.mono hc, q2⟩, hL.heap, hL.dist, hL.hs, hL.bN, hL.mN, hL.NW⟩, hp, hs⟩
theorem HeapIs.own (h : HeapIs W b mb N v c S last) : ∀ k, v.ownBlock = some k → N ≤ k ∧ k < W.heap.size := by
  obtain ⟨L, hL, hp, hs⟩ := h
  exact hL.own.lt
theorem HeapIs.hs (h : HeapIs W b mb N v c S last) : ∀ x ∈ S, 1 ≤ x.h ∧ x.h ≤ last := by
  obtain ⟨L, hL, hp, hs⟩ := h
  exact fun x hx => hL.hs x (hp.mem_iff.2 hx)
theorem HeapIs.sorted (h : HeapIs W b mb N v c S last) : Sorted S := by obtain ⟨L, hL, hp, hs⟩ := h; exact hs
theorem HeapIs.facts (h : HeapIs W b mb N v c S last) : b < N ∧ mb < N ∧ N ≤ W.heap.size ∧ b < W.heap.size := by obtain ⟨L, hL, hp, hs⟩ := h; exact ⟨hL.bN, hL.mN, hL.NW, hL.row.lt⟩
theorem Led.same (h : HeapIs W b mb N v c S last) (hb : Below W.heap.size W W') : Led W b mb N v W' v c S last := ⟨h.below hb, fun k hk => .inl hk, Only.of_below hb⟩

theorem Led.drewN {v' : Value} {c' last' : Nat} {S' : List Itm} (h : Led W b mb N v W' v' c' S' last') (n : Nat) : Led W b mb N v (W'.drewN n) v' c' S' last' :=
  ⟨h.at1.only (F := []) ((Only.refl _ _).drewN n) (by simp) (by simp) (fun _ _ => by simp), h.jump, h.only.drewN n⟩

theorem newS (w : World) : Calls Tryd.prog 54 #[] w fun e w' => e = .returned (.pointer (some ⟨w.heap.size + 1, 0, none⟩)) ∧ HeapIs w' (w.heap.size + 1) w.heap.size (w.heap.size + 2) (.slice none 0 0) 0 [] 0 ∧ Below w.heap.size w w' :=
  (new_any w).mono fun _ _ ⟨h1, h2, h3⟩ => ⟨h1, ⟨[], h2, List.Perm.refl _, List.Pairwise.nil⟩, h3⟩
def PutS (W : World) (b mb N : Nat) (v : Value) (c : Nat) (S : List Itm) (last : Nat) (x : Itm) (e : Ending) (W' : World) : Prop := e = .returned (.int .i64 ((last : Int) + 1)) ∧ ∃ v', Led W b mb N v W' v' (c + 2 * S.length + 3) (insI S x) (last + 1)
theorem putS (h : HeapIs W b mb N v c S last) (d u : Int) (hl : S.length < 1073741822) (hlast : last < 1073741823) (hc : c + 2 * S.length + 2 < maxLen) :
    Calls Tryd.prog 61 #[.pointer (some ⟨b, 0, none⟩), .int .u64 d, .int .u64 u] W (PutS W b mb N v c S last ⟨d, u, (last : Int) + 1⟩) := by
  have hhs := h.hs
  obtain ⟨L, hL, hp, hs⟩ := h
  have hle := hp.length_eq
  refine (put_any hL d u (by omega) hlast (by omega)).mono ?_
  rintro e w' ⟨rfl, v', c', L', ht, hp', hc'⟩
  refine ⟨rfl, v', HeapIs.mono ⟨L', ht.at1, hp'.trans ((hp.cons _).trans (insI_perm S _).symm), insI_sorted hs _ (fun y hy => ?_)⟩ (by omega), ht.jump, ht.only⟩
  have := hhs y hy
  show y.h ≠ (last : Int) + 1
  omega
def TakeS (W : World) (b mb N : Nat) (v : Value) (c : Nat) (n last : Nat) (u : Int) (S' : List Itm) (e : Ending) (W' : World) : Prop := e = .returned (.tuple #[.int .u64 u, .bool true]) ∧ ∃ v', Led W b mb N v W' v' (c + 2 * n + 1) S' last
theorem popS_yes {y : Itm} {T : List Itm} (h : HeapIs W b mb N v c (y :: T) last) (now : Int) (hy : y.d ≤ now) (hl : (y :: T).length < 1073741824) (hlast : last < 1073741824) (hc : c + 2 * (y :: T).length < maxLen) :
    Calls Tryd.prog 58 #[.pointer (some ⟨b, 0, none⟩), .int .u64 now] W (TakeS W b mb N v c (y :: T).length last y.w T) := by
  obtain ⟨L, hL, hp, hs⟩ := h
  have hle := hp.length_eq
  have h0 := sorted_head hL.heap hp hs
  have hne : L.isEmpty = false := by cases L with
    | nil => simp at hle
    | cons => rfl
  refine (pop_yes hL now (by omega) hlast (by omega) (by unfold popsB; rw [hne, h0]; simpa using hy)).mono ?_
  rintro e w' ⟨w1, hb, rfl, v', c', L', ht, hp', hc'⟩
  rw [h0] at hp' ⊢
  refine ⟨rfl, v', HeapIs.mono ⟨L', ht.at1, (hp'.trans hp).cons_inv, (List.pairwise_cons.1 hs).2⟩ (by omega), fun k hk => ?_, (Only.of_below hb).trans ht.only⟩
  rcases ht.jump k hk with h | h
  · exact .inl h
  · exact .inr (Nat.le_trans hb.size h)
theorem popS_no (h : HeapIs W b mb N v c S last) (now : Int) (hn : ∀ y T, S = y :: T → now < y.d) (hl : S.length < 1073741824) :
    Calls Tryd.prog 58 #[.pointer (some ⟨b, 0, none⟩), .int .u64 now] W fun e w' => e = .returned (.tuple #[.int .u64 0, .bool false]) ∧ Below W.heap.size W w' := by
  obtain ⟨L, hL, hp, hs⟩ := h
  have hle := hp.length_eq
  refine pop_no hL now (by omega) ?_
  unfold popsB
  cases S with
  | nil =>
    have : L = [] := List.eq_nil_of_length_eq_zero (by simpa using hle)
    subst this; rfl
  | cons y T =>
    rw [sorted_head hL.heap hp hs]
    have := hn y T rfl
    simp; intro _; omega
def firstW (S : List Itm) : Value := match S with
  | [] => .tuple #[.int .u64 0, .int .u64 0, .bool false]
  | y :: _ => .tuple #[.int .u64 y.d, .int .u64 y.w, .bool true]
theorem firstS (h : HeapIs W b mb N v c S last) (hl : S.length < 1073741824) : Calls Tryd.prog 88 #[.pointer (some ⟨b, 0, none⟩)] W fun e w' => e = .returned (firstW S) ∧ Below W.heap.size W w' := by
  obtain ⟨L, hL, hp, hs⟩ := h
  have hle := hp.length_eq
  refine (first_any hL (by omega)).mono ?_
  rintro e w' ⟨rfl, hb⟩
  refine ⟨?_, hb⟩
  unfold firstV
  cases S with
  | nil =>
    have : L = [] := List.eq_nil_of_length_eq_zero (by simpa using hle)
    subst this; rfl
  | cons y T =>
    rw [sorted_head hL.heap hp hs, if_neg (by rintro rfl; simp at hle)]; rfl
end
end Go.Proofs.YtobbmhboahognaaDoor
