/- The document's queue (layer 8: in the clock): a list in order, laid anew at each change: how it lies in memory. -/
import Derived.Test.YtobbmhboahognaaDoorHeapSpec
import Derived.Laws.AppendOwnNone
namespace Go.Proofs.YtobbmhboahognaaDoor
open Go.RowKit
set_option linter.unusedVariables false
variable {t : Int}

/-- Where an item of this deadline goes. -/
def spot (d : Int) : List Itm → Nat
  | [] => 0
  | y :: S => if y.d ≤ d then spot d S + 1 else 0
theorem spot_le (d : Int) (S : List Itm) : spot d S ≤ S.length := by
  induction S with
  | nil => simp [spot]
  | cons y S ih => unfold spot; split <;> simp <;> omega
theorem spot_before (d : Int) : ∀ (S : List Itm) (i : Nat), i < spot d S → (at_ S i).d ≤ d := by
  intro S
  induction S with
  | nil => intro i h; simp [spot] at h
  | cons y S ih =>
    intro i h
    unfold spot at h
    split at h
    · rename_i hy
      cases i with
      | zero => simpa [at_] using hy
      | succ i => have := ih i (by omega); simpa [at_] using this
    · omega
theorem spot_at (d : Int) : ∀ (S : List Itm), spot d S < S.length → d < (at_ S (spot d S)).d := by
  intro S
  induction S with
  | nil => intro h; simp at h
  | cons y S ih =>
    intro h
    unfold spot at h ⊢
    split at h
    · rename_i hy
      rw [if_pos hy]
      have := ih (by simpa using h)
      simpa [at_] using this
    · rename_i hy
      rw [if_neg hy]
      simp [at_]; omega
theorem spot_ins (x : Itm) : ∀ (S : List Itm), (∀ y ∈ S, y.h < x.h) → insI S x = S.take (spot x.d S) ++ x :: S.drop (spot x.d S) := by
  intro S
  induction S with
  | nil => intro _; rfl
  | cons y S ih =>
    intro h
    have hy := h y (by simp)
    unfold insI spot
    by_cases hd : y.d ≤ x.d
    · have hl : ¬ ltI x y := by unfold ltI; omega
      rw [if_neg hl, if_pos hd, ih (fun z hz => h z (List.mem_cons_of_mem _ hz))]
      simp
    · have hl : ltI x y := by unfold ltI; omega
      rw [if_pos hl, if_neg hd]
      simp

theorem flatI_one (L : List Itm) : ∀ u ∈ flatI L, u.oneCell' = true := by
  intro u hu
  obtain ⟨x, _, hx⟩ := List.mem_flatMap.1 hu
  simp [Itm.cs] at hx; rcases hx with rfl | rfl | rfl <;> rfl
theorem flatI_drop (L : List Itm) (n : Nat) : flatI (L.drop n) = (flatI L).drop (n * 3) := by
  induction L generalizing n with
  | nil => simp [flatI]
  | cons x L ih =>
    cases n with
    | zero => simp
    | succ n =>
      have : (flatI (x :: L)).drop ((n + 1) * 3) = (flatI L).drop (n * 3) := by
        rw [show flatI (x :: L) = x.cs ++ flatI L from rfl, List.drop_append, List.drop_of_length_le (by rw [show x.cs.length = 3 from rfl]; omega), show x.cs.length = 3 from rfl, show (n + 1) * 3 - 3 = n * 3 by omega, List.nil_append]
      rw [this, List.drop_succ_cons, ih]

theorem info_thing : (Tryd.prog.info? 128).map (fun i => (i.zero, i.size, i.bytes)) = some (some (.agg #[.int .u64 0, .int .u64 0, .int .i64 0]), 3, 24) := by kernel_rfl

/-- A slice of things that may be appended: nil, or cells that lie there. -/
def SrcT (w : World) (x : Value) (M : List Itm) : Prop := (x = .slice none 0 0 ∧ M = []) ∨ ∃ a c, x = .slice (some a) M.length c ∧ ∀ j u, (flatI M)[j]? = some u → w.cell? (a.add j) = some u
theorem SrcT.below {w w' : World} {x : Value} {M : List Itm} (h : SrcT w x M) (hb : Below w.heap.size w w') : SrcT w' x M := by
  rcases h with h | ⟨a, c, h1, h2⟩
  · exact .inl h
  · exact .inr ⟨a, c, h1, fun j u hu => by
      have hc := h2 j u hu
      rw [hb.cell (World.block_lt_of_cell? _ _ hc)]; exact hc⟩
theorem run_app_thing {w : World} {B : Nat} {v x : Value} {L M : List Itm} (h : w.ownsRow B 128 3 v L.length (flatI L)) (hx : SrcT w x M) (hs : L.length + M.length < 4294967296) (hB : B ≤ w.heap.size) (ty : TypeId) :
    ∃ v' w', (Builtin.append_ #[63, 63] ty #[v, x]).run Tryd.prog w = .ok v' w' ∧ w'.ownsRow B 128 3 v' (L ++ M).length (flatI (L ++ M)) ∧ Below B w w' := by
  obtain ⟨i0, hi0, hz0, hz1, hz2⟩ := info_parts info_thing
  rcases hx with ⟨rfl, rfl⟩ | ⟨a, c, rfl, hc⟩
  · exact ⟨v, w, run_append_owned_none (P := Tryd.prog) w B 63 ty 128 i0 3 Tryd.underlying63 hi0 v L.length (flatI L) h, by simpa using h, Below.refl _ _⟩
  · obtain ⟨v', w', hr, h2, h3, h4⟩ := run_append_own (P := Tryd.prog) w B 63 ty 128 i0 _ 3 24 Tryd.underlying63 hi0 hz0 hz1 hz2 rfl (by decide) v L.length (flatI L) h a M.length c (flatI M) (flatI_length M) hc (flatI_one M) (by unfold maxLen; omega) (by omega) hB
    exact ⟨v', w', hr, by rw [List.length_append, flatI_append]; exact h2, (Below.refl B w).grown h3 hB (fun k e => (h.lt k e).1)⟩
theorem srcT_take {w : World} {g : Nat} {L : List Itm} (hc : ∀ j u, (flatI L)[j]? = some u → w.cell? ⟨g, j, none⟩ = some u) (i c : Nat) (hi : i ≤ L.length) : SrcT w (.slice (some ⟨g, 0, none⟩) i c) (L.take i) := by
  refine .inr ⟨⟨g, 0, none⟩, c, by rw [List.length_take, Nat.min_eq_left (by omega)], fun j u hu => ?_⟩
  rw [add0]
  rw [flatI_take, List.getElem?_take] at hu
  split at hu
  · exact hc j u hu
  · cases hu
theorem srcT_drop {w : World} {g : Nat} {L : List Itm} (hc : ∀ j u, (flatI L)[j]? = some u → w.cell? ⟨g, j, none⟩ = some u) (i c : Nat) : SrcT w (.slice (some ⟨g, i * 3, none⟩) (L.length - i) c) (L.drop i) := by
  refine .inr ⟨⟨g, i * 3, none⟩, c, by rw [List.length_drop], fun j u hu => ?_⟩
  rw [flatI_drop, List.getElem?_drop] at hu
  have e : (⟨g, i * 3, none⟩ : Addr).add j = ⟨g, i * 3 + j, none⟩ := by unfold Addr.add; split <;> simp_all
  rw [e]; exact hc _ u hu
theorem srcT_end {w : World} {g : Nat} {L : List Itm} (i c : Nat) (hi : i = L.length) : SrcT w (.slice (some ⟨g, 0, none⟩) 0 c) (L.drop i) := by
  have e : L.drop i = [] := List.drop_of_length_le (by omega)
  rw [e]
  exact .inr ⟨⟨g, 0, none⟩, c, rfl, fun j u hu => by simp [flatI] at hu⟩
theorem ownsT_slice {W : World} {B : Nat} {t : TypeId} {s : Nat} {v : Value} {n : Nat} {xs : List Value} (h : W.ownsRow B t s v n xs) : ∃ ad c, v = .slice ad n c := by
  rcases h.2 with ⟨rfl, e⟩ | ⟨g, cap, cur, rfl, _⟩
  · exact ⟨none, 0, by rw [e]⟩
  · exact ⟨_, _, rfl⟩

/-- The three appends of Put: the front, the new thing, the rest. -/
theorem refApp3 {w5 : World} {x1 x3 : Value} {L : List Itm} (i : Nat) (hs : L.length < 2147483649) (b : Itm) (h1 : SrcT w5 x1 (L.take i)) (h3 : SrcT w5 x3 (L.drop i)) : ∃ v1 w6 v2 w8 ad l c w9,
    (Builtin.append_ #[63, 63] 63 #[.slice none 0 0, x1]).run Tryd.prog w5 = .ok v1 w6 ∧
    (Builtin.append_ #[63, 63] 63 #[v1, .slice (some ⟨w6.heap.size, 0, none⟩) 1 1]).run Tryd.prog (w6.alloc (.cells #[.int .u64 b.d, .int .u64 b.w, .int .i64 b.h] 128)) = .ok v2 w8 ∧
    (Builtin.append_ #[63, 63] 63 #[v2, x3]).run Tryd.prog w8 = .ok (.slice ad l c) w9 ∧
    w9.ownsRow w5.heap.size 128 3 (.slice ad l c) (L.take i ++ b :: L.drop i).length (flatI (L.take i ++ b :: L.drop i)) ∧ Below w5.heap.size w5 w6 ∧ Below w5.heap.size w5 w8 ∧ Below w5.heap.size w5 w9 ∧ (∃ p m c, v1 = .slice p m c) ∧ (∃ p m c, v2 = .slice p m c) := by
  obtain ⟨v1, w6, r1, o1, b1⟩ := run_app_thing (w := w5) (B := w5.heap.size) (L := []) (World.ownsRow_nil _ _ _ _) h1 (by simp; omega) (Nat.le_refl _) 63
  have s1 := b1.size
  have hn := World.alloc_heap_new w6 (.cells #[.int .u64 b.d, .int .u64 b.w, .int .i64 b.h] 128)
  have ha : Below w6.heap.size w6 (w6.alloc (.cells #[.int .u64 b.d, .int .u64 b.w, .int .i64 b.h] 128)) := (Below.refl _ _).alloc (Nat.le_refl _) _
  have o1' := ownsRow_only (F := []) o1 (Only.of_below ha) (fun g _ => by simp)
  rw [List.nil_append] at o1'
  have hx2 : SrcT (w6.alloc (.cells #[.int .u64 b.d, .int .u64 b.w, .int .i64 b.h] 128)) (.slice (some ⟨w6.heap.size, 0, none⟩) 1 1) [b] := by
    refine .inr ⟨_, 1, rfl, fun j u hu => ?_⟩
    rw [add0, cell_of_row _ _ j _ _ (0, 0) hn]
    simpa [flatI, Itm.cs] using hu
  obtain ⟨v2, w8, r2, o2, b2⟩ := run_app_thing o1' hx2 (by simp; omega) (by have := ha.size; omega) 63
  have b58 : Below w5.heap.size w5 w8 := (b1.trans (ha.mono s1)).trans b2
  obtain ⟨v3, w9, r3, o3, b3⟩ := run_app_thing o2 (h3.below b58) (by simp; omega) b58.size 63
  obtain ⟨p1, c1, e1⟩ := ownsT_slice o1'
  obtain ⟨p2, c2, e2⟩ := ownsT_slice o2
  obtain ⟨ad, c, rfl⟩ := ownsT_slice o3
  refine ⟨v1, w6, v2, w8, ad, _, c, w9, r1, r2, r3, ?_, b1, b58, b58.trans b3, ⟨_, _, _, e1⟩, ⟨_, _, _, e2⟩⟩
  have e : L.take i ++ [b] ++ L.drop i = L.take i ++ b :: L.drop i := by simp
  rw [e] at o3 ⊢; exact o3
/-- The two appends of Drop: the front, the rest behind the thing. -/
theorem refApp2 {w5 : World} {x1 x3 : Value} {L : List Itm} (i : Nat) (hs : L.length < 2147483649) (h1 : SrcT w5 x1 (L.take i)) (h3 : SrcT w5 x3 (L.drop (i + 1))) : ∃ v1 w6 ad l c w9,
    (Builtin.append_ #[63, 63] 63 #[.slice none 0 0, x1]).run Tryd.prog w5 = .ok v1 w6 ∧
    (Builtin.append_ #[63, 63] 63 #[v1, x3]).run Tryd.prog w6 = .ok (.slice ad l c) w9 ∧
    w9.ownsRow w5.heap.size 128 3 (.slice ad l c) (L.take i ++ L.drop (i + 1)).length (flatI (L.take i ++ L.drop (i + 1))) ∧ Below w5.heap.size w5 w6 ∧ Below w5.heap.size w5 w9 ∧ (∃ p m c, v1 = .slice p m c) := by
  obtain ⟨v1, w6, r1, o1, b1⟩ := run_app_thing (w := w5) (B := w5.heap.size) (L := []) (World.ownsRow_nil _ _ _ _) h1 (by simp; omega) (Nat.le_refl _) 63
  rw [List.nil_append] at o1
  obtain ⟨v3, w9, r3, o3, b3⟩ := run_app_thing o1 (h3.below b1) (by simp; omega) b1.size 63
  obtain ⟨p1, c1, e1⟩ := ownsT_slice o1
  obtain ⟨ad, c, rfl⟩ := ownsT_slice o3
  exact ⟨v1, w6, ad, _, c, w9, r1, r3, o3, b1, b1.trans b3, ⟨_, _, _, e1⟩⟩

/-- At block r lies the document's queue. -/
structure RefC (t : Int) (W : World) (r N : Nat) (v : Value) (S : List Itm) (last : Nat) : Prop where
  top : Row W r [.int .u64 t, v, .int .i64 last]
  row : W.ownsRow N 128 3 v S.length (flatI S)
  rN : r < N
  NW : N ≤ W.heap.size
section
variable {W W' : World} {r N : Nat} {v : Value} {S : List Itm} {last : Nat}
theorem RefC.c0 (h : RefC t W r N v S last) : W.cell? ⟨r, 1, none⟩ = some v := h.top.cell 1 (by simp)
theorem RefC.c1 (h : RefC t W r N v S last) : W.cell? ⟨r, 2, none⟩ = some (.int .i64 last) := h.top.cell 2 (by simp)
theorem RefC.f0 (h : RefC t W r N v S last) : W.frozen? ⟨r, 1, none⟩ = false := h.top.free 1 (by simp)
theorem RefC.f1 (h : RefC t W r N v S last) : W.frozen? ⟨r, 2, none⟩ = false := h.top.free 2 (by simp)
theorem RefC.only {F : List Nat} (h : RefC t W r N v S last) (ho : Only F W W') (h1 : r ∉ F) (h2 : ∀ k, v.ownBlock = some k → k ∉ F) : RefC t W' r N v S last :=
  ⟨h.top.only ho h1, ownsRow_only h.row ho h2, h.rN, Nat.le_trans h.NW ho.size⟩
theorem RefC.below (h : RefC t W r N v S last) (hb : Below W.heap.size W W') : RefC t W' r N v S last := h.only (F := []) (Only.of_below hb) (by simp) (fun _ _ => by simp)
/-- Nil, or a row. -/
theorem RefC.two (h : RefC t W r N v S last) : (v = .slice none 0 0 ∧ S = []) ∨ ∃ g cap, v = .slice (some ⟨g, 0, none⟩) S.length cap ∧ g ≠ r ∧ S.length ≤ cap ∧ cap ≤ maxLen ∧ (∀ j u, (flatI S)[j]? = some u → W.cell? ⟨g, j, none⟩ = some u) := by
  have hrN := h.rN
  rcases h.row.2 with ⟨e1, e2⟩ | ⟨g, cap, cur, rfl, hb, hgg, hn, hm, hs, ht⟩
  · exact .inl ⟨e1, List.eq_nil_of_length_eq_zero e2⟩
  · refine .inr ⟨g, cap, rfl, by omega, hn, hm, fun j u hu => ?_⟩
    have := h.row.cells (g := g) rfl j u hu
    rwa [add0] at this
end
/-- What a call of the document's leaves. -/
structure RefCLed (t : Int) (W : World) (r N : Nat) (v : Value) (W' : World) (v' : Value) (S' : List Itm) (last' : Nat) : Prop where
  at1 : RefC t W' r N v' S' last'
  jump : ∀ k, v'.ownBlock = some k → v.ownBlock = some k ∨ W.heap.size ≤ k
  only : Only [r] W W'
theorem crefLed_of {W W1 W9 : World} {r N : Nat} {v v' : Value} {S S' : List Itm} {last : Nat} (h : RefC t W1 r N v S last) (ho : Only [r] W W1) (hN : N ≤ W.heap.size) (hr : W9.ownsRow W1.heap.size 128 3 v' S'.length (flatI S')) (hb : Below W1.heap.size W1 W9) :
    RefCLed t W r N v (W9.setCell ⟨r, 1, none⟩ v') v' S' last := by
  have s1 := ho.size
  have s2 := hb.size
  have hrN := h.rN
  have os : Only [r] W9 (W9.setCell ⟨r, 1, none⟩ v') := (Only.refl [r] W9).setCell (p := ⟨r, 1, none⟩) (Or.inl (by simp)) v'
  have t9 := (h.top.only (F := []) (Only.of_below hb) (by simp)).set 1 (by simp) v'
  have hr' : W9.ownsRow N 128 3 v' S'.length (flatI S') := by
    refine ⟨hr.1, ?_⟩
    rcases hr.2 with hn | ⟨g, cap, cur, rfl, hb, rest⟩
    · exact .inl hn
    · exact .inr ⟨g, cap, cur, rfl, by omega, rest⟩
  refine ⟨⟨by simpa using t9, ownsRow_only hr' os (fun k hk => by have := (hr.lt k hk).1; simp; omega), hrN, by have := os.size; omega⟩, fun k hk => .inr (by have := (hr.lt k hk).1; omega), (ho.trans (Only.of_below hb)).trans os⟩
end Go.Proofs.YtobbmhboahognaaDoor
