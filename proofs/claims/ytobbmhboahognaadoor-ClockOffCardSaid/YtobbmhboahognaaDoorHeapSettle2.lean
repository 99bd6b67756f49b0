/- settle (layer 7): an item is brought into a queue that has a gap: the walk of its two loops. The conditions: the queue is a heap but for the gap, handles are the machine's numbers and differ, the map has room. -/
import Derived.Test.YtobbmhboahognaaDoorHeapSettle
namespace Go.Proofs.YtobbmhboahognaaDoor
open Go.RowKit Go.Shelf
set_option linter.unusedVariables false
attribute [local go_sem] Oper.semAt_some

/-- Between two rounds of the way down. -/
structure DownI (w : World) (s b mb rg cap c : Nat) (x : Itm) (C : List Itm) (g : Nat) (pre : List Nat) (W : World) : Prop where
  at0 : LoopAt w s b mb rg cap (c + pre.length) x (stD C g pre).1 (stD C g pre).2 W
  bh : Boxed W (s + 1 + 1 + 1) 118 (.pointer (some ⟨b, 0, none⟩))
  bn : Boxed W (s + 1 + 1 + 1 + 1) 3 (.int .i64 g)
  hole : Hole (stD C g pre).1 (stD C g pre).2
  perm : ((stD C g pre).1.set (stD C g pre).2 x).Perm (C.set g x)
  few : pre.length + g ≤ (stD C g pre).2
/-- Between the two loops: below the gap nothing comes earlier than x. -/
structure MidI (w : World) (s b mb rg cap c : Nat) (x : Itm) (C : List Itm) (g : Nat) (W : World) (C1 : List Itm) (g1 c1 : Nat) : Prop where
  at0 : LoopAt w s b mb rg cap c1 x C1 g1 W
  hole : Hole C1 g1
  perm : (C1.set g1 x).Perm (C.set g x)
  under : Under C1 g1 x
  few : c1 ≤ c + C.length
  len : C1.length = C.length
  sz : s + 1 + 1 + 1 + 1 + 1 ≤ W.heap.size
/-- A round of the way down was left: x comes earlier than the item at hand. -/
def DownX (w : World) (s b mb rg cap c : Nat) (x : Itm) (C : List Itm) (g : Nat) (cd : Code) (pre : List Nat) (W : World) : Prop := cd = .exit 0 ∧ ∃ C1 g1 c1, MidI w s b mb rg cap c x C g W C1 g1 c1

section
variable {w W W' : World} {s b mb rg cap c : Nat} {x : Itm} {C : List Itm} {g : Nat} {pre : List Nat}
theorem DownI.keep {F : List Nat} (h : DownI w s b mb rg cap c x C g pre W) (o : Olds w s b mb rg) (ho : Only F W W') (hF : ∀ k ∈ F, s + 1 + 1 + 1 + 1 < k) : DownI w s b mb rg cap c x C g pre W' :=
  ⟨h.at0.keep o ho (fun k hk => by have := hF k hk; omega), boxed_of h.bh ho (fun hk => by have := hF _ hk; omega), boxed_of h.bn ho (fun hk => by have := hF _ hk; omega), h.hole, h.perm, h.few⟩
theorem MidI.keep {F : List Nat} {C1 : List Itm} {g1 c1 : Nat} (h : MidI w s b mb rg cap c x C g W C1 g1 c1) (o : Olds w s b mb rg) (ho : Only F W W') (hF : ∀ k ∈ F, s + 1 + 1 + 1 + 1 < k) : MidI w s b mb rg cap c x C g W' C1 g1 c1 :=
  ⟨h.at0.keep o ho (fun k hk => by have := hF k hk; omega), h.hole, h.perm, h.under, h.few, h.len, Nat.le_trans h.sz ho.size⟩
theorem keepsFrom_of {F : List Nat} {B : Nat} {W W' : World} (h : Only F W W') (hF : ∀ k ∈ F, k < B) : KeepsFrom B W W' :=
  ⟨h.size, fun k o hB hk _ => (h.block k (Array.getElem?_eq_some_iff.1 hk).1 (fun hf => by have := hF k hf; omega)).trans hk⟩
theorem only_of_grown {W W' : World} {row : Option Nat} (h : W.grownBy W' row) : Only row.toList W W' :=
  ⟨h.os, h.tape, h.output, h.size, fun k hk hn => h.block k hk (fun e => hn (by rw [← e]; simp))⟩
theorem downI_own (o : Olds w s b mb rg) {B : Nat} (hB : s + 1 + 1 + 1 + 1 < B) : OwnFrom B (DownI w s b mb rg cap c x C g) := fun pre X Y row h hg hr =>
  h.keep o (only_of_grown hg) (fun k hk => by have := (hr k (by simpa using hk)).1; omega)
theorem downX_own (o : Olds w s b mb rg) {B : Nat} (hB : s + 1 + 1 + 1 + 1 < B) (cd : Code) : OwnFrom B (DownX w s b mb rg cap c x C g cd) := fun pre X Y row h hg hr => by
  obtain ⟨h1, C1, g1, c1, h2⟩ := h
  exact ⟨h1, C1, g1, c1, h2.keep o (only_of_grown hg) (fun k hk => by have := (hr k (by simpa using hk)).1; omega)⟩
theorem DownI.lt (h : DownI w s b mb rg cap c x C g pre W) : (stD C g pre).2 < C.length := by have := h.hole.lt; rwa [stD_length] at this
theorem DownI.sz (h : DownI w s b mb rg cap c x C g pre W) : s + 1 + 1 + 1 + 1 + 1 ≤ W.heap.size := h.bn.lt
theorem DownI.reads (h : DownI w s b mb rg cap c x C g pre W) : Reads W (s + 1 + 1 + 1) (s + 1 + 1 + 1 + 1) b rg cap g (stD C g pre).1 := by
  obtain ⟨f, hc, hp⟩ := h.at0.core
  exact ⟨h.bh.cell, h.bn.cell, hc.c0, hc.row⟩
theorem DownI.mid (h : DownI w s b mb rg cap c x C g pre W) (hu : Under (stD C g pre).1 (stD C g pre).2 x) : MidI w s b mb rg cap c x C g W (stD C g pre).1 (stD C g pre).2 (c + pre.length) :=
  ⟨h.at0, h.hole, h.perm, hu, by have := h.few; have := h.lt; omega, stD_length C g pre, h.sz⟩
theorem DownI.step {W2 : World} (h : DownI w s b mb rg cap c x C g pre W) (o : Olds w s b mb rg) {n : Nat} (hl : Lower (stD C g pre).1 (stD C g pre).2 n) (ho : Only [rg, mb] W W2)
    (hL : LoopAt w s b mb rg cap (c + pre.length + 1) x ((stD C g pre).1.set (stD C g pre).2 (at_ (stD C g pre).1 n)) n (W2.setCell ⟨s + 1, 0, none⟩ (.int .i64 n))) : DownI w s b mb rg cap c x C g (pre ++ [n]) (W2.setCell ⟨s + 1, 0, none⟩ (.int .i64 n)) := by
  obtain ⟨h1, h2, h3, h4⟩ := hl
  have hne : (stD C g pre).2 ≠ n := by omega
  have o2 : Only [rg, mb, s + 1] W (W2.setCell ⟨s + 1, 0, none⟩ (.int .i64 n)) := (ho.mono (by simp)).setCell (p := ⟨s + 1, 0, none⟩) (Or.inl (by simp)) _
  have e1 := o.ob; have e2 := o.om; have e3 := o.orr; have := h.few
  refine ⟨?_, boxed_of h.bh o2 (by simp; omega), boxed_of h.bn o2 (by simp; omega), ?_, ?_, ?_⟩
  · rw [stD_snoc, List.length_append]; exact hL
  · rw [stD_snoc]; exact h.hole.down h1 h3 h2 h4
  · rw [stD_snoc]; exact (step_perm _ _ _ _ h.hole.lt h1 hne).trans h.perm
  · rw [stD_snoc, List.length_append]; simp only [List.length_cons, List.length_nil]; omega
theorem DownI.ended (h : DownI w s b mb rg cap c x C g pre W) (he : C.length ≤ 2 * (stD C g pre).2 + 1) : MidI w s b mb rg cap c x C g W (stD C g pre).1 (stD C g pre).2 (c + pre.length) :=
  h.mid (fun i i0 il hp => by rw [stD_length] at il; omega)
theorem DownI.stopped (h : DownI w s b mb rg cap c x C g pre W) {n : Nat} (hl : Lower (stD C g pre).1 (stD C g pre).2 n) (hx : ltI x (at_ (stD C g pre).1 n)) : MidI w s b mb rg cap c x C g W (stD C g pre).1 (stD C g pre).2 (c + pre.length) :=
  h.mid (fun i i0 il hp => ltI_trans (ltI_asymm hx) (hl.2.2.2 i i0 il hp))
end

/-- Between two rounds of the way up. -/
structure UpI (w : World) (s b mb rg cap c : Nat) (x : Itm) (C : List Itm) (g : Nat) (C1 : List Itm) (g1 c1 : Nat) (pre : List Nat) (W : World) : Prop where
  at0 : LoopAt w s b mb rg cap (c1 + pre.length) x (stD C1 g1 pre).1 (stD C1 g1 pre).2 W
  hole : Hole (stD C1 g1 pre).1 (stD C1 g1 pre).2
  perm : ((stD C1 g1 pre).1.set (stD C1 g1 pre).2 x).Perm (C.set g x)
  under : Under (stD C1 g1 pre).1 (stD C1 g1 pre).2 x
  few : pre.length + (stD C1 g1 pre).2 ≤ g1
  dfr : W.heap[s + 1 + 1 + 1 + 1 + 1]? = some (.deferred (some []))
/-- Behind both loops. -/
structure EndI (w : World) (s b mb rg cap c : Nat) (x : Itm) (C : List Itm) (g : Nat) (W : World) (C1 : List Itm) (g1 c1 : Nat) : Prop where
  at0 : LoopAt w s b mb rg cap c1 x C1 g1 W
  hole : Hole C1 g1
  perm : (C1.set g1 x).Perm (C.set g x)
  under : Under C1 g1 x
  top : 0 < g1 → ¬ ltI x (at_ C1 ((g1 - 1) / 2))
  few : c1 ≤ c + 2 * C.length
  len : C1.length = C.length
  dfr : W.heap[s + 1 + 1 + 1 + 1 + 1]? = some (.deferred (some []))
def UpX (w : World) (s b mb rg cap c : Nat) (x : Itm) (C : List Itm) (g : Nat) (cd : Code) (pre : List Nat) (W : World) : Prop := cd = .exit 2 ∧ ∃ C1 g1 c1, EndI w s b mb rg cap c x C g W C1 g1 c1
section
variable {w W W' : World} {s b mb rg cap c : Nat} {x : Itm} {C : List Itm} {g : Nat} {C1 : List Itm} {g1 c1 : Nat} {pre : List Nat}
theorem UpI.keep {F : List Nat} (h : UpI w s b mb rg cap c x C g C1 g1 c1 pre W) (o : Olds w s b mb rg) (ho : Only F W W') (hF : ∀ k ∈ F, s + 1 + 1 + 1 + 1 + 1 < k) : UpI w s b mb rg cap c x C g C1 g1 c1 pre W' :=
  ⟨h.at0.keep o ho (fun k hk => by have := hF k hk; omega), h.hole, h.perm, h.under, h.few, (ho.block _ (Array.getElem?_eq_some_iff.1 h.dfr).1 (fun hk => by have := hF _ hk; omega)).trans h.dfr⟩
theorem EndI.keep {F : List Nat} (h : EndI w s b mb rg cap c x C g W C1 g1 c1) (o : Olds w s b mb rg) (ho : Only F W W') (hF : ∀ k ∈ F, s + 1 + 1 + 1 + 1 + 1 < k) : EndI w s b mb rg cap c x C g W' C1 g1 c1 :=
  ⟨h.at0.keep o ho (fun k hk => by have := hF k hk; omega), h.hole, h.perm, h.under, h.top, h.few, h.len, (ho.block _ (Array.getElem?_eq_some_iff.1 h.dfr).1 (fun hk => by have := hF _ hk; omega)).trans h.dfr⟩
theorem upI_own (o : Olds w s b mb rg) {B : Nat} (hB : s + 1 + 1 + 1 + 1 + 1 < B) : OwnFrom B (UpI w s b mb rg cap c x C g C1 g1 c1) := fun pre X Y row h hg hr =>
  h.keep o (only_of_grown hg) (fun k hk => by have := (hr k (by simpa using hk)).1; omega)
theorem upX_own (o : Olds w s b mb rg) {B : Nat} (hB : s + 1 + 1 + 1 + 1 + 1 < B) (cd : Code) : OwnFrom B (UpX w s b mb rg cap c x C g cd) := fun pre X Y row h hg hr => by
  obtain ⟨h1, C1, g1, c1, h2⟩ := h
  exact ⟨h1, C1, g1, c1, h2.keep o (only_of_grown hg) (fun k hk => by have := (hr k (by simpa using hk)).1; omega)⟩
theorem UpI.step {W2 : World} {n : Nat} (h : UpI w s b mb rg cap c x C g C1 g1 c1 pre W) (o : Olds w s b mb rg) (h0 : 0 < (stD C1 g1 pre).2) (hn : n = ((stD C1 g1 pre).2 - 1) / 2) (hx : ¬ ltI (at_ (stD C1 g1 pre).1 n) x) (ho : Only [rg, mb] W W2)
    (hL : LoopAt w s b mb rg cap (c1 + pre.length + 1) x ((stD C1 g1 pre).1.set (stD C1 g1 pre).2 (at_ (stD C1 g1 pre).1 n)) n (W2.setCell ⟨s + 1, 0, none⟩ (.int .i64 n))) : UpI w s b mb rg cap c x C g C1 g1 c1 (pre ++ [n]) (W2.setCell ⟨s + 1, 0, none⟩ (.int .i64 n)) := by
  have o2 : Only [rg, mb, s + 1] W (W2.setCell ⟨s + 1, 0, none⟩ (.int .i64 n)) := (ho.mono (by simp)).setCell (p := ⟨s + 1, 0, none⟩) (Or.inl (by simp)) _
  have e1 := o.ob; have e2 := o.om; have e3 := o.orr; have := h.few
  have hl := h.hole.lt
  subst hn
  obtain ⟨a1, a2⟩ := h.hole.above h0 h.under hx
  refine ⟨?_, ?_, ?_, ?_, ?_, (o2.block _ (Array.getElem?_eq_some_iff.1 h.dfr).1 (by simp; omega)).trans h.dfr⟩
  · rw [stD_snoc, List.length_append]; exact hL
  · rw [stD_snoc]; exact a1
  · rw [stD_snoc]; exact (step_perm _ _ _ _ hl (by omega) (by omega)).trans h.perm
  · rw [stD_snoc]; exact a2
  · rw [stD_snoc, List.length_append]; simp only [List.length_cons, List.length_nil]; omega
theorem UpI.ended (h : UpI w s b mb rg cap c x C g C1 g1 c1 pre W) (hc : c1 ≤ c + C.length) (hl : C1.length = C.length) (hg1 : g1 < C.length) (ht : 0 < (stD C1 g1 pre).2 → ¬ ltI x (at_ (stD C1 g1 pre).1 (((stD C1 g1 pre).2 - 1) / 2))) :
    EndI w s b mb rg cap c x C g W (stD C1 g1 pre).1 (stD C1 g1 pre).2 (c1 + pre.length) :=
  ⟨h.at0, h.hole, h.perm, h.under, ht, by have := h.few; omega, by rw [stD_length]; exact hl, h.dfr⟩
end

/-- What settle leaves: the same items and x, a heap again. -/
def SettlePost (b mb rg cap c : Nat) (x : Itm) (C : List Itm) (g : Nat) (w : World) (e : Ending) (W : World) : Prop :=
  e = .returned (.tuple #[]) ∧ Only [rg, mb] w W ∧ ∃ L f c', Core W b mb rg cap c' L f ∧ c' ≤ c + 2 * C.length + 1 ∧ PosAll L f ∧ Heaped L ∧ L.Perm (C.set g x)

set_option maxRecDepth 100000 in
set_option maxHeartbeats 4000000 in
theorem settle_in {w : World} {b mb rg cap c : Nat} {C : List Itm} {f : Int → Option Nat} (hC : Core w b mb rg cap c C f) (g : Nat) (x : Itm) (hp : PosOK C g x f) (hH : Hole C g) (hd : Distinct (C.set g x)) (hl : C.length < 1073741824)
    (hx : ∀ y ∈ C.set g x, (Lit.int .i64 y.h).wf = true) (hc : c + 2 * C.length < maxLen) :
    CallsIn Fence.wide 3 Tryd.prog 89 #[.pointer (some ⟨b, 0, none⟩), .int .i64 g, .agg #[.int .u64 x.d, .int .u64 x.w, .int .i64 x.h]] w (SettlePost b mb rg cap c x C g w) := by
  obtain ⟨s, hs⟩ : ∃ s, s = w.heap.size := ⟨_, rfl⟩
  have o : Olds w s b mb rg := ⟨hs, by rw [hs]; exact hC.lt, by rw [hs]; exact hC.pos.lt, by rw [hs]; exact hC.row.lt, hC.mg, hC.bg, hC.bm⟩
  have HS := Lib.hid hs
  clear hs
  refine callsIn_of_wp_marks Tryd.func89 rfl trivial ?_ rfl
  simp only [Tryd.ntmps89, List.size_toArray, List.length_cons, List.length_nil, Nat.reduceAdd, Nat.reduceSub, Array.replicate_succ, Array.replicate_zero, List.push_toArray, List.append_toArray, List.nil_append, List.cons_append]
  gi_wp2_with fail
  refine ⟨trivial, ?_⟩
  gi_at_call 97
  refine ((callsIn_wide (n := 2)).2 (mkBelow_any b g _)).mono ?_
  rintro e w' ⟨rfl, rfl⟩
  have I0 : DownI w w.heap.size b mb rg cap c x C g [] (((((w.alloc (.cells #[.pointer (some ⟨b, 0, none⟩)] 118)).alloc (.cells #[.int .i64 g] 3)).alloc (.cells #[.int .u64 x.d, .int .u64 x.w, .int .i64 x.h] 171)).alloc (.cells #[.pointer (some ⟨b, 0, none⟩)] 118)).alloc (.cells #[.int .i64 g] 3)) := by
    have q0 := ((((Boxed.new w 118 (.pointer (some ⟨b, 0, none⟩))).alloc (.cells #[.int .i64 g] 3)).alloc (.cells #[.int .u64 x.d, .int .u64 x.w, .int .i64 x.h] 171)).alloc (.cells #[.pointer (some ⟨b, 0, none⟩)] 118)).alloc (.cells #[.int .i64 g] 3)
    have q1 := (((Boxed.new (w.alloc (.cells #[.pointer (some ⟨b, 0, none⟩)] 118)) 3 (.int .i64 g)).alloc (.cells #[.int .u64 x.d, .int .u64 x.w, .int .i64 x.h] 171)).alloc (.cells #[.pointer (some ⟨b, 0, none⟩)] 118)).alloc (.cells #[.int .i64 g] 3)
    have q3 := (Boxed.new (((w.alloc (.cells #[.pointer (some ⟨b, 0, none⟩)] 118)).alloc (.cells #[.int .i64 g] 3)).alloc (.cells #[.int .u64 x.d, .int .u64 x.w, .int .i64 x.h] 171)) 118 (.pointer (some ⟨b, 0, none⟩))).alloc (.cells #[.int .i64 g] 3)
    have q4 := Boxed.new ((((w.alloc (.cells #[.pointer (some ⟨b, 0, none⟩)] 118)).alloc (.cells #[.int .i64 g] 3)).alloc (.cells #[.int .u64 x.d, .int .u64 x.w, .int .i64 x.h] 171)).alloc (.cells #[.pointer (some ⟨b, 0, none⟩)] 118)) 3 (.int .i64 g)
    have q2 := World.alloc_heap_new ((w.alloc (.cells #[.pointer (some ⟨b, 0, none⟩)] 118)).alloc (.cells #[.int .i64 g] 3)) (.cells #[.int .u64 x.d, .int .u64 x.w, .int .i64 x.h] 171)
    have o5 : Only [] w (((((w.alloc (.cells #[.pointer (some ⟨b, 0, none⟩)] 118)).alloc (.cells #[.int .i64 g] 3)).alloc (.cells #[.int .u64 x.d, .int .u64 x.w, .int .i64 x.h] 171)).alloc (.cells #[.pointer (some ⟨b, 0, none⟩)] 118)).alloc (.cells #[.int .i64 g] 3)) := (((((Only.refl _ w).alloc _).alloc _).alloc _).alloc _).alloc _
    simp only [World.size_alloc] at q1 q2 q3 q4
    refine ⟨⟨q0, q1, ?_, ⟨f, hC.only o5 (by simp) (by simp) (by simp), hp⟩, o5.mono (by simp), by simp⟩, q3, q4, hH, List.Perm.refl _, by simp [stD]⟩
    rw [Below.heap_alloc _ _ _ (by simp), Below.heap_alloc _ _ _ (by simp)]
    exact q2
  have hsz : (((((w.alloc (.cells #[.pointer (some ⟨b, 0, none⟩)] 118)).alloc (.cells #[.int .i64 g] 3)).alloc (.cells #[.int .u64 x.d, .int .u64 x.w, .int .i64 x.h] 171)).alloc (.cells #[.pointer (some ⟨b, 0, none⟩)] 118)).alloc (.cells #[.int .i64 g] 3)).heap.size = w.heap.size + 1 + 1 + 1 + 1 + 1 := by simp
  gi_wp2
  rename_i K hK
  obtain ⟨W0, hW0⟩ : ∃ W0, (((((w.alloc (.cells #[.pointer (some ⟨b, 0, none⟩)] 118)).alloc (.cells #[.int .i64 g] 3)).alloc (.cells #[.int .u64 x.d, .int .u64 x.w, .int .i64 x.h] 171)).alloc (.cells #[.pointer (some ⟨b, 0, none⟩)] 118)).alloc (.cells #[.int .i64 g] 3)) = W0 := ⟨_, rfl⟩
  rw [hW0] at I0 hsz ⊢
  clear hW0
  simp only [← HS.out] at I0 hsz ⊢
  have key : ∀ (W : World) (C1 : List Itm) (g1 c1 : Nat), MidI w s b mb rg cap c x C g W C1 g1 c1 → W.heap[s + 1 + 1 + 1 + 1 + 1]? = some (.deferred (some [])) → K { tmps := #[.pointer (some ⟨b, 0, none⟩), .int .i64 g, .agg #[.int .u64 x.d, .int .u64 x.w, .int .i64 x.h], .pointer (some ⟨s, 0, none⟩), .pointer (some ⟨s + 1, 0, none⟩), .pointer (some ⟨s + 1 + 1, 0, none⟩), undef, undef, .pointer (some ⟨b, 0, none⟩), .int .i64 g, .func (.func 102) #[] #[.pointer (some ⟨s + 1 + 1 + 1 + 1, 0, none⟩), .pointer (some ⟨s + 1 + 1 + 1, 0, none⟩)], undef, undef, undef, undef, undef, undef, undef, undef, undef, undef, undef, undef, undef, undef, undef, undef, undef, undef, undef, undef, undef, undef, undef, undef, undef, undef, undef, undef, undef, undef, undef, undef, undef, undef, undef, undef, undef, undef, undef, undef, undef, undef, undef, undef, undef, undef, undef, undef, undef, undef], defers := [{ target := .collected (s + 1 + 1 + 1 + 1 + 1), args := #[] }] } W := by
    intro W C1 g1 c1 hM hD
    have cg := hM.at0.bg.cell
    have hWs := hM.sz
    have hg1 : g1 < C.length := by have := hM.hole.lt; rw [hM.len] at this; exact this
    have hc1 := hM.few
    have hDl := (Array.getElem?_eq_some_iff.1 hD).1
    have hl1 := hM.len
    have U0 : UpI w s b mb rg cap c x C g C1 g1 c1 [] (W.alloc (.cells #[.int .i64 g1] 3)) :=
      (UpI.mk hM.at0 hM.hole hM.perm hM.under (by simp [stD]) hD : UpI w s b mb rg cap c x C g C1 g1 c1 [] W).keep o (F := []) ((Only.refl _ _).alloc _) (by simp)
    have qn := (Boxed.new W 3 (.int .i64 g1)).cell
    have HU := Lib.hid U0
    have HM := Lib.hid hM
    have HL1 := Lib.hid hl1
    clear hM U0 hD hl1
    refine hK _ _ ?_
    gi_wp2_with fail
    refine ⟨trivial, ?_⟩
    gi_at_call 100
    refine ((callsIn_wide (n := 2)).2 (mkAbove_any g1 _)).mono ?_
    rintro e w' ⟨rfl, rfl⟩
    gi_wp2
    rename_i K2 hK2
    obtain ⟨d, hd2⟩ : ∃ d, d = W.heap.size := ⟨_, rfl⟩
    obtain ⟨W9, hW9⟩ : ∃ W9, W.alloc (.cells #[.int .i64 g1] 3) = W9 := ⟨_, rfl⟩
    have hz9 : W9.heap.size = d + 1 := by rw [← hW9, hd2]; simp
    rw [hW9] at HU qn ⊢
    simp only [← hd2] at qn ⊢
    have hds : s + 1 + 1 + 1 + 1 + 1 < d := by rw [hd2]; exact hDl
    clear hW9 hd2 cg hDl
    have key2 : ∀ (X : World) (C2 : List Itm) (g2 c2 : Nat), EndI w s b mb rg cap c x C g X C2 g2 c2 → X.heap[d + 1]? = some (.deferred (some [])) → K2 { tmps := #[.pointer (some ⟨b, 0, none⟩), .int .i64 g, .agg #[.int .u64 x.d, .int .u64 x.w, .int .i64 x.h], .pointer (some ⟨s, 0, none⟩), .pointer (some ⟨s + 1, 0, none⟩), .pointer (some ⟨s + 1 + 1, 0, none⟩), undef, undef, .pointer (some ⟨b, 0, none⟩), .int .i64 g, .func (.func 102) #[] #[.pointer (some ⟨s + 1 + 1 + 1 + 1, 0, none⟩), .pointer (some ⟨s + 1 + 1 + 1, 0, none⟩)], undef, undef, undef, undef, undef, undef, undef, undef, undef, undef, undef, undef, undef, undef, undef, undef, undef, undef, undef, undef, undef, undef, .int .i64 g1, .func (.func 106) #[] #[.pointer (some ⟨d, 0, none⟩)], undef, undef, undef, undef, undef, undef, undef, undef, undef, undef, undef, undef, undef, undef, undef, undef, undef, undef, undef, undef, undef, undef, undef, undef, undef, undef], defers := [{ target := .collected (d + 1), args := #[] }, { target := .collected (s + 1 + 1 + 1 + 1 + 1), args := #[] }] } X := by
      intro X C2 g2 c2 hE hD2
      have cs := hE.at0.cells
      obtain ⟨f2, hco, hpo⟩ := hE.at0.core
      have dh := cs.h
      have dg := cs.g
      have dx0 := cs.x0
      have dx1 := cs.x1
      have dx2 := cs.x2
      have hl2 := hE.hole.lt
      have hd2 : Distinct (C2.set g2 x) := hd.perm hE.perm
      have PL := Lib.hid (place_any hco g2 hl2 (by rw [hE.len]; omega) x (hx x (hE.perm.mem_iff.1 (List.mem_iff_getElem.2 ⟨g2, by simpa using hl2, by simp⟩))) (by have := hE.few; omega))
      have HP := Lib.hid hpo
      have HE := Lib.hid hE
      have HD2 := Lib.hid hD2
      clear hE hD2 cs hco hpo
      refine hK2 _ _ ?_
      gi_wp2_with fail
      refine ⟨trivial, ?_⟩
      gi_at_call 99
      refine ((callsIn_wide (n := 2)).2 PL.out).mono ?_
      rintro e X2 ⟨rfl, hco2, ho2⟩
      have e1 := o.ob
      have e2 := o.om
      have e3 := o.orr
      have E1 : X2.heap[s + 1 + 1 + 1 + 1 + 1]? = some (.deferred (some [])) := (ho2.block _ (Array.getElem?_eq_some_iff.1 HE.out.dfr).1 (by simp; omega)).trans HE.out.dfr
      have E2 : X2.heap[d + 1]? = some (.deferred (some [])) := (ho2.block _ (Array.getElem?_eq_some_iff.1 HD2.out).1 (by simp; omega)).trans HD2.out
      have FIN := Lib.hid (show ∀ Y, Only [d + 1, s + 1 + 1 + 1 + 1 + 1] X2 Y → SettlePost b mb rg cap c x C g w (.returned (.tuple #[])) Y from fun Y hy => by
        refine ⟨rfl, (HE.out.at0.only.trans ho2).after hy (by have := o.os; intro k hk; simp at hk; omega), _, _, _, hco2.only hy (by simp; omega) (by simp; omega) (by simp; omega), by have := HE.out.few; omega, HP.out.fill hd2 hl2, HE.out.hole.fill HE.out.under HE.out.top, HE.out.perm⟩)
      have HE1 := Lib.hid E1
      have HE2 := Lib.hid E2
      clear E1 E2 hco2 ho2
      gi_wp2
      have HE3 : (X2.putObj (d + 1) (.deferred none)).heap[s + 1 + 1 + 1 + 1 + 1]? = some (.deferred (some [])) := (World.putObj_heap_other (by omega)).trans HE1.out
      refine ⟨by simp, .inl ⟨_, _, rfl, run_takeDeferred HE2.out, by simp, .inl ⟨_, _, rfl, run_takeDeferred HE3, ?_⟩⟩⟩
      exact ⟨_, results_none rfl _ _ _, FIN.out _ (((only_of_grown (grownBy_putObj' X2 (d + 1) (.deferred none))).mono (by simp)).trans ((only_of_grown (grownBy_putObj' _ (s + 1 + 1 + 1 + 1 + 1) (.deferred none))).mono (by simp)))⟩
    have KEY2 := Lib.hid key2
    have HZ9 := Lib.hid hz9
    clear key2 hK2 hz9
    refine wpIn_range_seen (by omega) (gf := 106) (lb := #[.pointer (some ⟨d, 0, none⟩)]) rfl (enters_of Tryd.func106 (by kernel_rfl) rfl)
      (encs := fun n : Nat => #[.int .i64 n]) (fun _ => rfl) (UpI w s b mb rg cap c x C g C1 g1 c1) (UpX w s b mb rg cap c x C g)
      (fun pre n => 0 < (stD C1 g1 pre).2 ∧ n = ((stD C1 g1 pre).2 - 1) / 2) (fun ys => (stD C1 g1 ys).2 = 0) (upI_own o (by rw [HZ9.out]; omega)) (fun cd => upX_own o (by rw [HZ9.out]; omega) cd) HU.out
      (fun n => { tmps := #[.pointer (some ⟨b, 0, none⟩), .int .i64 g, .agg #[.int .u64 x.d, .int .u64 x.w, .int .i64 x.h], .pointer (some ⟨s, 0, none⟩), .pointer (some ⟨s + 1, 0, none⟩), .pointer (some ⟨s + 1 + 1, 0, none⟩), undef, .int .i64 (n : Nat), .pointer (some ⟨b, 0, none⟩), .int .i64 g, .func (.func 102) #[] #[.pointer (some ⟨s + 1 + 1 + 1 + 1, 0, none⟩), .pointer (some ⟨s + 1 + 1 + 1, 0, none⟩)], undef, undef, undef, undef, undef, undef, undef, undef, undef, undef, undef, undef, undef, undef, undef, undef, undef, undef, undef, undef, undef, undef, .int .i64 g1, .func (.func 106) #[] #[.pointer (some ⟨d, 0, none⟩)], .int .i64 (n : Nat), undef, undef, undef, undef, undef, undef, undef, undef, undef, undef, undef, undef, undef, undef, undef, undef, undef, undef, undef, undef, undef, undef, undef, undef, undef], defers := [] }) ?seq ?assign ?body ?done ?stop
    case seq =>
      intro l J Jx Y hb hJ hJx hJI hY hJ0
      exact above1_in 2 (by omega) l d C1 g1 (by omega) J Jx hY Y ((hb.cell (p := ⟨d, 0, none⟩) (by rw [HZ9.out]; simp)).trans qn) hJ0
    case assign =>
      intro l n W K hK
      gi_wp2
      exact hK
    case body =>
      rintro l pre n Z hI ⟨hO1, hO2⟩
      obtain ⟨kN, hkN⟩ : ∃ kN, kN = (stD C1 g1 pre).1.length := ⟨_, rfl⟩
      obtain ⟨gp, hgp⟩ : ∃ gp, gp = (stD C1 g1 pre).2 := ⟨_, rfl⟩
      obtain ⟨y, hy⟩ : ∃ y, y = at_ (stD C1 g1 pre).1 n := ⟨_, rfl⟩
      have hn : n < kN := by rw [hkN, hO2]; have := hI.hole.lt; omega
      have hkl : kN < 1073741824 := by rw [hkN, stD_length, HL1.out]; exact hl
      obtain ⟨kc, hkc⟩ : ∃ kc, kc = cmpI y x := ⟨_, rfl⟩
      have CA := Lib.hid (compare_any y x)
      rw [← hkc] at CA
      have cs := hI.at0.cells
      obtain ⟨p0, p1, p2⟩ := hI.at0.item n (by rw [← hkN]; exact hn)
      rw [← hy] at p0 p1 p2
      have c0 := cs.c0
      rw [← hkN] at c0
      have ch := cs.h
      have cx0 := cs.x0
      have cx1 := cs.x1
      have cx2 := cs.x2
      have HI := Lib.hid hI
      have HO1 := Lib.hid hO1
      have HO2 := Lib.hid hO2
      have HK := Lib.hid hkN
      have HG := Lib.hid hgp
      have HY := Lib.hid hy
      have HC := Lib.hid hkc
      clear hI hO1 hO2 hkN hgp hy hkc cs
      obtain ⟨y0, y1, y2⟩ := y
      obtain ⟨x0, x1, x2⟩ := x
      dsimp only at p0 p1 p2 cx0 cx1 cx2 CA ⊢
      gi_wp2
      refine round_tail 8 (by kernel_rfl) (by kernel_rfl) (by kernel_rfl) ?_
      simp only [List.take_succ_cons, List.take_zero, List.drop_succ_cons, List.drop_zero]
      repeat still_step
      refine wpStill_nil ?_
      go_wp2_with fail
      go_at_call 98
      refine (CA.out _).mono ?_
      rintro e Z1 ⟨rfl, hb⟩
      by_cases hkc : kc < 0
      · have hcd : decide (kc < 0) = true := by simpa using hkc
        have FIN := Lib.hid (show KeepsFrom W9.heap.size Z Z1 ∧ UpX w s b mb rg cap c ⟨x0, x1, x2⟩ C g (.exit 2) (pre ++ [n]) Z1 by
          refine ⟨keepsFrom_of (Only.of_below (F := []) ((Below.refl _ Z).drew.trans hb)) (by simp), rfl, _, _, _, ((HI.out.keep o (F := []) (Only.of_below ((Below.refl _ Z).drew.trans hb)) (by simp)).ended hc1 HL1.out hg1 (fun _ => ltI_asymm ?_))⟩
          rw [← HO2.out, ← HY.out, ← cmpI_neg, ← HC.out]; exact hkc)
        go_wp2_with fail
        refine justNormal_mk ?_
        gi_wp2
        exact FIN.out
      · have hcd : decide (kc < 0) = false := by simpa using hkc
        have hZ1 : Only [] Z Z1 := Only.of_below ((Below.refl _ Z).drew.trans hb)
        have hI1 := HI.out.keep o hZ1 (by simp)
        have cs := hI1.at0.cells
        obtain ⟨r0, r1, r2⟩ := hI1.at0.item n (by rw [← HK.out]; exact hn)
        rw [← HY.out] at r0 r1 r2
        have d0 := cs.c0
        rw [← HK.out] at d0
        have dh := cs.h
        have dg := cs.g
        rw [← HG.out] at dg
        have hdd : Distinct ((stD C1 g1 pre).1.set (stD C1 g1 pre).2 ⟨x0, x1, x2⟩) := hd.perm hI1.perm
        have hI2 := hI1.keep o (F := []) (Only.refl _ _).drew (by simp)
        have MV := Lib.hid (hI2.at0.move o n hI1.hole.lt (by rw [← HK.out]; exact hn) (by have := HO1.out; have := HO2.out; omega) hdd (by rw [← HK.out]; omega) (fun z hz => hx z (hI1.perm.mem_iff.1 hz)) (by have := hI1.few; omega))
        rw [← HY.out, ← HG.out] at MV
        have HI1 := Lib.hid hI2
        have HW1 := Lib.hid (hZ1.drew)
        clear hI1 hI2 cs hdd hb p0 p1 p2 c0 ch cx0 cx1 cx2 hZ1
        dsimp only at r0 r1 r2 MV
        go_wp2_with fail
        refine justNormal_mk ?_
        gi_wp2
        refine round_tail 9 (by kernel_rfl) (by kernel_rfl) (by kernel_rfl) ?_
        simp only [List.take_succ_cons, List.take_zero, List.drop_succ_cons, List.drop_zero]
        repeat still_step
        refine wpStill_nil ?_
        go_wp2_with fail
        go_at_call 99
        refine MV.out.mono ?_
        rintro e Z2 ⟨rfl, ho2, hs2, hL2, hf2, hg2⟩
        have FIN := Lib.hid (show KeepsFrom W9.heap.size Z (Z2.setCell ⟨s + 1, 0, none⟩ (.int .i64 n)) ∧ True ∧ UpI w s b mb rg cap c ⟨x0, x1, x2⟩ C g C1 g1 c1 (pre ++ [n]) (Z2.setCell ⟨s + 1, 0, none⟩ (.int .i64 n)) by
          rw [HY.out, HG.out] at hL2
          refine ⟨keepsFrom_of (F := [rg, mb, s + 1]) ?_ ?_, trivial, HI1.out.step o HO1.out HO2.out (by rw [← HY.out, ← cmpI_neg, ← HC.out]; omega) ho2 hL2⟩
          · exact ((HW1.out.mono (by simp)).trans (ho2.mono (by simp))).setCell (p := ⟨s + 1, 0, none⟩) (Or.inl (by simp)) _
          · have := o.ob; have := o.om; have := o.orr
            rw [HZ9.out]; intro k hk; simp at hk; omega)
        clear ho2 hL2
        go_wp2_with fail
        refine justNormal_mk ?_
        gi_wp2
        exact FIN.out
    case done =>
      rintro ys X he h hD
      rw [HZ9.out] at hD ⊢
      exact KEY2.out X _ _ _ (h.ended hc1 HL1.out hg1 (fun h0 => by omega)) hD
    case stop =>
      rintro cd pre X ⟨rfl, C2, g2, c2, h⟩ hD
      rw [HZ9.out] at hD ⊢
      gi_wp2
      exact KEY2.out X _ _ _ h hD
  have KEY := Lib.hid key
  have HSZ := Lib.hid hsz
  clear key hK hsz
  refine wpIn_range_seen (by omega) (gf := 102) (lb := #[.pointer (some ⟨s + 1 + 1 + 1 + 1, 0, none⟩), .pointer (some ⟨s + 1 + 1 + 1, 0, none⟩)]) rfl (enters_of Tryd.func102 (by kernel_rfl) rfl)
    (encs := fun n : Nat => #[.int .i64 n]) (fun _ => rfl) (DownI w s b mb rg cap c x C g) (DownX w s b mb rg cap c x C g)
    (fun pre n => Lower (stD C g pre).1 (stD C g pre).2 n) (fun ys => C.length ≤ 2 * (stD C g ys).2 + 1) (downI_own o (by rw [HSZ.out]; omega)) (fun cd => downX_own o (by rw [HSZ.out]; omega) cd) I0
    (fun n => { tmps := #[.pointer (some ⟨b, 0, none⟩), .int .i64 g, .agg #[.int .u64 x.d, .int .u64 x.w, .int .i64 x.h], .pointer (some ⟨s, 0, none⟩), .pointer (some ⟨s + 1, 0, none⟩), .pointer (some ⟨s + 1 + 1, 0, none⟩), .int .i64 (n : Nat), undef, .pointer (some ⟨b, 0, none⟩), .int .i64 g, .func (.func 102) #[] #[.pointer (some ⟨s + 1 + 1 + 1 + 1, 0, none⟩), .pointer (some ⟨s + 1 + 1 + 1, 0, none⟩)], .int .i64 (n : Nat), undef, undef, undef, undef, undef, undef, undef, undef, undef, undef, undef, undef, undef, undef, undef, undef, undef, undef, undef, undef, undef, undef, undef, undef, undef, undef, undef, undef, undef, undef, undef, undef, undef, undef, undef, undef, undef, undef, undef, undef, undef, undef, undef, undef, undef, undef, undef, undef, undef], defers := [] }) ?seq ?assign ?body ?done ?stop
  case seq =>
    intro l J Jx W hb hJ hJx hJI hY hJ0
    exact below1_in 2 (by omega) l (s + 1 + 1 + 1) (s + 1 + 1 + 1 + 1) b rg cap C g hH.lt hl J Jx (fun pre X h => (hJI pre X h).reads)
      (fun pre X Y h hb => hJ pre X Y none h ⟨hb.os, hb.tape, hb.output, hb.size, fun k hk _ => hb.block k hk⟩ (fun r e => by cases e)) hY W hJ0
  case assign =>
    intro l n W K hK
    gi_wp2
    exact hK
  case body =>
    rintro l pre n W hI hOk
    obtain ⟨kN, hkN⟩ : ∃ kN, kN = (stD C g pre).1.length := ⟨_, rfl⟩
    obtain ⟨gp, hgp⟩ : ∃ gp, gp = (stD C g pre).2 := ⟨_, rfl⟩
    obtain ⟨y, hy⟩ : ∃ y, y = at_ (stD C g pre).1 n := ⟨_, rfl⟩
    have hn : n < kN := by rw [hkN]; exact hOk.1
    have hkl : kN < 1073741824 := by rw [hkN, stD_length]; exact hl
    obtain ⟨kc, hkc⟩ : ∃ kc, kc = cmpI y x := ⟨_, rfl⟩
    have CA := Lib.hid (compare_any y x)
    rw [← hkc] at CA
    have cs := hI.at0.cells
    obtain ⟨p0, p1, p2⟩ := hI.at0.item n hOk.1
    rw [← hy] at p0 p1 p2
    have c0 := cs.c0
    rw [← hkN] at c0
    have ch := cs.h
    have cx0 := cs.x0
    have cx1 := cs.x1
    have cx2 := cs.x2
    have HI := Lib.hid hI
    have HO := Lib.hid hOk
    have HK := Lib.hid hkN
    have HG := Lib.hid hgp
    have HY := Lib.hid hy
    have HC := Lib.hid hkc
    clear hI hOk hkN hgp hy hkc cs
    obtain ⟨y0, y1, y2⟩ := y
    obtain ⟨x0, x1, x2⟩ := x
    dsimp only at p0 p1 p2 cx0 cx1 cx2 CA ⊢
    gi_wp2
    refine round_tail 8 (by kernel_rfl) (by kernel_rfl) (by kernel_rfl) ?_
    simp only [List.take_succ_cons, List.take_zero, List.drop_succ_cons, List.drop_zero]
    repeat still_step
    refine wpStill_nil ?_
    go_wp2_with fail
    go_at_call 98
    refine (CA.out _).mono ?_
    rintro e W1 ⟨rfl, hb⟩
    by_cases hkc : 0 < kc
    · have hcd : decide (0 < kc) = true := by simpa using hkc
      have FIN := Lib.hid (show KeepsFrom W0.heap.size W W1 ∧ DownX w s b mb rg cap c ⟨x0, x1, x2⟩ C g (.exit 0) (pre ++ [n]) W1 by
        refine ⟨keepsFrom_of (Only.of_below (F := []) ((Below.refl _ W).drew.trans hb)) (by simp), rfl, _, _, _, ((HI.out.keep o (F := []) (Only.of_below ((Below.refl _ W).drew.trans hb)) (by simp)).stopped HO.out ?_)⟩
        rw [← HY.out, ← cmpI_pos, ← HC.out]; exact hkc)
      go_wp2_with fail
      refine justNormal_mk ?_
      gi_wp2
      exact FIN.out
    · have hcd : decide (0 < kc) = false := by simpa using hkc
      have hW1 : Only [] W W1 := Only.of_below ((Below.refl _ W).drew.trans hb)
      have hI1 := HI.out.keep o hW1 (by simp)
      have cs := hI1.at0.cells
      obtain ⟨r0, r1, r2⟩ := hI1.at0.item n HO.out.1
      rw [← HY.out] at r0 r1 r2
      have d0 := cs.c0
      rw [← HK.out] at d0
      have dh := cs.h
      have dg := cs.g
      rw [← HG.out] at dg
      have hdd : Distinct ((stD C g pre).1.set (stD C g pre).2 ⟨x0, x1, x2⟩) := hd.perm hI1.perm
      have hI2 := hI1.keep o (F := []) (Only.refl _ _).drew (by simp)
      have MV := Lib.hid (hI2.at0.move o n hI1.hole.lt HO.out.1 (by have := HO.out.2.1; have := HO.out.2.2.1; omega) hdd (by rw [← HK.out]; omega) (fun z hz => hx z (hI1.perm.mem_iff.1 hz)) (by have := hI1.few; have := hI1.lt; omega))
      rw [← HY.out, ← HG.out] at MV
      have hgn : gp < n := by have := HO.out.2.1; have := HO.out.2.2.1; rw [HG.out]; omega
      have HI1 := Lib.hid hI2
      have HW1 := Lib.hid (hW1.drew)
      clear hI1 hI2 cs hdd hb p0 p1 p2 c0 ch cx0 cx1 cx2 hW1
      dsimp only at r0 r1 r2 MV
      go_wp2_with fail
      refine justNormal_mk ?_
      gi_wp2
      refine round_tail 9 (by kernel_rfl) (by kernel_rfl) (by kernel_rfl) ?_
      simp only [List.take_succ_cons, List.take_zero, List.drop_succ_cons, List.drop_zero]
      repeat still_step
      refine wpStill_nil ?_
      go_wp2_with fail
      go_at_call 99
      refine MV.out.mono ?_
      rintro e W2 ⟨rfl, ho2, hs2, hL2, hf2, hg2⟩
      have FIN := Lib.hid (show KeepsFrom W0.heap.size W (W2.setCell ⟨s + 1, 0, none⟩ (.int .i64 n)) ∧ True ∧ DownI w s b mb rg cap c ⟨x0, x1, x2⟩ C g (pre ++ [n]) (W2.setCell ⟨s + 1, 0, none⟩ (.int .i64 n)) by
        rw [HY.out, HG.out] at hL2
        refine ⟨keepsFrom_of (F := [rg, mb, s + 1]) ?_ ?_, trivial, HI1.out.step o HO.out ho2 hL2⟩
        · exact ((HW1.out.mono (by simp)).trans (ho2.mono (by simp))).setCell (p := ⟨s + 1, 0, none⟩) (Or.inl (by simp)) _
        · have := o.ob; have := o.om; have := o.orr
          rw [HSZ.out]; intro k hk; simp at hk; omega)
      clear ho2 hL2
      go_wp2_with fail
      refine justNormal_mk ?_
      gi_wp2
      exact FIN.out
  case done =>
    rintro ys W he h hD
    rw [HSZ.out] at hD ⊢
    exact KEY.out W _ _ _ (h.ended he) hD
  case stop =>
    rintro cd pre W ⟨rfl, C1, g1, c1, h⟩ hD
    rw [HSZ.out] at hD ⊢
    gi_wp2
    exact KEY.out W _ _ _ h hD
end Go.Proofs.YtobbmhboahognaaDoor
