/- Put (layer 7): an item is added. The conditions: the queue is not too long, its last handle not too great, and its map has room. -/
import Derived.Test.YtobbmhboahognaaDoorHeapRemove
namespace Go.Proofs.YtobbmhboahognaaDoor
open Go.RowKit
set_option linter.unusedVariables false

theorem info_itm : (Tryd.prog.info? 171).map (fun i => (i.zero, i.size, i.bytes)) = some (some (.agg #[.int .u64 0, .int .u64 0, .int .i64 0]), 3, 24) := by kernel_rfl
theorem add0 (g j : Nat) : (⟨g, 0, none⟩ : Addr).add j = ⟨g, j, none⟩ := by unfold Addr.add; split <;> simp_all

/-- One item behind the others. -/
theorem run_append_itm {w : World} {B : Nat} {v : Value} {L : List Itm} (h : w.ownsRow B 171 3 v L.length (flatI L)) (hs : L.length < 1073741824) (x : Itm) (q : Nat) (hq : w.heap[q]? = some (.cells #[.int .u64 x.d, .int .u64 x.w, .int .i64 x.h] 171 (0, 0))) (hB : B ≤ w.heap.size) (ty : TypeId) :
    ∃ v' w', (Builtin.append_ #[166, 166] ty #[v, .slice (some ⟨q, 0, none⟩) 1 1]).run Tryd.prog w = .ok v' w' ∧ w'.ownsRow B 171 3 v' (L.length + 1) (flatI (L ++ [x])) ∧ (∀ k, v'.ownBlock = some k → v.ownBlock = some k ∨ w.heap.size ≤ k) ∧ Only v.ownBlock.toList w w' := by
  obtain ⟨i0, hi0, hz0, hz1, hz2⟩ := info_parts info_itm
  have hsrc : ∀ j u, x.cs[j]? = some u → w.cell? ((⟨q, 0, none⟩ : Addr).add j) = some u := fun j u hu => by
    rw [add0, cell_of_row w q j _ _ (0, 0) hq]
    simpa [Itm.cs] using hu
  have h1 : ∀ u ∈ x.cs, u.oneCell' = true := by intro u hu; simp [Itm.cs] at hu; rcases hu with rfl | rfl | rfl <;> rfl
  have hm : L.length + 1 ≤ maxLen := by unfold maxLen; omega
  have hfl : flatI (L ++ [x]) = flatI L ++ x.cs := by rw [flatI_append]; rfl
  obtain ⟨v', w', hr, h2, h3, h4⟩ := run_append_own (P := Tryd.prog) w B 166 ty 171 i0 _ 3 24 Tryd.underlying166 hi0 hz0 hz1 hz2 rfl (by decide) v L.length (flatI L) h ⟨q, 0, none⟩ 1 1 x.cs rfl hsrc h1 hm (by omega) hB
  refine ⟨v', w', hr, by rw [hfl]; exact h2, ?_, only_of_grown h3⟩
  intro k hk
  rcases h.2 with ⟨rfl, e⟩ | ⟨g, cap, cur, rfl, hb, hgg, hn, hmc, hsz, ht⟩
  · obtain ⟨v2, w2, hr2, k2, _, _⟩ := run_append_own (P := Tryd.prog) w w.heap.size 166 ty 171 i0 _ 3 24 Tryd.underlying166 hi0 hz0 hz1 hz2 rfl (by decide) (.slice none 0 0) 0 [] (World.ownsRow_nil _ _ _ _) ⟨q, 0, none⟩ 1 1 x.cs rfl hsrc h1 (by unfold maxLen; omega) (by omega) (Nat.le_refl _)
    rw [hr] at hr2
    cases hr2
    exact .inr (k2.lt k hk).1
  · by_cases hroom : L.length + 1 ≤ cap
    · have hr2 := run_append_room (P := Tryd.prog) w 166 ty 171 i0 Tryd.underlying166 hi0 g L.length cap cur hgg ⟨q, 0, none⟩ 1 1 x.cs (by rw [hz1]; rfl) hsrc h1 hroom (by rw [hz1, hsz]; simp [Itm.cs]; omega)
      rw [hr] at hr2
      cases hr2
      exact .inl hk
    · have hr2 := run_append_grow (P := Tryd.prog) w 166 ty 171 i0 _ Tryd.underlying166 hi0 hz0 ⟨g, 0, none⟩ L.length cap (flatI L) (by rw [hz1]; exact flatI_length L) (by exact h.cells (g := g) rfl) ⟨q, 0, none⟩ 1 1 x.cs (by rw [hz1]; rfl) hsrc (by omega) (by omega) (by rw [hz2]; exact growslice_fits (by omega) (by omega))
      rw [hr] at hr2
      cases hr2
      refine .inr ?_
      simp only [Value.ownBlock, Option.some.injEq] at hk
      omega

theorem step_call {ops : Array Oper} {o : Oper} {a : Act} {K : Act → World → Prop} {Q : Exit → Act → World → Prop} {E : Prop} (hg : o.guard = none) (d x : Operand) (dT sT : TypeId) (hop : o.op = Op.call { callee := Callee.builtin Builtin.append, args := #[d, x], argTypes := #[dT, sT] })
    (v u : Value) (hd : a.eval d = v) (hx : a.eval x = u) {v' : Value} {w w' : World} (hr : (Builtin.append_ #[dT, sT] o.type #[v, u]).run Tryd.prog w = .ok v' w') (hK : K (a.put o.dst v') w') :
    if Region.wanted o (yielded ops a.tmps) = true then Oper.wp Tryd.prog o a w K Q else E := by
  have hw : Region.wanted o (yielded ops a.tmps) = true := by simp [Region.wanted, hg]
  rw [if_pos hw]
  unfold Oper.wp
  simp [execOp, hop, resolve, invoke, builtin, hd, hx, hr, Result.andThen]
  exact hK

/-- Append at the end of a heap: a gap there. -/
theorem at_append (L : List Itm) (x : Itm) (i : Nat) : at_ (L ++ [x]) i = if i < L.length then at_ L i else if i = L.length then x else itm0 := by
  unfold at_
  rw [List.getD_eq_getElem?_getD, List.getElem?_append]
  by_cases h : i < L.length
  · rw [if_pos h, if_pos h, List.getD_eq_getElem?_getD]
  · rw [if_neg h, if_neg h]
    by_cases h2 : i = L.length
    · subst h2; simp
    · rw [if_neg h2, List.getElem?_eq_none (by simp; omega)]; rfl
theorem Heaped.append {L : List Itm} (h : Heaped L) (x : Itm) : Hole (L ++ [x]) L.length := by
  refine ⟨by simp, fun i i0 il hi hp => ?_, fun g0 i i0 il hp => by simp at il; omega⟩
  simp only [List.length_append, List.length_cons, List.length_nil] at il
  rw [at_append, at_append, if_pos (by omega), if_pos (by omega)]
  exact h i i0 (by omega)
theorem set_append_last (L : List Itm) (x y : Itm) : (L ++ [x]).set L.length y = L ++ [y] := by rw [List.set_append_right _ _ (Nat.le_refl _)]; simp
theorem PosAll.append {L : List Itm} {f : Int → Option Nat} (h : PosAll L f) (x : Itm) : PosOK (L ++ [x]) L.length x f := by
  intro k hk i
  rw [h k i]
  simp only [List.length_append, List.length_cons, List.length_nil]
  constructor
  · rintro ⟨h1, h2⟩; exact ⟨by omega, by omega, by rw [at_append, if_pos h1]; exact h2⟩
  · rintro ⟨h1, h2, h3⟩
    rw [at_append, if_pos (by omega)] at h3
    exact ⟨by omega, h3⟩
theorem Distinct.append {L : List Itm} (h : Distinct L) (x : Itm) (hx : ∀ y ∈ L, y.h ≠ x.h) : Distinct (L ++ [x]) := by
  rw [distinct_iff] at *
  rw [List.map_append, List.nodup_append]
  refine ⟨h, by simp, fun a ha b hb => ?_⟩
  simp at hb; subst hb
  obtain ⟨y, hy, rfl⟩ := List.mem_map.1 ha
  exact hx y hy

/-- What Put leaves. -/
def PutPost (b mb N : Nat) (v : Value) (c : Nat) (L : List Itm) (last : Nat) (x : Itm) (W : World) (e : Ending) (W' : World) : Prop :=
  e = .returned (.int .i64 ((last : Int) + 1)) ∧ ∃ v' c' L', Turned W b mb N v c W' v' c' L' (last + 1) ∧ L'.Perm (x :: L) ∧ c' ≤ c + 2 * L.length + 3

set_option maxRecDepth 100000 in
set_option maxHeartbeats 4000000 in
theorem put_any {w : World} {b mb N c : Nat} {v : Value} {L : List Itm} {last : Nat} (h : HeapAt w b mb N v c L last) (d u : Int) (hl : L.length < 1073741822) (hlast : last < 1073741823) (hc : c + 2 * L.length + 2 < maxLen) :
    Calls Tryd.prog 61 #[.pointer (some ⟨b, 0, none⟩), .int .u64 d, .int .u64 u] w (PutPost b mb N v c L last ⟨d, u, (last : Int) + 1⟩ w) := by
  have hl1 : L.length < 1073741824 := by omega
  have c2 := h.c2
  have f2 := h.row.free 2 (by simp)
  have hbl := h.row.lt
  have o1 : Only [b] w ((w.setCell ⟨b, 2, none⟩ (.int .i64 ((last : Int) + 1))).alloc (.cells #[.int .u64 d, .int .u64 u, .int .i64 ((last : Int) + 1)] 171)) := ((Only.refl _ w).setCell (p := ⟨b, 2, none⟩) (Or.inl (by simp)) _).alloc _
  have r1 : Row ((w.setCell ⟨b, 2, none⟩ (.int .i64 ((last : Int) + 1))).alloc (.cells #[.int .u64 d, .int .u64 u, .int .i64 ((last : Int) + 1)] 171)) b [v, .map (some mb), .int .i64 ((last : Int) + 1)] := (h.row.set 2 (by simp) (.int .i64 ((last : Int) + 1))).alloc _
  have x1 : ((w.setCell ⟨b, 2, none⟩ (.int .i64 ((last : Int) + 1))).alloc (.cells #[.int .u64 d, .int .u64 u, .int .i64 ((last : Int) + 1)] 171)).heap[w.heap.size]? = some (.cells #[.int .u64 d, .int .u64 u, .int .i64 ((last : Int) + 1)] 171 (0, 0)) := by
    have := World.alloc_heap_new (w.setCell ⟨b, 2, none⟩ (.int .i64 ((last : Int) + 1))) (.cells #[.int .u64 d, .int .u64 u, .int .i64 ((last : Int) + 1)] 171)
    rwa [show (w.setCell ⟨b, 2, none⟩ (.int .i64 ((last : Int) + 1))).heap.size = w.heap.size by simp [World.setCell]] at this
  have z1 : ((w.setCell ⟨b, 2, none⟩ (.int .i64 ((last : Int) + 1))).alloc (.cells #[.int .u64 d, .int .u64 u, .int .i64 ((last : Int) + 1)] 171)).heap.size = w.heap.size + 1 := by simp [World.setCell]
  have H := Lib.hid h
  clear h
  go_enter Tryd.func61, Tryd.ntmps61
  go_wp2
  obtain ⟨s, hs⟩ : ∃ s, s = w.heap.size := ⟨_, rfl⟩
  simp only [← hs] at x1 z1 ⊢
  have HS := Lib.hid hs
  have ho0 := H.out.own
  have ho1 : ((w.setCell ⟨b, 2, none⟩ (.int .i64 ((last : Int) + 1))).alloc (.cells #[.int .u64 d, .int .u64 u, .int .i64 ((last : Int) + 1)] 171)).ownsRow N 171 3 v L.length (flatI L) := ownsRow_only ho0 o1 (fun k hk => by
    have := (ho0.lt k hk).1; have := H.out.bN; simp; omega)
  generalize ((w.setCell ⟨b, 2, none⟩ (.int .i64 ((last : Int) + 1))).alloc (.cells #[.int .u64 d, .int .u64 u, .int .i64 ((last : Int) + 1)] 171)) = W1 at *
  have e0 : W1.cell? ⟨b, 0, none⟩ = some v := r1.cell 0 (by simp)
  have y0 : W1.cell? ⟨s, 0, none⟩ = some (.int .u64 d) := cell_of_row W1 _ 0 _ _ _ x1
  have y1 : W1.cell? ⟨s, 1, none⟩ = some (.int .u64 u) := cell_of_row W1 _ 1 _ _ _ x1
  have y2 : W1.cell? ⟨s, 2, none⟩ = some (.int .i64 ((last : Int) + 1)) := cell_of_row W1 _ 2 _ _ _ x1
  have hsl : s < W1.heap.size := by omega
  have hbl1 : b < W1.heap.size := r1.lt
  have vown : ∀ k, v.ownBlock = some k → N ≤ k ∧ k < s := fun k hk => by rw [hs]; exact ho0.lt k hk
  have hbN := H.out.bN
  have hmN := H.out.mN
  obtain ⟨v', W2, hr, ho2, hj2, hon2⟩ := run_append_itm (w := (W1.alloc (.cells #[.int .u64 d, .int .u64 u, .int .i64 ((last : Int) + 1)] 171)).drew) (ho1.alloc (.cells #[.int .u64 d, .int .u64 u, .int .i64 ((last : Int) + 1)] 171)).drew hl1 ⟨d, u, (last : Int) + 1⟩ W1.heap.size (World.alloc_heap_new W1 _) (by have := H.out.NW; simp; omega) 166
  obtain ⟨g, cap, rfl⟩ := ownsRow_succ ho2
  have hbo : b ∉ v.ownBlock.toList := fun hk => by have := (vown b (by simpa using hk)).1; omega
  have hmo : mb ∉ v.ownBlock.toList := fun hk => by have := (vown mb (by simpa using hk)).1; omega
  have hso : s ∉ v.ownBlock.toList := fun hk => by have := (vown s (by simpa using hk)).2; omega
  have hgb : N ≤ g ∧ (g < s → v.ownBlock = some g) := by
    rcases hj2 g rfl with hk | hk
    · exact ⟨(vown g hk).1, fun _ => hk⟩
    · simp at hk; exact ⟨by have := H.out.NW; omega, fun _ => by omega⟩
  have hgs : g ≠ s := fun e => by
    rcases hj2 g rfl with hk | hk
    · have := (vown g hk).2; omega
    · simp at hk; omega
  have o2 : Only v.ownBlock.toList W1 W2 := Only.trans (((Only.refl _ W1).alloc _).drew) hon2
  have R2 := r1.only o2 hbo
  have R3 := R2.set 0 (by simp) (.slice (some ⟨g, 0, none⟩) (L.length + 1) cap)
  have o3 : Only [b] W2 (W2.setCell ⟨b, 0, none⟩ (.slice (some ⟨g, 0, none⟩) (L.length + 1) cap)) := (Only.refl [b] W2).setCell (p := ⟨b, 0, none⟩) (Or.inl (by simp)) _
  have I2 : IRow W2 g cap (L ++ [⟨d, u, (last : Int) + 1⟩]) := by
    rcases ho2.2 with ⟨hn, _⟩ | ⟨g9, cap9, cur, e9, hb9, hgg, hn9, hm9, hs9, ht9⟩
    · cases hn
    · cases e9
      exact ⟨cur, hgg, hs9, by simpa using hn9, hm9, by simpa using ht9⟩
  obtain ⟨f, hpos, hall⟩ := H.out.pos
  have hmw : mb < s := by rw [hs]; exact hpos.lt
  have hbs : b < s := by rw [hs]; exact hbl
  have hbm : b ≠ mb := by
    rintro rfl
    obtain ⟨es, ck, h2⟩ := hpos.isMap
    have := H.out.c0
    simp [World.cell?, h2] at this
  have P1 := hpos.block (o1.block mb (by rw [← hs]; exact hmw) (by simp; exact fun e => hbm e.symm))
  have P2 := P1.block (o2.block mb (by omega) hmo)
  have P3 := P2.block (o3.block mb P2.lt (by simp; exact fun e => hbm e.symm))
  have I3 := I2.block (o3.block g I2.lt (by simp; omega))
  have X2 := (o2.block s hsl hso).trans x1
  have X3 := (o3.block s (Array.getElem?_eq_some_iff.1 X2).1 (by simp; omega)).trans X2
  have O3 : Only (b :: mb :: v.ownBlock.toList) w (W2.setCell ⟨b, 0, none⟩ (.slice (some ⟨g, 0, none⟩) (L.length + 1) cap)) :=
    ((o1.mono (by simp)).trans (o2.mono (by intro k hk; simp [hk]))).trans (o3.mono (by simp))
  have C3 : Core (W2.setCell ⟨b, 0, none⟩ (.slice (some ⟨g, 0, none⟩) (L.length + 1) cap)).drew b mb g cap c (L ++ [⟨d, u, (last : Int) + 1⟩]) f :=
    ⟨by rw [List.length_append]; exact R3.cell 0 (by simp), R3.cell 1 (by simp), I3.block rfl, P3.block rfl, by omega⟩
  have hnew : ∀ y ∈ L, y.h ≠ (last : Int) + 1 := fun y hy => by have := H.out.hs y hy; omega
  have hD := H.out.dist.append ⟨d, u, (last : Int) + 1⟩ hnew
  have SE := Lib.hid ((callsIn_wide (n := 3)).1 (settle_in C3 L.length ⟨d, u, (last : Int) + 1⟩ (hall.append _) (H.out.heap.append _) (by rw [set_append_last]; exact hD) (by simp; omega)
    (fun z hz => by
      rw [set_append_last] at hz
      rcases List.mem_append.1 hz with hz | hz
      · have := H.out.hs z hz; exact WalkArith.wf_i64 (by omega)
      · simp at hz; subst hz; exact WalkArith.wf_i64 (by show _ ∧ _; dsimp only; omega)) (by simp; omega)))
  have e2 : W2.cell? ⟨b, 0, none⟩ = some v := R2.cell 0 (by simp)
  have f20 : W2.frozen? ⟨b, 0, none⟩ = false := R2.free 0 (by simp)
  have e3 : (W2.setCell ⟨b, 0, none⟩ (.slice (some ⟨g, 0, none⟩) (L.length + 1) cap)).cell? ⟨b, 0, none⟩ = some (.slice (some ⟨g, 0, none⟩) (L.length + 1) cap) := R3.cell 0 (by simp)
  have k0 : (W2.setCell ⟨b, 0, none⟩ (.slice (some ⟨g, 0, none⟩) (L.length + 1) cap)).cell? ⟨s, 0, none⟩ = some (.int .u64 d) := cell_of_row _ _ 0 _ _ _ X3
  have k1 : (W2.setCell ⟨b, 0, none⟩ (.slice (some ⟨g, 0, none⟩) (L.length + 1) cap)).cell? ⟨s, 1, none⟩ = some (.int .u64 u) := cell_of_row _ _ 1 _ _ _ X3
  have k2 : (W2.setCell ⟨b, 0, none⟩ (.slice (some ⟨g, 0, none⟩) (L.length + 1) cap)).cell? ⟨s, 2, none⟩ = some (.int .i64 ((last : Int) + 1)) := cell_of_row _ _ 2 _ _ _ X3
  obtain ⟨n, hn⟩ : ∃ n, n = L.length := ⟨_, rfl⟩
  have FIN := Lib.hid (show ∀ W5, SettlePost b mb g cap c ⟨d, u, (last : Int) + 1⟩ (L ++ [⟨d, u, (last : Int) + 1⟩]) L.length (W2.setCell ⟨b, 0, none⟩ (.slice (some ⟨g, 0, none⟩) (L.length + 1) cap)).drew (.returned (.tuple #[])) W5 →
      PutPost b mb N v c L last ⟨d, u, (last : Int) + 1⟩ w (.returned (.int .i64 ((last : Int) + 1))) W5 ∧ W5.cell? ⟨s, 2, none⟩ = some (.int .i64 ((last : Int) + 1)) from fun W5 hW => by
    obtain ⟨_, ho5, L', f', c', hcore, hc', hpa, hh, hp'⟩ := hW
    rw [set_append_last] at hp'
    have hpL : L'.Perm (⟨d, u, (last : Int) + 1⟩ :: L) := hp'.trans List.perm_append_comm
    have R5 := (R3.drew).only ho5 (by simp; omega)
    refine ⟨⟨rfl, .slice (some ⟨g, 0, none⟩) L'.length cap, c', L', ⟨?_, ?_, ?_⟩, hpL, by simp at hc'; omega⟩, ?_⟩
    · refine HeapAt.ofCore hcore ?_ (fun j hj => R5.free j (by simpa using hj)) hpa hh (hD.perm hp') (fun z hz => ?_) H.out.bN H.out.mN hgb.1
      · have := R5.cell 2 (by simp); simpa using this
      · rcases List.mem_cons.1 (hpL.mem_iff.1 hz) with rfl | hz
        · simp; omega
        · have := H.out.hs z hz; simp; omega
    · intro k hk
      simp only [Value.ownBlock, Option.some.injEq] at hk
      subst hk
      rcases Nat.lt_or_ge g s with hk | hk
      · exact .inl (hgb.2 hk)
      · exact .inr (by omega)
    · rcases Nat.lt_or_ge g s with hk | hk
      · exact (O3.trans (Only.drew (Only.refl _ _))).trans (ho5.mono (by
          intro k hk'
          simp at hk'
          rcases hk' with rfl | rfl
          · simp [hgb.2 hk]
          · simp))
      · have oo : Only [mb, g] (W2.setCell ⟨b, 0, none⟩ (.slice (some ⟨g, 0, none⟩) (L.length + 1) cap)) W5 := (Only.drew (Only.refl _ _)).trans (ho5.mono (by
          intro k hk'
          simp at hk' ⊢
          omega))
        refine ⟨oo.os.trans O3.os, oo.tape.trans O3.tape, oo.output.trans O3.output, Nat.le_trans O3.size oo.size, fun k hk1 hk2 => ?_⟩
        have hkm : k ≠ mb := fun e => hk2 (by simp [e])
        rw [oo.block k (Nat.lt_of_lt_of_le hk1 O3.size) (by simp; omega)]
        exact O3.block k hk1 hk2
    · rw [World.cell?_of_block (w := (W2.setCell ⟨b, 0, none⟩ (.slice (some ⟨g, 0, none⟩) (L.length + 1) cap)).drew) (a := ⟨s, 2, none⟩) (ho5.block s (by simp only [World.drew]; exact (Array.getElem?_eq_some_iff.1 X3).1) (by simp; omega))]
      exact k2)
  rw [← hn] at SE FIN e3 k0 k1 k2 hr
  have HRUN := Lib.hid hr
  have hn1 : n < 1073741824 := by omega
  clear hr ho2 hj2 hon2 o2 R2 R3 o3 I2 hpos hall P1 P2 P3 I3 X2 X3 O3 C3 hnew hD ho0 ho1 x1 r1 z1 o1 hn vown hl hl1 hc c2 f2 hs
  go_region_law (refine step_call rfl (.tmp 26) (.tmp 28) 166 166 rfl v _ (by simp [Act.eval]) (by simp [Act.eval]) HRUN.out ?_)
  all_goals
    go_wp2
    refine region_tail 8 (by kernel_rfl) (by kernel_rfl) ?_
    simp only [List.take_succ_cons, List.take_zero, List.drop_succ_cons, List.drop_zero]
    repeat still_step
    refine wpStill_nil ?_
    go_wp2_with fail
    go_at_call 89
    refine SE.out.mono ?_
    rintro e W5 hW
    obtain ⟨hF, hc5⟩ := FIN.out W5 (by have := hW.1; subst this; exact hW)
    obtain rfl := hW.1
    have HF := Lib.hid hF
    clear hW hF
    go_wp2_with fail
    go_ret
    exact HF.out
end Go.Proofs.YtobbmhboahognaaDoor
