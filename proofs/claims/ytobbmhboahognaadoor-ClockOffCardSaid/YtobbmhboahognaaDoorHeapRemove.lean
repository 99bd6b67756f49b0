/- remove (layer 7): an item is taken out; the last one fills its place. The conditions: the index is of the queue, which is not too long, and its map has room. -/
import Derived.Test.YtobbmhboahognaaDoorHeapState
import Derived.Test.YtobbmhboahognaaDoorHeapPlain2
import Derived.RegionTactic
import Derived.BigRegion
import Derived.Deep.RegionHeld3
namespace Go.Proofs.YtobbmhboahognaaDoor
open Go.RowKit
set_option linter.unusedVariables false

theorem HeapAt.ofCore {W : World} {b mb N g cap c : Nat} {L : List Itm} {last : Nat} {f : Int → Option Nat} (h : Core W b mb g cap c L f) (r2 : W.cell? ⟨b, 2, none⟩ = some (.int .i64 last)) (r3 : ∀ i, i < 3 → W.frozen? ⟨b, i, none⟩ = false) (hf : PosAll L f) (hh : Heaped L) (hd : Distinct L) (hs : ∀ x ∈ L, 1 ≤ x.h ∧ x.h ≤ last)
    (hb : b < N) (hm : mb < N) (hN : N ≤ g) : HeapAt W b mb N (.slice (some ⟨g, 0, none⟩) L.length cap) c L last := by
  refine ⟨⟨fun i hi => ?_, fun i hi => r3 i hi, h.lt⟩, h.row.owns hN, ⟨f, h.pos, hf⟩, hh, hd, hs, hb, hm, Nat.le_trans hN (Nat.le_of_lt h.row.lt)⟩
  have : i = 0 ∨ i = 1 ∨ i = 2 := by simp at hi; omega
  rcases this with rfl | rfl | rfl
  · exact h.c0
  · exact h.c1
  · exact r2

/-- What remove leaves. -/
def RemovePost (b mb N : Nat) (v : Value) (c : Nat) (L : List Itm) (last i : Nat) (W : World) (e : Ending) (W' : World) : Prop :=
  e = .returned (.agg #[.int .u64 (at_ L i).d, .int .u64 (at_ L i).w, .int .i64 (at_ L i).h]) ∧ ∃ v' c' L', Turned W b mb N v c W' v' c' L' last ∧ (at_ L i :: L').Perm L ∧ c' ≤ c + 2 * L.length + 1

set_option maxRecDepth 100000 in
set_option maxHeartbeats 4000000 in
theorem remove_any {w : World} {b mb N c : Nat} {v : Value} {L : List Itm} {last : Nat} (h : HeapAt w b mb N v c L last) (i : Nat) (hi : i < L.length) (hl : L.length < 1073741824) (hlast : last < 1073741824) (hc : c + 2 * L.length < maxLen) :
    Calls Tryd.prog 87 #[.pointer (some ⟨b, 0, none⟩), .int .i64 i] w (RemovePost b mb N v c L last i w) := by
  obtain ⟨g, cap, rfl, hN, hr⟩ := h.rowAt (by omega)
  obtain ⟨n, hn⟩ : ∃ n, n = L.length := ⟨_, rfl⟩
  obtain ⟨p0, p1, p2⟩ := hr.at3 i hi
  obtain ⟨q0, q1, q2⟩ := hr.at3 (L.length - 1) (by omega)
  obtain ⟨x, hx⟩ : ∃ x, x = at_ L i := ⟨_, rfl⟩
  obtain ⟨y, hy⟩ : ∃ y, y = at_ L (L.length - 1) := ⟨_, rfl⟩
  rw [← hx] at p0 p1 p2
  rw [← hy] at q0 q1 q2
  obtain ⟨m, hm⟩ : ∃ m, m = L.length - 1 := ⟨_, rfl⟩
  rw [← hm] at q0 q1 q2
  have c0 := h.c0
  have c1 := h.c1
  rw [← hn] at c0 hi hl hc
  have hbl := h.row.lt
  have hgl := hr.lt
  have h1 : (n : Int) - 1 = (m : Int) := by omega
  have f0 := h.row.free 0 (by simp)
  have hmn : m < n := by omega
  have hwm : IntKind.i64.wrap (m : Int) = (m : Int) := IntWalk.i64_in _ (by omega)
  have hcap : n ≤ cap := by obtain ⟨cur, _, _, hh, _⟩ := hr; omega
  have hmc : m ≤ cap := by omega
  have hmc1 : (m : Int) ≤ (cap : Int) := by omega
  have hi0 : (0 : Int) ≤ (i : Int) := by omega
  have hi1 : (i : Int) < (n : Int) := by omega
  have hm0 : (0 : Int) ≤ (m : Int) := by omega
  have hm1 : (m : Int) < (n : Int) := by omega
  have H := Lib.hid h
  have HR := Lib.hid hr
  have HN := Lib.hid hn
  have HX := Lib.hid hx
  have HY := Lib.hid hy
  have HM := Lib.hid hm
  obtain ⟨x0, x1, x2⟩ := x
  obtain ⟨y0, y1, y2⟩ := y
  dsimp only at p0 p1 p2 q0 q1 q2
  clear h hr hn hx hy hm
  go_enter Tryd.func87, Tryd.ntmps87
  go_wp2
  go_region_held3 (fun W : World => W.cell? ⟨b, 0, none⟩ = some (.slice (some ⟨g, 0, none⟩) n cap) ∧ W.cell? ⟨g, i * 3, none⟩ = some (.int .u64 x0) ∧ W.cell? ⟨g, i * 3 + 1, none⟩ = some (.int .u64 x1) ∧ W.cell? ⟨g, i * 3 + 2, none⟩ = some (.int .i64 x2)) (go_keep) (fail)
  have o1 : Only [] w ((w.alloc (.cells #[.int .u64 0, .int .u64 0, .int .i64 0] 171)).alloc (.cells #[.int .u64 x0, .int .u64 x1, .int .i64 x2] 171)).drew := (((Only.refl _ w).alloc _).alloc _).drew
  have z1 : ((w.alloc (.cells #[.int .u64 0, .int .u64 0, .int .i64 0] 171)).alloc (.cells #[.int .u64 x0, .int .u64 x1, .int .i64 x2] 171)).drew.heap.size = w.heap.size + 2 := by simp
  have g1 : ((w.alloc (.cells #[.int .u64 0, .int .u64 0, .int .i64 0] 171)).alloc (.cells #[.int .u64 x0, .int .u64 x1, .int .i64 x2] 171)).drew.heap[w.heap.size + 1]? = some (.cells #[.int .u64 x0, .int .u64 x1, .int .i64 x2] 171 (0, 0)) := by
    have := World.alloc_heap_new (w.alloc (.cells #[.int .u64 0, .int .u64 0, .int .i64 0] 171)) (.cells #[.int .u64 x0, .int .u64 x1, .int .i64 x2] 171)
    rwa [World.size_alloc] at this
  have g0 : ((w.alloc (.cells #[.int .u64 0, .int .u64 0, .int .i64 0] 171)).alloc (.cells #[.int .u64 x0, .int .u64 x1, .int .i64 x2] 171)).drew.heap[w.heap.size]? = some (.cells #[.int .u64 0, .int .u64 0, .int .i64 0] 171 (0, 0)) :=
    (Below.heap_alloc _ _ _ (by simp)).trans (World.alloc_heap_new w _)
  obtain ⟨s, hs⟩ : ∃ s, s = w.heap.size := ⟨_, rfl⟩
  have HS := Lib.hid hs
  simp only [← hs] at g0 g1 z1 ⊢
  generalize ((w.alloc (.cells #[.int .u64 0, .int .u64 0, .int .i64 0] 171)).alloc (.cells #[.int .u64 x0, .int .u64 x1, .int .i64 x2] 171)).drew = W1 at *
  have hA := H.out.only o1 (by simp) (by simp) (by simp)
  have hr1 := HR.out.block (o1.block g hgl (by simp))
  obtain ⟨q0', q1', q2'⟩ := hr1.at3 m (by rw [← HN.out]; exact hmn)
  have c0' := hA.c0
  have c1' := hA.c1
  rw [HM.out, ← HY.out] at q0' q1' q2'
  rw [← HM.out] at q0' q1' q2'
  rw [← HN.out] at c0'
  have f0' := hA.row.free 0 (by simp)
  have hbl' := hA.row.lt
  have hgl' := hr1.lt
  have HA := Lib.hid hA
  have HR1 := Lib.hid hr1
  have HZ := Lib.hid z1
  have HG1 := Lib.hid g1
  have HG0 := Lib.hid g0
  have HO1 := Lib.hid o1
  clear p0 p1 p2 q0 q1 q2 c0 c1 f0 hbl hgl hA hr1 g0 g1 o1 z1 hs hwm
  dsimp only at q0' q1' q2'
  obtain ⟨f, hpos, hall⟩ := HA.out.pos
  have hL := HA.out.heap
  have hD := HA.out.dist
  have hmb : mb < W1.heap.size := hpos.lt
  have hbm : b ≠ mb := by
    rintro rfl
    obtain ⟨es, ck, h2⟩ := hpos.isMap
    simp [World.cell?, h2] at c0'
  have hmg : mb ≠ g := fun e => by have := HA.out.mN; omega
  have hbg : b ≠ g := fun e => by have := HA.out.bN; omega
  have bs1 : b < s := by rw [HS.out]; exact H.out.row.lt
  have ms1 : mb < s := by obtain ⟨_, hp0, _⟩ := H.out.pos; rw [HS.out]; exact hp0.lt
  have gs1 : g < s := by rw [HS.out]; exact HR.out.lt
  -- the memory behind the slice's cut
  have o3 : Only [b] W1 ((W1.setCell ⟨b, 0, none⟩ (.slice (some ⟨g, 0, none⟩) m cap)).alloc (.cells #[.int .u64 y0, .int .u64 y1, .int .i64 y2] 171)) := ((Only.refl _ W1).setCell (p := ⟨b, 0, none⟩) (Or.inl (by simp)) _).alloc _
  have z3 : W1.heap.size < ((W1.setCell ⟨b, 0, none⟩ (.slice (some ⟨g, 0, none⟩) m cap)).alloc (.cells #[.int .u64 y0, .int .u64 y1, .int .i64 y2] 171)).heap.size := by simp [World.setCell]
  have r3 : Row ((W1.setCell ⟨b, 0, none⟩ (.slice (some ⟨g, 0, none⟩) m cap)).alloc (.cells #[.int .u64 y0, .int .u64 y1, .int .i64 y2] 171)) b [.slice (some ⟨g, 0, none⟩) m cap, .map (some mb), .int .i64 last] := (HA.out.row.set 0 (by simp) (.slice (some ⟨g, 0, none⟩) m cap)).alloc _
  have y3 : ((W1.setCell ⟨b, 0, none⟩ (.slice (some ⟨g, 0, none⟩) m cap)).alloc (.cells #[.int .u64 y0, .int .u64 y1, .int .i64 y2] 171)).heap[W1.heap.size]? = some (.cells #[.int .u64 y0, .int .u64 y1, .int .i64 y2] 171 (0, 0)) := by
    have := World.alloc_heap_new (W1.setCell ⟨b, 0, none⟩ (.slice (some ⟨g, 0, none⟩) m cap)) (.cells #[.int .u64 y0, .int .u64 y1, .int .i64 y2] 171)
    rwa [show (W1.setCell ⟨b, 0, none⟩ (.slice (some ⟨g, 0, none⟩) m cap)).heap.size = W1.heap.size by simp [World.setCell]] at this
  have go3 : ((W1.setCell ⟨b, 0, none⟩ (.slice (some ⟨g, 0, none⟩) m cap)).alloc (.cells #[.int .u64 y0, .int .u64 y1, .int .i64 y2] 171)).heap[s + 1]? = some (.cells #[.int .u64 x0, .int .u64 x1, .int .i64 x2] 171 (0, 0)) := (o3.block _ (by rw [HZ.out]; omega) (by simp; omega)).trans HG1.out
  have re3 : ((W1.setCell ⟨b, 0, none⟩ (.slice (some ⟨g, 0, none⟩) m cap)).alloc (.cells #[.int .u64 y0, .int .u64 y1, .int .i64 y2] 171)).heap[s]? = some (.cells #[.int .u64 0, .int .u64 0, .int .i64 0] 171 (0, 0)) := (o3.block _ (by rw [HZ.out]; omega) (by simp; omega)).trans HG0.out
  have p3 := hpos.block (o3.block mb hmb (by simp; exact fun e => hbm e.symm))
  have row3 := HR1.out.block (o3.block g hgl' (by simp; exact fun e => hbg e.symm))
  go_wp2
  rw [HZ.out]
  obtain ⟨W3, hW3⟩ : ∃ W3, (W1.setCell ⟨b, 0, none⟩ (.slice (some ⟨g, 0, none⟩) m cap)).alloc (.cells #[.int .u64 y0, .int .u64 y1, .int .i64 y2] 171) = W3 := ⟨_, rfl⟩
  rw [hW3] at o3 z3 r3 y3 go3 re3 p3 row3 ⊢
  clear hW3
  rw [HZ.out] at y3 z3
  have hmemx : at_ L i ∈ L := by rw [at_get _ _ (by rw [← HN.out]; exact hi)]; exact List.getElem_mem _
  have hxh := HA.out.hs _ hmemx
  rw [← HX.out] at hxh
  dsimp only at hxh
  have P3 := Lib.hid (show PosIs W3.drew mb c f from p3.block rfl)
  have hw2 := Lib.hid (show (Lit.int .i64 x2).wf = true from WalkArith.wf_i64 (by omega))
  have d1 : W3.cell? ⟨b, 1, none⟩ = some (.map (some mb)) := r3.cell 1 (by simp)
  have d2 : W3.cell? ⟨s + 1, 2, none⟩ = some (.int .i64 x2) := cell_of_row W3 _ 2 _ _ _ go3
  have hcut := Lib.hid (show (L.take m).length = m by rw [List.length_take, ← HN.out]; omega)
  have FAR := Lib.hid (show ∀ W4, PosIs W4 mb c (fdel f x2) → W3.drew.grownBy W4 (some mb) → Core W4 b mb g cap c (L.take m) (fdel f x2) ∧ Row W4 b [.slice (some ⟨g, 0, none⟩) m cap, .map (some mb), .int .i64 last] ∧ Only [b, mb] w W4 ∧
      W4.heap[s + 2]? = some (.cells #[.int .u64 y0, .int .u64 y1, .int .i64 y2] 171 (0, 0)) ∧ W4.heap[s + 1]? = some (.cells #[.int .u64 x0, .int .u64 x1, .int .i64 x2] 171 (0, 0)) ∧ W4.heap[s]? = some (.cells #[.int .u64 0, .int .u64 0, .int .i64 0] 171 (0, 0)) from fun W4 p4 hg4 => by
    have o4 : Only [mb] W3 W4 := ⟨hg4.os, hg4.tape, hg4.output, hg4.size, fun k hk hn => hg4.block k hk (fun e => hn (by cases e; simp))⟩
    have R4 := r3.only o4 (by simpa using hbm)
    have row4 := row3.block (o4.block g row3.lt (by simpa using fun e => hmg e.symm))
    refine ⟨⟨by rw [hcut.out]; exact R4.cell 0 (by simp), R4.cell 1 (by simp), row4.cut m, p4, hbg⟩, R4, ?_, (o4.block _ (Array.getElem?_eq_some_iff.1 y3).1 (by simp; omega)).trans y3, (o4.block _ (Array.getElem?_eq_some_iff.1 go3).1 (by simp; omega)).trans go3, (o4.block _ (Array.getElem?_eq_some_iff.1 re3).1 (by simp; omega)).trans re3⟩
    refine Only.trans (b := W1) (HO1.out.mono (by simp)) ?_
    exact (o3.mono (by simp)).trans (o4.mono (by simp)))
  have HAL := Lib.hid hall
  have HXH := Lib.hid hxh
  clear o3 z3 r3 y3 go3 re3 p3 row3 hpos hall q0' q1' q2' c0' c1' f0' hbl' hgl' hmb hmemx hxh
  refine region_tail 6 (by kernel_rfl) (by kernel_rfl) ?_
  simp only [List.take_succ_cons, List.take_zero, List.drop_succ_cons, List.drop_zero]
  repeat still_step
  refine wpStill_nil ?_
  refine wpList_delete_pos rfl _ _ rfl rfl P3.out x2 hw2.out rfl ?_
  intro W4 p4 hg4 hs4
  obtain ⟨C4, R4, O4, y4, go4, re4⟩ := FAR.out W4 p4 hg4
  have w0 : W4.cell? ⟨s + 2, 0, none⟩ = some (.int .u64 y0) := cell_of_row W4 _ 0 _ _ _ y4
  have w1 : W4.cell? ⟨s + 2, 1, none⟩ = some (.int .u64 y1) := cell_of_row W4 _ 1 _ _ _ y4
  have w2 : W4.cell? ⟨s + 2, 2, none⟩ = some (.int .i64 y2) := cell_of_row W4 _ 2 _ _ _ y4
  have C4' := Lib.hid C4
  have R4' := Lib.hid R4
  have O4' := Lib.hid O4
  have GO4 := Lib.hid go4
  have RE4 := Lib.hid re4
  clear d1 d2 p4 hg4 hs4 C4 R4 O4 y4 go4 re4
  have hLm : ∀ z ∈ L.take m, 1 ≤ z.h ∧ z.h ≤ last := fun z hz => HA.out.hs z (List.mem_of_mem_take hz)
  have hmemy : (⟨y0, y1, y2⟩ : Itm) ∈ L := by rw [HY.out, at_get _ _ (by rw [← HN.out]; omega)]; exact List.getElem_mem _
  have hyh := HA.out.hs _ hmemy
  have HLM := Lib.hid hLm
  have HYH := Lib.hid hyh
  clear hLm hyh hmemy
  by_cases him : i < m
  · have hil : (i : Int) < (m : Int) := by omega
    have hperm := remove_perm L i (by rw [← HM.out]; exact him)
    rw [← HM.out, ← HX.out, HM.out, ← HY.out, ← HM.out] at hperm
    have hgap := HAL.out.gap hD i (by rw [← HM.out]; exact him)
    rw [← HX.out, ← HY.out, ← HM.out] at hgap
    have hdT := (hD.perm hperm).tail
    have SE := Lib.hid ((callsIn_wide (n := 3)).1 (settle_in C4'.out i ⟨y0, y1, y2⟩ hgap ((hL.take m).hole (by rw [hcut.out]; exact him)) hdT (by rw [hcut.out]; omega)
      (fun z hz => by
        have hz2 : z ∈ L := hperm.mem_iff.1 (List.mem_cons_of_mem _ hz)
        have := HA.out.hs z hz2
        exact WalkArith.wf_i64 (by omega)) (by rw [hcut.out]; omega)))
    have HP := Lib.hid hperm
    clear hperm hgap hdT
    dsimp only at SE
    go_wp2_with fail
    go_at_call 89
    refine SE.out.mono ?_
    rintro e W5 ⟨rfl, ho5, L', f', c', hcore, hc', hpa, hh, hp'⟩
    have go5 := (ho5.block _ (Array.getElem?_eq_some_iff.1 GO4.out).1 (by simp; omega)).trans GO4.out
    have re5 := (ho5.block _ (Array.getElem?_eq_some_iff.1 RE4.out).1 (by simp; omega)).trans RE4.out
    have k0 : W5.cell? ⟨s + 1, 0, none⟩ = some (.int .u64 x0) := cell_of_row W5 _ 0 _ _ _ go5
    have k1 : W5.cell? ⟨s + 1, 1, none⟩ = some (.int .u64 x1) := cell_of_row W5 _ 1 _ _ _ go5
    have k2 : W5.cell? ⟨s + 1, 2, none⟩ = some (.int .i64 x2) := cell_of_row W5 _ 2 _ _ _ go5
    have j0 : W5.cell? ⟨s, 0, none⟩ = some (.int .u64 0) := cell_of_row W5 _ 0 _ _ _ re5
    have j1 : W5.cell? ⟨s, 1, none⟩ = some (.int .u64 0) := cell_of_row W5 _ 1 _ _ _ re5
    have j2 : W5.cell? ⟨s, 2, none⟩ = some (.int .i64 0) := cell_of_row W5 _ 2 _ _ _ re5
    have l0 : W5.frozen? ⟨s, 0, none⟩ = false := by simp [World.frozen?, re5]
    have l1 : W5.frozen? ⟨s, 1, none⟩ = false := by simp [World.frozen?, re5]
    have l2 : W5.frozen? ⟨s, 2, none⟩ = false := by simp [World.frozen?, re5]
    have R5 := R4'.out.only ho5 (by simp; exact ⟨hbg, hbm⟩)
    have o6 : Only [s] W5 (setItm W5 s 0 ⟨x0, x1, x2⟩) := setItm_only W5 s 0 ⟨x0, x1, x2⟩
    have FIN := Lib.hid (show RemovePost b mb N (.slice (some ⟨g, 0, none⟩) L.length cap) c L last i w (.returned (.agg #[.int .u64 x0, .int .u64 x1, .int .i64 x2])) (setItm W5 s 0 ⟨x0, x1, x2⟩) by
      have hpL : (⟨x0, x1, x2⟩ :: L').Perm L := (hp'.cons _).trans HP.out
      have ll : L'.length = m := by have := hpL.length_eq; simp at this; rw [← HN.out] at this; omega
      have R6 := R5.only o6 (by simp; omega)
      refine ⟨by rw [← HX.out], .slice (some ⟨g, 0, none⟩) L'.length cap, c', L', ⟨?_, ?_, ?_⟩, by rw [← HX.out]; exact hpL, by rw [hcut.out] at hc'; rw [← HN.out]; omega⟩
      · refine HeapAt.ofCore (hcore.only o6 (by simp; omega) (by simp; omega) (by simp; omega)) (R6.cell 2 (by simp)) (fun j hj => R6.free j (by simpa using hj)) hpa hh (hD.perm hpL).tail (fun z hz => HA.out.hs z (hpL.mem_iff.1 (List.mem_cons_of_mem _ hz))) H.out.bN H.out.mN hN
      · intro k hk; exact .inl hk
      · refine Only.after (F := b :: mb :: [g]) ?_ o6 (by intro k hk; simp at hk; rw [← HS.out]; omega)
        exact (O4'.out.mono (by simp)).trans (ho5.mono (by simp)))
    have RE5 := Lib.hid re5
    clear hcore ho5 hp' hpa hh R5 o6 go5 re5 hc'
    go_wp2_with fail
    refine bodyPost_ret (results_cell_row rfl _ _ s _ _ (0, 0) _ rfl (heap_set1 (heap_set1 (heap_set1 RE5.out 0 _) 1 _) 2 _) Tryd.underlying171 rfl (by kernel_rfl)) rfl ?_
    exact FIN.out
  · have him2 : i = m := by omega
    have hil : ¬ (i : Int) < (m : Int) := by omega
    have hperm := remove_last L (by rw [← HN.out]; omega)
    rw [← HM.out] at hperm
    have hall' := HAL.out.last hD (by rw [← HN.out]; omega)
    rw [← HM.out] at hall'
    have hxm : at_ L m = ⟨x0, x1, x2⟩ := by rw [← him2, ← HX.out]
    rw [hxm] at hperm hall'
    have k0 : W4.cell? ⟨s + 1, 0, none⟩ = some (.int .u64 x0) := cell_of_row W4 _ 0 _ _ _ GO4.out
    have k1 : W4.cell? ⟨s + 1, 1, none⟩ = some (.int .u64 x1) := cell_of_row W4 _ 1 _ _ _ GO4.out
    have k2 : W4.cell? ⟨s + 1, 2, none⟩ = some (.int .i64 x2) := cell_of_row W4 _ 2 _ _ _ GO4.out
    have re4 := RE4.out
    have j0 : W4.cell? ⟨s, 0, none⟩ = some (.int .u64 0) := cell_of_row W4 _ 0 _ _ _ re4
    have j1 : W4.cell? ⟨s, 1, none⟩ = some (.int .u64 0) := cell_of_row W4 _ 1 _ _ _ re4
    have j2 : W4.cell? ⟨s, 2, none⟩ = some (.int .i64 0) := cell_of_row W4 _ 2 _ _ _ re4
    have l0 : W4.frozen? ⟨s, 0, none⟩ = false := by simp [World.frozen?, re4]
    have l1 : W4.frozen? ⟨s, 1, none⟩ = false := by simp [World.frozen?, re4]
    have l2 : W4.frozen? ⟨s, 2, none⟩ = false := by simp [World.frozen?, re4]
    have o6 : Only [s] W4 (setItm W4 s 0 ⟨x0, x1, x2⟩) := setItm_only W4 s 0 ⟨x0, x1, x2⟩
    have FIN := Lib.hid (show RemovePost b mb N (.slice (some ⟨g, 0, none⟩) L.length cap) c L last i w (.returned (.agg #[.int .u64 x0, .int .u64 x1, .int .i64 x2])) (setItm W4 s 0 ⟨x0, x1, x2⟩) by
      have R6 := R4'.out.only o6 (by simp; omega)
      refine ⟨by rw [← HX.out], .slice (some ⟨g, 0, none⟩) (L.take m).length cap, c, L.take m, ⟨?_, ?_, ?_⟩, by rw [← HX.out]; exact hperm, by omega⟩
      · exact HeapAt.ofCore (C4'.out.only o6 (by simp; omega) (by simp; omega) (by simp; omega)) (R6.cell 2 (by simp)) (fun j hj => R6.free j (by simpa using hj)) hall' (hL.take m) (hD.perm hperm).tail HLM.out H.out.bN H.out.mN hN
      · intro k hk; exact .inl hk
      · exact Only.after (F := b :: mb :: [g]) (O4'.out.mono (by simp)) o6 (by intro k hk; simp at hk; rw [← HS.out]; omega))
    clear re4 o6 hperm hall' hxm him2
    go_wp2_with fail
    refine bodyPost_ret (results_cell_row rfl _ _ s _ _ (0, 0) _ rfl (heap_set1 (heap_set1 (heap_set1 RE4.out 0 _) 1 _) 2 _) Tryd.underlying171 rfl (by kernel_rfl)) rfl ?_
    exact FIN.out
end Go.Proofs.YtobbmhboahognaaDoor
