/- The library's SortFunc at a row of items (layer 7): the row holds the same items, in order. -/
import Derived.Test.YtgkmihlnmhegfaaHeapLays
import Derived.Test.YtgkmihlnmhegfaaHeapSpec
namespace Go.Proofs.Ytgkmihlnmhegfaa
open Go.RowKit
set_option linter.unusedVariables false

instance : Inhabited Itm := ⟨itm0⟩
theorem ltOf_I (x y : Itm) : ltOf cmpI x y = decide (ltI x y) := by
  unfold ltOf
  exact decide_eq_decide.2 (cmpI_neg x y)
theorem swoI : Go.Sort.SWO (ltOf cmpI) where
  irrefl x := by rw [ltOf_I]; simp; exact ltI_irrefl x
  trans x y z h1 h2 := by rw [ltOf_I] at *; simp at *; unfold ltI at *; omega
  ntrans x y z h1 h2 := by rw [ltOf_I] at *; simp at *; unfold ltI at *; omega

set_option maxHeartbeats 2000000 in
set_option maxRecDepth 100000 in
theorem compareG (x y : Itm) (w : World) : Calls Try.prog 27 #[.agg #[.int .u64 x.d, .int .u64 x.w, .int .i64 x.h], .agg #[.int .u64 y.d, .int .u64 y.w, .int .i64 y.h]] w fun e w' => e = .returned (.int .i64 (cmpI x y)) ∧ ∃ q os, w' = Go.Sort.grow (w.drewN q) os := by
  obtain ⟨a, ea⟩ : ∃ a, a = cmpD x.d y.d := ⟨_, rfl⟩
  obtain ⟨b, eb⟩ : ∃ b, b = cmpD x.h y.h := ⟨_, rfl⟩
  have CU := Lib.hid (cmpU_any x.d y.d)
  have CS := Lib.hid (cmpS_any x.h y.h)
  obtain ⟨r, er⟩ : ∃ r, r = cmpI x y := ⟨_, rfl⟩
  rw [← er]
  have FIN := Lib.hid (show r = if a = 0 then b else a by rw [er]; unfold cmpI; rw [← ea, ← eb])
  rw [← ea] at CU
  rw [← eb] at CS
  obtain ⟨x0, x1, x2⟩ := x
  obtain ⟨y0, y1, y2⟩ := y
  clear ea eb er
  go_enter Try.func27, Try.ntmps27
  go_wp2
  refine region_tail 10 (by kernel_rfl) (by kernel_rfl) ?_
  simp only [List.take_succ_cons, List.take_zero, List.drop_succ_cons, List.drop_zero]
  iterate 4 still_step
  still_call (CU.out _)
  iterate 4 still_step
  still_call (CS.out _)
  refine wpStill_nil ?_
  go_wp2_with fail
  go_at_call 34
  refine (or_any a b r FIN.out _ _ (by rw [World.cell?_drew, World.cell?_alloc_at _ _ _ _ (by simp)]; simp) (by rw [World.cell?_drew, World.cell?_alloc_at _ _ _ _ (by simp)]; simp)).mono ?_
  rintro e w' ⟨rfl, rfl⟩
  go_wp2_with fail
  go_ret
  exact ⟨rfl, 1, _, by rw [Go.Sort.alloc_eq_grow, Go.Sort.alloc_eq_grow, Go.Sort.alloc_eq_grow, Go.Sort.grow_grow, Go.Sort.grow_grow, Go.Sort.drew_grow]; rfl⟩

theorem flatK_I (L : List Itm) : Go.Sort.flatK Itm.cs 3 L.toArray = (flatI L).toArray := by
  refine Go.Sort.ext_get! (by simp [flatI_length]) fun t ht => ?_
  rw [Go.Sort.size_flatK] at ht
  rw [Go.Sort.get_flatK _ _ _ _ ht]
  have hl : t / 3 < L.length := by simp at ht; omega
  obtain ⟨h1, h2, h3⟩ := flatI_at L (t / 3) hl
  have e0 : L.toArray[t / 3]! = at_ L (t / 3) := by rw [getElem!_pos _ _ (by simpa using hl)]; simp [at_get L _ hl]
  rw [e0]
  have key : ∀ r v, (flatI L)[t / 3 * 3 + r]? = some v → t % 3 = r → ((flatI L).toArray)[t]! = v := fun r v hv hr => by
    have : t / 3 * 3 + r = t := by omega
    rw [this] at hv
    rw [getElem!_def]; simp [hv]
  rcases (show t % 3 = 0 ∨ t % 3 = 1 ∨ t % 3 = 2 by omega) with e | e | e
  · rw [key 0 _ h1 e, e]; rfl
  · rw [key 1 _ h2 e, e]; rfl
  · rw [key 2 _ h3 e, e]; rfl

theorem IRow.holds {W : World} {g cap : Nat} {L : List Itm} (h : IRow W g cap L) : Go.Sort.HoldsK Itm.cs 3 W g 0 L.toArray := by
  intro j hj
  rw [flatK_I] at hj ⊢
  have hj' : j < (flatI L).length := by simpa using hj
  refine ⟨?_, h.free _⟩
  have := h.cells (List.getElem?_eq_getElem hj')
  rw [Nat.zero_add, this, getElem!_pos (flatI L).toArray j hj]
  simp

/-- The world behind the sort. -/
theorem sortWorld_row {W : World} {g cap n : Nat} {L L' : List Itm} (os : Array Obj) (h : IRow W g cap L) (hl : L'.length = L.length) :
    IRow (sortWorldK Itm.cs 3 W g 0 n L'.toArray os) g cap L' ∧ Only [g] W (sortWorldK Itm.cs 3 W g 0 n L'.toArray os) := by
  have hg := h.lt
  obtain ⟨cur, h0, h1, h2, h3, h4⟩ := h
  unfold sortWorldK Go.Sort.putRowK
  rw [flatK_I]
  have hs : (Go.Sort.putRow id (Go.Sort.ahead W n) g 0 (flatI L').toArray).heap.size = W.heap.size := by simp [Go.Sort.ahead]
  have e1 : (Go.Sort.putRow id (Go.Sort.ahead W n) g 0 (flatI L').toArray).heap[g]? = some (.cells (Go.Sort.putCells id 0 (flatI L').toArray cur) 59 (0, 0)) := by
    show (W.heap.modify g _)[g]? = _
    rw [Array.getElem?_modify, if_pos rfl, h0]; rfl
  refine ⟨⟨Go.Sort.putCells id 0 (flatI L').toArray cur, ?_, by simpa [Go.Sort.putCells] using h1, by omega, h3, ?_⟩, ⟨rfl, rfl, rfl, by simp [Go.Sort.ahead], fun k hk hn => ?_⟩⟩
  · rw [Go.Sort.heap_grow_old _ _ (by rw [hs]; exact hg)]; exact e1
  · apply List.ext_getElem?
    intro i
    rw [List.getElem?_take]
    by_cases hi : i < L'.length * 3
    · rw [if_pos hi, Array.getElem?_toList]
      have hc : i < cur.size := by rw [h1]; omega
      have hf : i < (flatI L').length := by rw [flatI_length]; exact hi
      simp only [Go.Sort.putCells, Array.getElem?_mapIdx, Array.getElem?_eq_getElem hc, Option.map_some]
      rw [if_pos ⟨Nat.zero_le _, by simpa using hf⟩, Nat.sub_zero, getElem!_pos _ _ (by simpa using hf), List.getElem?_eq_getElem hf]
      simp
    · rw [if_neg hi, List.getElem?_eq_none (by rw [flatI_length]; omega)]
  · simp at hn
    rw [Go.Sort.heap_grow_old _ _ (by rw [hs]; exact hk)]
    show (W.heap.modify g _)[k]? = _
    rw [Array.getElem?_modify, if_neg (fun e => hn e.symm)]
    try rfl

theorem sorted_of {L L' : List Itm} (hp : L'.Perm L) (hd : Distinct L) (hs : Go.Sort.SortedIn (ltOf cmpI) 0 L'.length L'.toArray) : Sorted L' := by
  have hd' : Distinct L' := by
    rw [distinct_iff] at *
    exact (hp.map _).nodup_iff.2 hd
  unfold Sorted
  rw [List.pairwise_iff_getElem]
  intro i j hi hj hij
  have := hs i j (Nat.zero_le _) hij hj
  rw [ltOf_I, getElem!_pos L'.toArray j (by simpa using hj), getElem!_pos L'.toArray i (by simpa using hi)] at this
  simp at this
  rw [distinct_iff] at hd'
  have hne : L'[i].h ≠ L'[j].h := fun e => by
    have := (List.nodup_iff_pairwise_ne.1 hd')
    rw [List.pairwise_map, List.pairwise_iff_getElem] at this
    exact this i j hi hj hij e
  unfold ltI at *; omega

set_option maxHeartbeats 1000000 in
/-- SortFunc with compare. -/
theorem sort_any {w : World} {g cap : Nat} {L : List Itm} (h : IRow w g cap L) (hd : Distinct L) (hl : L.length < 1073741824) :
    Calls Try.prog 39 #[.slice (some ⟨g, 0, none⟩) L.length cap, .func (.func 27) #[] #[]] w fun e w' => e = .returned (.tuple #[]) ∧ ∃ L', L'.Perm L ∧ Sorted L' ∧ IRow w' g cap L' ∧ Only [g] w w' := by
  have eg : ∀ args w, (callFunc 27 args).run Try.prog w = .ok (.enter 27 args) w := enters_of Try.func27 (by kernel_rfl) rfl
  have hcon := AnyQ.slices_SortFunc Try.laysSort 3 Try.isAgg59 Try.sizeOf59 Itm.cs (fun _ => rfl) (fun x v hv => by simp [Itm.cs] at hv; rcases hv with rfl | rfl | rfl <;> rfl) cmpI swoI 27 #[] g 0 cap L.toArray w eg (fun _ _ _ _ x y => compareG x y _) h.holds h.lt (by simp; omega)
  change Calls Try.prog 39 _ _ _ at hcon
  refine hcon.mono ?_
  rintro e w' ⟨rfl, d', n, os, hp, hs, rfl⟩
  obtain ⟨h1, h2, h3⟩ := hp
  have hz : d'.toList.length = L.length := by simpa using h1
  have hpp : d'.toList.Perm L := by
    have e1 : d'.extract 0 L.toArray.size = d' := by rw [← h1]; simp
    rw [e1] at h3; simpa using h3
  have hr := sortWorld_row (n := n) os h hz
  refine ⟨rfl, d'.toList, hpp, sorted_of hpp hd ?_, hr.1, hr.2⟩
  rw [hz]
  simpa using hs
theorem sort_none (p : Option Addr) (cap : Nat) (w : World) :
    Calls Try.prog 39 #[.slice p 0 cap, .func (.func 27) #[] #[]] w fun e w' => e = .returned (.tuple #[]) ∧ w' = w := by
  have h := AnyF.slices_SortFunc_none (P := Try.prog) (ρ := Try.laysSort_ren) Try.laysSort p cap (.func (.func 27) #[] #[]) w
  exact h
end Go.Proofs.Ytgkmihlnmhegfaa
