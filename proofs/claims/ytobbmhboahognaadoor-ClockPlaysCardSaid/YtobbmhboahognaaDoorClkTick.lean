/- The clock's Tick (layer 8). The conditions: the clock was not used too often; the time is not the last one. -/
import Derived.Test.YtobbmhboahognaaDoorClkArm
namespace Go.Proofs.YtobbmhboahognaaDoor
open Go.RowKit
set_option linter.unusedVariables false

theorem info_u64 : (Tryd.prog.info? 47).map (fun i => (i.zero, i.size, i.bytes)) = some (some (.int .u64 0), 1, 8) := by kernel_rfl
/-- The ids of items, as a row. -/
def idsV (L : List Itm) : List Value := L.map fun x => .int .u64 x.w
theorem idsV_length (L : List Itm) : (idsV L).length = L.length := by simp [idsV]
/-- One id behind the others. -/
theorem run_append_id {w : World} {B : Nat} {v : Value} {L : List Itm} (h : w.ownsRow B 47 1 v L.length (idsV L)) (hs : L.length < 1073741824) (x : Itm) (q : Nat) (hq : w.heap[q]? = some (.cells #[.int .u64 x.w] 47 (0, 0))) (hB : B ≤ w.heap.size) (ty : TypeId) :
    ∃ v' w', (Builtin.append_ #[23, 23] ty #[v, .slice (some ⟨q, 0, none⟩) 1 1]).run Tryd.prog w = .ok v' w' ∧ w'.ownsRow B 47 1 v' (L.length + 1) (idsV (L ++ [x])) ∧ (∀ k, v'.ownBlock = some k → v.ownBlock = some k ∨ w.heap.size ≤ k) ∧ Only v.ownBlock.toList w w' := by
  obtain ⟨i0, hi0, hz0, hz1, hz2⟩ := info_parts info_u64
  have hsrc : ∀ j u, ([.int .u64 x.w] : List Value)[j]? = some u → w.cell? ((⟨q, 0, none⟩ : Addr).add j) = some u := fun j u hu => by
    rw [add0, cell_of_row w q j _ _ (0, 0) hq]
    simpa using hu
  have h1 : ∀ u ∈ ([.int .u64 x.w] : List Value), u.oneCell' = true := by intro u hu; simp at hu; subst hu; rfl
  have hm : L.length + 1 ≤ maxLen := by unfold maxLen; omega
  have hfl : idsV (L ++ [x]) = idsV L ++ [.int .u64 x.w] := by simp [idsV]
  obtain ⟨v', w', hr, h2, h3, h4⟩ := run_append_own (P := Tryd.prog) w B 23 ty 47 i0 _ 1 8 Tryd.underlying23 hi0 hz0 hz1 hz2 rfl (by decide) v L.length (idsV L) h ⟨q, 0, none⟩ 1 1 [.int .u64 x.w] rfl hsrc h1 hm (by omega) hB
  refine ⟨v', w', hr, by rw [hfl]; exact h2, ?_, only_of_grown h3⟩
  intro k hk
  rcases h.2 with ⟨rfl, e⟩ | ⟨g, cap, cur, rfl, hb, hgg, hn, hmc, hsz, ht⟩
  · obtain ⟨v2, w2, hr2, k2, _, _⟩ := run_append_own (P := Tryd.prog) w w.heap.size 23 ty 47 i0 _ 1 8 Tryd.underlying23 hi0 hz0 hz1 hz2 rfl (by decide) (.slice none 0 0) 0 [] (World.ownsRow_nil _ _ _ _) ⟨q, 0, none⟩ 1 1 [.int .u64 x.w] rfl hsrc h1 (by unfold maxLen; omega) (by omega) (Nat.le_refl _)
    rw [hr] at hr2
    cases hr2
    exact .inr (k2.lt k hk).1
  · by_cases hroom : L.length + 1 ≤ cap
    · have hr2 := run_append_room (P := Tryd.prog) w 23 ty 47 i0 Tryd.underlying23 hi0 g L.length cap cur hgg ⟨q, 0, none⟩ 1 1 [.int .u64 x.w] (by rw [hz1]; rfl) hsrc h1 hroom (by rw [hz1, hsz]; simp; omega)
      rw [hr] at hr2
      cases hr2
      exact .inl hk
    · have hr2 := run_append_grow (P := Tryd.prog) w 23 ty 47 i0 _ Tryd.underlying23 hi0 hz0 ⟨g, 0, none⟩ L.length cap (idsV L) (by rw [hz1, idsV_length]; simp) (by exact h.cells (g := g) rfl) ⟨q, 0, none⟩ 1 1 [.int .u64 x.w] (by rw [hz1]; rfl) hsrc (by omega) (by omega) (by rw [hz2]; exact growslice_fits (by omega) (by omega))
      rw [hr] at hr2
      cases hr2
      refine .inr ?_
      simp only [Value.ownBlock, Option.some.injEq] at hk
      omega

theorem Only.step {F G : List Nat} {W wr w' : World} (h : Only F W wr) (hG : ∀ k ∈ G, k ∈ F ∨ W.heap.size ≤ k) (l : Only G wr w') : Only F W w' :=
  ⟨l.os.trans h.os, l.tape.trans h.tape, l.output.trans h.output, Nat.le_trans h.size l.size, fun k hk hn => (l.block k (Nat.lt_of_lt_of_le hk h.size) (fun hm => by
    rcases hG k hm with e | e
    · exact hn e
    · omega)).trans (h.block k hk hn)⟩
theorem dropAt (S : List Itm) (k : Nat) (h : k < S.length) : S.drop k = at_ S k :: S.drop (k + 1) := by rw [at_get _ _ h]; exact List.drop_eq_getElem_cons h
theorem takeAt (S : List Itm) (k : Nat) (h : k < S.length) : S.take (k + 1) = S.take k ++ [at_ S k] := by rw [at_get _ _ h, List.take_add_one, List.getElem?_eq_getElem h]; rfl
/-- Between two rounds of Tick's loop: i ids were told; is: another one, u, was popped. -/
def TickI (W : World) (F : List Nat) (b qb mb N mc : Nat) (t : Int) (S : List Itm) (last c cc : Nat) (wr : World) (i : Nat) (is : Bool) (u : Int) (vc : Value) : Prop := ∃ v',
  ClkP wr b qb mb N mc v' (c + (i + is.toNat) * 10000) cc t (S.drop (i + is.toNat)) last (S.drop i).length (fOf (S.drop i)) ∧
  wr.ownsRow W.heap.size 47 1 vc (S.take i).length (idsV (S.take i)) ∧ (∀ k ∈ clkF b qb mb mc v', k ∈ F ∨ W.heap.size ≤ k) ∧ Only F W wr ∧ (∀ k, vc.ownBlock = some k → k ∉ clkF b qb mb mc v') ∧
  i ≤ S.length ∧ (is = true → i < S.length ∧ u = (at_ S i).w ∧ (at_ S i).d ≤ t) ∧ (is = false → ∀ y T, S.drop i = y :: T → t < y.d) ∧ (∀ j, j < i → (at_ S j).d ≤ t)
section
variable {W wr : World} {F : List Nat} {b qb mb N mc : Nat} {t : Int} {S : List Itm} {last c cc : Nat} {i : Nat} {v vc : Value}
/-- The next one is popped, or there is none. -/
theorem tickPop (hP : ClkP wr b qb mb N mc v (c + i * 10000) cc t (S.drop i) last (S.drop i).length (fOf (S.drop i))) (ho : wr.ownsRow W.heap.size 47 1 vc (S.take i).length (idsV (S.take i))) (hF : ∀ k ∈ clkF b qb mb mc v, k ∈ F ∨ W.heap.size ≤ k) (hO : Only F W wr) (hv : ∀ k, vc.ownBlock = some k → k ∉ clkF b qb mb mc v)
    (hi : i ≤ S.length) (hj : ∀ j, j < i → (at_ S j).d ≤ t) (hS : S.length ≤ 4000) (hl : last ≤ 4000) (hc : c + i * 10000 + 10000 < maxLen) :
    Calls Tryd.prog 58 #[.pointer (some ⟨qb, 0, none⟩), .int .u64 t] wr fun e w' => ∃ is u, e = .returned (.tuple #[.int .u64 u, .bool is]) ∧ TickI W F b qb mb N mc t S last c cc w' i is u vc := by
  by_cases hy : i < S.length ∧ (at_ S i).d ≤ t
  · obtain ⟨h1, h2⟩ := hy
    have hd := dropAt S i h1
    have hH := hP.heap
    rw [hd] at hH
    have hlen : (at_ S i :: S.drop (i + 1)).length ≤ S.length := by rw [← hd]; simp
    refine (popS_yes hH t h2 (by omega) (by omega) (by omega)).mono ?_
    rintro e w' ⟨rfl, v', l⟩
    have hP' := hP.step l
    refine ⟨true, _, rfl, v', ⟨hP'.row, hP'.heap.mono (by simp only [Bool.toNat_true]; omega), hP'.al, hP'.ap, hP'.vb⟩, ?_, ?_, ?_, ?_, hi, fun _ => ⟨h1, rfl, h2⟩, fun h => by (cases h), hj⟩
    · refine ownsRow_only ho l.only (fun k hk hm => hv k hk ?_)
      simp only [List.mem_cons] at hm ⊢
      exact .inr (.inr hm)
    · intro k hk
      rcases clk_jump (b := b) (mc := mc) l k hk with h | h
      · exact hF k h
      · exact .inr (Nat.le_trans hO.size h)
    · exact hO.step hF (clk_only l)
    · intro k hk hm
      rcases clk_jump (b := b) (mc := mc) l k hm with h | h
      · exact hv k hk h
      · have := (ho.lt k hk).2; omega
  · have hno : ∀ y T, S.drop i = y :: T → t < y.d := fun y T e => by
      have h1 : i < S.length := by
        rcases Nat.lt_or_ge i S.length with h | h
        · exact h
        · rw [List.drop_of_length_le h] at e; cases e
      rw [dropAt S i h1] at e
      cases e
      rcases Int.lt_or_le t (at_ S i).d with h | h
      · exact h
      · exact absurd ⟨h1, h⟩ hy
    refine (popS_no hP.heap t hno (by simp; omega)).mono ?_
    rintro e w' ⟨rfl, hb⟩
    have hP' := hP.only (Only.of_below (F := []) hb) (by simp)
    exact ⟨false, _, rfl, v, hP', ownsRow_only ho (Only.of_below (F := []) hb) (by simp), hF, hO.step (G := []) (by simp) (Only.of_below hb), hv, hi, fun h => by (cases h), fun _ => hno, hj⟩
/-- An id that was popped is struck from the map and told. -/
theorem tickTell {u : Int} (h : TickI W F b qb mb N mc t S last c cc wr i true u vc) (hwd : WD S) (hwf : ∀ x ∈ S, (Lit.int .u64 x.w).wf = true) (hS : S.length ≤ 4000) :
    i < S.length ∧ (Lit.int .u64 u).wf = true ∧ (fOf (S.drop i) u).isSome = true ∧ wr.cell? ⟨b, 2, none⟩ = some (.map (some mc)) ∧ AlIs wr mc cc (S.drop i).length (fOf (S.drop i)) ∧
    ∀ w1, AlIs w1 mc cc ((S.drop i).length - 1) (adel (fOf (S.drop i)) u) → wr.grownBy w1 (some mc) → w1.heap.size = wr.heap.size → ∃ vc' w3 v', (∀ ty, (Builtin.append_ #[23, 23] ty #[vc, .slice (some ⟨w1.heap.size, 0, none⟩) 1 1]).run Tryd.prog (w1.alloc (.cells #[.int .u64 u] 47)) = .ok vc' w3) ∧
      ClkP w3 b qb mb N mc v' (c + (i + 1) * 10000) cc t (S.drop (i + 1)) last (S.drop (i + 1)).length (fOf (S.drop (i + 1))) ∧ w3.ownsRow W.heap.size 47 1 vc' (S.take (i + 1)).length (idsV (S.take (i + 1))) ∧ (∀ k ∈ clkF b qb mb mc v', k ∈ F ∨ W.heap.size ≤ k) ∧ Only F W w3 ∧ (∀ k, vc'.ownBlock = some k → k ∉ clkF b qb mb mc v') ∧
      (∀ j, j < i + 1 → (at_ S j).d ≤ t) := by
  obtain ⟨v', hP, ho, hF, hO, hv, hi, hy, _, hj⟩ := h
  obtain ⟨h1, rfl, h2⟩ := hy rfl
  have hd := dropAt S i h1
  have hmem : at_ S i ∈ S := by rw [at_get _ _ h1]; exact List.getElem_mem _
  have hwd' : WD (S.drop i) := List.Pairwise.sublist (List.drop_sublist i S) hwd
  have hsome : (fOf (S.drop i) (at_ S i).w).isSome = true := by rw [fOf_mem hwd' (by rw [hd]; simp)]; rfl
  refine ⟨h1, hwf _ hmem, hsome, hP.c2, hP.al, ?_⟩
  intro w1 ha hg hs
  have o1 : Only [mc] wr w1 := grown_only hg
  have hP1 := hP.mapped o1 ha
  have ho1 := ownsRow_only ho o1 (fun k hk => by simp; rintro rfl; exact hv _ hk (by simp))
  have oa : Only [] w1 (w1.alloc (.cells #[.int .u64 (at_ S i).w] 47)) := (Only.refl _ _).alloc _
  have hP2 := hP1.only oa (by simp)
  have ho2 := ownsRow_only ho1 oa (by simp)
  obtain ⟨vc', w3, hr0, ho3, hjump, o3⟩ := run_append_id ho2 (by rw [List.length_take]; omega) (at_ S i) w1.heap.size (World.alloc_heap_new _ _) (by have := hO.size; simp; omega) 23
  have hr : ∀ ty, (Builtin.append_ #[23, 23] ty #[vc, .slice (some ⟨w1.heap.size, 0, none⟩) 1 1]).run Tryd.prog (w1.alloc (.cells #[.int .u64 (at_ S i).w] 47)) = .ok vc' w3 := fun ty => hr0
  have hP3 := hP2.only o3 (fun k hk hm => hv k (by simpa using hm) hk)
  rw [← takeAt S i h1] at ho3
  have hl : (S.take (i + 1)).length = (S.take i).length + 1 := by simp; omega
  refine ⟨vc', w3, v', hr, ?_, by rw [hl]; exact ho3, hF, ?_, ?_, ?_⟩
  · have e1 : fOf (S.drop (i + 1)) = adel (fOf (S.drop i)) (at_ S i).w := by rw [hd]; exact fOf_del (A := []) (by rw [← hd] ; exact hwd')
    have e2 : (S.drop i).length - 1 = (S.drop (i + 1)).length := by rw [hd]; rfl
    rw [e1, ← e2]; exact hP3
  · refine (hO.step (G := [mc]) (fun k hk => by simp at hk; subst hk; exact hF _ (by simp)) o1).step (G := vc.ownBlock.toList) (fun k hk => .inr (ho.lt k (by simpa using hk)).1) ?_
    exact ⟨o3.os, o3.tape, o3.output, Nat.le_trans oa.size o3.size, fun k hk hn => (o3.block k (Nat.lt_of_lt_of_le hk oa.size) hn).trans (oa.block k hk (by simp))⟩
  · intro k hk hm
    rcases hjump k hk with e | e
    · exact hv k e hm
    · have := hP2.lt k hm
      omega
  · intro j hj'
    rcases Nat.lt_or_ge j i with h | h
    · exact hj j h
    · obtain rfl : j = i := by omega
      exact h2
end
/-- What Tick leaves. -/
def TickPost (W : World) (F : List Nat) (b : Nat) (now : Int) (S : List Itm) (last m : Nat) (e : Ending) (w' : World) : Prop := ∃ n vc F', n ≤ S.length ∧ e = .returned vc ∧ w'.ownsRow W.heap.size 47 1 vc (S.take n).length (idsV (S.take n)) ∧ CLed W F b w' F' (now + 1) (S.drop n) last m ∧ (∀ k, vc.ownBlock = some k → k ∉ F') ∧ (∀ j, j < n → (at_ S j).d ≤ now + 1) ∧ (∀ y T, S.drop n = y :: T → now + 1 < y.d)
def lenV : Value → Nat
  | .slice _ n _ => n
  | _ => 0
end Go.Proofs.YtobbmhboahognaaDoor
