/- The values of a row of items, gathered into a new row (layer 7): the library's AppendSeq, Collect and SortedFunc at items. The condition: fewer than 2^30 items. -/
import Derived.Test.YtgkmihlnmhegfaaHeapVals
namespace Go.Proofs.Ytgkmihlnmhegfaa
open Go.RowKit Go.Shelf
set_option linter.unusedVariables false
attribute [local go_sem] Oper.semAt_some

theorem SrcIs.below {W W' : World} {v : Value} {g cap : Nat} {C : List Itm} (h : SrcIs W v g cap C) (hb : Below W.heap.size W W') : SrcIs W' v g cap C := by
  rcases h with h | ⟨h1, h2⟩
  · exact .inl h
  · exact .inr ⟨h1, h2.block (hb.block g h2.lt)⟩
/-- Between two rounds: what is gathered, in a box of its own. -/
structure SeqI (w : World) (C : List Itm) (pre : List Itm) (W : World) : Prop where
  ex : ∃ u, Boxed W w.heap.size 54 u ∧ W.ownsRow w.heap.size 59 3 u pre.length (flatI pre)
  few : ∃ i, i ≤ C.length ∧ pre = C.take i
  bel : Below w.heap.size w W
theorem own_ne {X : World} {B : Nat} {t : TypeId} {s : Nat} {u : Value} {n : Nat} {xs : List Value} (h : X.ownsRow B t s u n xs) {row : Option Nat} (hr : ∀ r, row = some r → ∃ o : Obj, X.heap[r]? = some o ∧ o.isCells = false) : ∀ k, u.ownBlock = some k → k ∉ row.toList := by
  intro k hk hm
  have hrow : row = some k := by simpa using hm
  obtain ⟨o, h1, h2⟩ := hr k hrow
  rcases h.2 with ⟨rfl, _⟩ | ⟨g, cap, cur, rfl, _, hgg, _⟩
  · cases hk
  · have : g = k := by simpa [Value.ownBlock] using hk
    subst this
    rw [hgg] at h1; cases h1; cases h2
theorem seqI_own {w : World} {C : List Itm} {B : Nat} (hB : w.heap.size < B) : OwnFrom B (SeqI w C) := fun pre X Y row h hg hr => by
  obtain ⟨⟨u, h1, h2⟩, h3, h4⟩ := h
  have ho := only_of_grown hg
  have hlt : ∀ k ∈ row.toList, B ≤ k := fun k hk => (hr k (by simpa using hk)).1
  refine ⟨⟨u, boxed_of h1 ho (fun hk => by have := hlt _ hk; omega), ownsRow_only h2 ho (own_ne h2 fun r e => (hr r e).2)⟩, h3, h4.trans (ho.below (fun k hk => by have := hlt k hk; omega) h4.size)⟩
theorem SeqI.keep {w W W' : World} {C pre : List Itm} (h : SeqI w C pre W) (hb : Below W.heap.size W W') : SeqI w C pre W' := by
  obtain ⟨⟨u, h1, h2⟩, h3, h4⟩ := h
  exact ⟨⟨u, boxed_of h1 (Only.of_below (F := []) hb) (by simp), ownsRow_only h2 (Only.of_below (F := []) hb) (fun _ _ => by simp)⟩, h3, h4.trans (hb.mono h4.size)⟩

theorem wpListIn_append_run {F : Fence} {n : Nat} {P : Program} (w : World) {ops : Array Oper} {rest : List Oper} {o : Oper} {a : Act} {Q : Exit → Act → World → Prop} (hg : o.guard = none) (s x : Operand) (t tn : TypeId)
    (hop : o.op = Op.call { callee := Callee.builtin Builtin.append, args := #[s, x], argTypes := #[t, tn] }) (v u : Value) (hs : a.eval s = v) (hx : a.eval x = u) (v' : Value) (w' : World)
    (hr : (Builtin.append_ #[t, tn] o.type #[v, u]).run P w = .ok v' w') (h : wpListIn F n P ops Q rest (a.put o.dst v') w') : wpListIn F n P ops Q (o :: rest) a w := by
  refine wpListIn_plain hg fun K hK' => ?_
  unfold Oper.wpIn
  refine ⟨?_, ?_⟩
  · simp [Oper.about, hop, resolve, Target.leads, Sem.run_pure]
  · rw [Oper.semAt_plain F _ _ (by rw [hop]; intro c hc'; cases hc')]
    simp [execOp, hop, resolve, invoke, builtin, hs, hx, hr, Result.andThen]
    exact hK' _ _ h
theorem grown_of_only {W W' : World} {row : Option Nat} (h : Only row.toList W W') : W.grownBy W' row :=
  ⟨h.os, h.tape, h.output, h.size, fun k hk hn => h.block k hk (fun hm => hn (by simpa [eq_comm] using hm))⟩

set_option maxRecDepth 100000 in
set_option maxHeartbeats 4000000 in
theorem appendSeq_in {w : World} {Bs g cap : Nat} {v : Value} {C : List Itm} (hBs : w.cell? ⟨Bs, 0, none⟩ = some v) (hS : SrcIs w v g cap C) (hl : C.length < 1073741824) :
    CallsIn Fence.wide 3 Try.prog 43 #[.slice none 0 0, .func (.func 40) #[] #[.pointer (some ⟨Bs, 0, none⟩)]] w fun e w' => ∃ u, e = .returned u ∧ w'.ownsRow w.heap.size 59 3 u C.length (flatI C) ∧ Below w.heap.size w w' := by
  have HBs := Lib.hid hBs
  have HBl := Lib.hid (show Bs < w.heap.size from World.block_lt_of_cell? _ _ hBs)
  have HS := Lib.hid hS
  have I0 : SeqI w C [] (w.alloc (.cells #[.slice none 0 0] 54)) := ⟨⟨_, Boxed.new w _ _, World.ownsRow_nil _ _ _ _⟩, ⟨0, Nat.zero_le _, by simp⟩, (Below.refl _ _).alloc (Nat.le_refl _) _⟩
  clear hBs hS
  refine callsIn_of_wp_marks Try.func43 rfl trivial ?_ rfl
  simp only [Try.ntmps43, List.size_toArray, List.length_cons, List.length_nil, Nat.reduceAdd, Nat.reduceSub, Array.replicate_succ, Array.replicate_zero, List.push_toArray, List.append_toArray, List.nil_append, List.cons_append]
  have HI0 := Lib.hid I0
  clear I0
  have hsz : (w.alloc (.cells #[.slice none 0 0] 54)).heap.size = w.heap.size + 1 := by simp
  have hb0 : Below w.heap.size w (w.alloc (.cells #[.slice none 0 0] 54)) := (Below.refl _ _).alloc (Nat.le_refl _) _
  have HSZ := Lib.hid hsz
  have HB0 := Lib.hid hb0
  clear hsz hb0
  gi_wp2
  rename_i K hK
  generalize w.alloc (.cells #[.slice none 0 0] 54) = W0 at *
  have key : ∀ (W : World), SeqI w C C W → W.heap[w.heap.size + 1]? = some (.deferred (some [])) → K { tmps := #[.slice none 0 0, .func (.func 40) #[] #[.pointer (some ⟨Bs, 0, none⟩)], .pointer (some ⟨w.heap.size, 0, none⟩), undef, .slice none 0 0, undef, .func (.func 40) #[] #[.pointer (some ⟨Bs, 0, none⟩)], undef, undef, undef, undef, undef, undef], defers := [{ target := .collected (w.heap.size + 1), args := #[] }] } W := by
    intro W hI hD
    obtain ⟨⟨u, h1, h2⟩, h3, h4⟩ := hI
    have cu := h1.cell
    have FIN := Lib.hid (show ∀ Y, Only [w.heap.size + 1] W Y → ∃ u', Ending.returned u = .returned u' ∧ Y.ownsRow w.heap.size 59 3 u' C.length (flatI C) ∧ Below w.heap.size w Y from fun Y hy =>
      ⟨u, rfl, ownsRow_only h2 hy (fun k hk hm => by
        simp at hm; subst hm
        rcases h2.2 with ⟨rfl, _⟩ | ⟨g, cap, cur, rfl, _, hgg, _⟩
        · cases hk
        · simp [Value.ownBlock] at hk; subst hk; rw [hgg] at hD; cases hD), h4.trans (hy.below (by simp) h4.size)⟩)
    obtain ⟨p, c, rfl⟩ : ∃ p c, u = .slice p C.length c := by
      rcases h2.2 with ⟨rfl, e⟩ | ⟨g, cap, cur, rfl, _⟩
      · exact ⟨none, 0, by rw [e]⟩
      · exact ⟨_, _, rfl⟩
    have HD := Lib.hid hD
    clear h1 h2 h3 h4 hD
    refine hK _ _ ?_
    gi_wp2
    refine ⟨by simp, .inl ⟨_, _, rfl, run_takeDeferred HD.out, ?_⟩⟩
    exact ⟨_, results_tmp rfl _ _ _, FIN.out _ ((only_of_grown (grownBy_putObj' W (w.heap.size + 1) (.deferred none))).mono (by simp))⟩
  have KEY := Lib.hid key
  clear key hK
  refine wpIn_range_told (by omega) (gf := 40) (lb := #[.pointer (some ⟨Bs, 0, none⟩)]) rfl (enters_of Try.func40 (by kernel_rfl) rfl)
    (encs := fun x : Itm => #[.agg #[.int .u64 x.d, .int .u64 x.w, .int .i64 x.h]]) (fun _ => rfl) (SeqI w C) (fun _ _ _ => False)
    (fun pre x => ∃ i, i < C.length ∧ pre = C.take i ∧ x = at_ C i) (fun xs => xs = C) (seqI_own (by rw [HSZ.out]; omega)) (fun cd => fun _ _ _ _ h => h.elim) HI0.out
    (fun pre x a' W => ∃ q, W.heap[q]? = some (.cells #[.int .u64 x.d, .int .u64 x.w, .int .i64 x.h] 59 (0, 0)) ∧ w.heap.size < q ∧ a' = { tmps := #[.slice none 0 0, .func (.func 40) #[] #[.pointer (some ⟨Bs, 0, none⟩)], .pointer (some ⟨w.heap.size, 0, none⟩), undef, .slice none 0 0, .pointer (some ⟨q, 0, none⟩), .func (.func 40) #[] #[.pointer (some ⟨Bs, 0, none⟩)], .agg #[.int .u64 x.d, .int .u64 x.w, .int .i64 x.h], undef, undef, undef, undef, undef], defers := [] }) ?ax ?seq ?assign ?body ?done ?stop
  case ax =>
    rintro pre x a' _ X Y row ⟨q, h1, h2, h3⟩ hg hr
    refine ⟨q, (hg.block q (Array.getElem?_eq_some_iff.1 h1).1 (fun e => ?_)).trans h1, h2, h3⟩
    obtain ⟨_, o, h4, h5⟩ := hr q e.symm
    rw [h1] at h4; cases h4; cases h5
  case seq =>
    intro l J Jx Y hb hJ hJx hJI hY hJ0
    exact values1_in 2 (by omega) l Bs g cap v C hl J Jx (fun pre X h => ⟨((hJI pre X h).bel.cell (p := ⟨Bs, 0, none⟩) HBl.out).trans HBs.out, HS.out.below (hJI pre X h).bel⟩)
      (fun pre X Y h hb => hJ pre X Y none h ⟨hb.os, hb.tape, hb.output, hb.size, fun k hk _ => hb.block k hk⟩ (fun r e => by cases e)) hY Y hJ0
  case assign =>
    intro l pre x W K hI hOk hK
    have hw : w.heap.size < W.heap.size := by obtain ⟨u, h1, _⟩ := hI.ex; exact h1.lt
    have HF := Lib.hid (hK { tmps := #[.slice none 0 0, .func (.func 40) #[] #[.pointer (some ⟨Bs, 0, none⟩)], .pointer (some ⟨w.heap.size, 0, none⟩), undef, .slice none 0 0, .pointer (some ⟨W.heap.size, 0, none⟩), .func (.func 40) #[] #[.pointer (some ⟨Bs, 0, none⟩)], .agg #[.int .u64 x.d, .int .u64 x.w, .int .i64 x.h], undef, undef, undef, undef, undef], defers := [] } (W.alloc (.cells #[.int .u64 x.d, .int .u64 x.w, .int .i64 x.h] 59))
      (keepsFrom_of (F := []) ((Only.refl _ _).alloc _) (by simp)) (hI.keep ((Below.refl _ _).alloc (Nat.le_refl _) _)) ⟨W.heap.size, World.alloc_heap_new _ _, hw, rfl⟩)
    obtain ⟨x0, x1, x2⟩ := x
    clear hK hI hOk
    gi_wp2
    exact HF.out
  case body =>
    rintro l pre x a' W hI ⟨i, hi, hpre, hx⟩ ⟨q, hq, hqs, rfl⟩
    obtain ⟨u, hbx, how⟩ := hI.ex
    have hlen : pre.length = i := by rw [hpre]; simp; omega
    have hsl := hbx.lt
    have hs : C.take (i + 1) = pre ++ [x] := by rw [List.take_succ_eq_append_getElem hi, hx, at_get _ _ hi, hpre]
    obtain ⟨u', W2, hr, how2, hj2, hon2⟩ := run_append_itm (w := W.alloc (.cells #[.int .u64 x.d, .int .u64 x.w, .int .i64 x.h] 59)) (how.alloc _) (by omega) x W.heap.size (World.alloc_heap_new W _) (by simp; omega) 54
    obtain ⟨a1, a2, a3, a4, a5⟩ := Boxed.appended hbx (by decide) how (Nat.le_of_lt hsl) (Nat.le_refl _) how2 (grown_of_only hon2)
    have FIN := Lib.hid (show KeepsFrom W0.heap.size W (W2.setCell ⟨w.heap.size, 0, none⟩ u') ∧ True ∧ SeqI w C (pre ++ [x]) (W2.setCell ⟨w.heap.size, 0, none⟩ u') from
      ⟨⟨a4.size, fun k o _ hk ho => a4.same k o hk ho⟩, trivial, ⟨⟨u', a2, by rw [List.length_append]; exact a3⟩, ⟨i + 1, hi, hs.symm⟩, hI.bel.trans a5⟩⟩)
    have y0 : W.cell? ⟨q, 0, none⟩ = some (.int .u64 x.d) := cell_of_row W _ 0 _ _ _ hq
    have y1 : W.cell? ⟨q, 1, none⟩ = some (.int .u64 x.w) := cell_of_row W _ 1 _ _ _ hq
    have y2 : W.cell? ⟨q, 2, none⟩ = some (.int .i64 x.h) := cell_of_row W _ 2 _ _ _ hq
    have cu := hbx.cell
    have cu1 := a1.cell
    have fu1 := a1.frozen
    obtain ⟨g1, cap1, rfl⟩ := ownsRow_succ how2
    have HRUN := Lib.hid hr
    obtain ⟨k, hk⟩ : ∃ k, k = pre.length := ⟨_, rfl⟩
    have hk2 : k < 1073741824 := by omega
    rw [← hk] at HRUN FIN
    obtain ⟨p, m, c, rfl⟩ : ∃ p m c, u = .slice p m c := by
      rcases how.2 with ⟨rfl, e⟩ | ⟨g, cap, cur, rfl, _⟩
      · exact ⟨none, 0, 0, rfl⟩
      · exact ⟨_, _, _, rfl⟩
    clear hI hlen hs hr how how2 hj2 hon2 a1 a2 a3 a4 a5 hbx hq hk hx hpre hi
    obtain ⟨x0, x1, x2⟩ := x
    dsimp only at y0 y1 y2 HRUN FIN
    gi_wp2_with (gi_at_builtin; refine wpListIn_append_run _ rfl _ _ 54 54 rfl _ _ rfl rfl _ _ HRUN.out ?_)
    exact FIN.out
  case done =>
    rintro xs W rfl h hD
    rw [HSZ.out] at hD ⊢
    exact KEY.out W h hD
  case stop =>
    rintro cd pre W h
    exact h.elim
end Go.Proofs.Ytgkmihlnmhegfaa
