/- The map from ids to alarms (layer 8): what it says of each id, how many there are; looked up, written, struck. -/
import Derived.Test.YtobbmhboahognaaDoorClkPlain
namespace Go.Proofs.YtobbmhboahognaaDoor
open Go.RowKit Go.Maps
set_option linter.unusedVariables false

/-- How an alarm reads. -/
def alR : Value → Option (DataW Unit × List MemPlace)
  | .agg ⟨[.int .i64 a, .int .u64 d]⟩ => some (.agg [.lit (.int .i64 a), .lit (.int .u64 d)], [])
  | _ => none
def alD (p : Int × Int) : DataW Unit := .agg [.lit (.int .i64 p.1), .lit (.int .u64 p.2)]
theorem alR_mk (a d : Int) : alR (.agg #[.int .i64 a, .int .u64 d]) = some (alD (a, d), []) := rfl
theorem alR_inv {v : Value} {p : Int × Int} {ps : List MemPlace} (h : alR v = some (alD p, ps)) : v = .agg #[.int .i64 p.1, .int .u64 p.2] := by
  obtain ⟨a, d⟩ := p
  unfold alR alD at h
  split at h
  · simp only [Option.some.injEq, Prod.mk.injEq, DataW.agg.injEq, List.cons.injEq, DataW.lit.injEq, Lit.int.injEq, and_true, true_and] at h
    obtain ⟨⟨rfl, rfl⟩, _⟩ := h
    rfl
  · cases h
def SaysA (D : DataW Unit) (f : Int → Option (Int × Int)) : Prop := ∀ k : Int, has D (.int .u64 k) = (f k).isSome ∧ D.atKey (.int .u64 k) (alD (0, 0)) = alD ((f k).getD (0, 0))
/-- Block mb is a map of n entries, at most c of them ever, that says f. -/
def AlIs (W : World) (mb c n : Nat) (f : Int → Option (Int × Int)) : Prop := ∃ D : DataW Unit, W.ownsMap Tryd.prog 47 alR mb c D ∧ Maps.size D = n ∧ SaysA D f
section
variable {W W' : World} {mb c n : Nat} {f : Int → Option (Int × Int)}
theorem AlIs.lt (h : AlIs W mb c n f) : mb < W.heap.size := by obtain ⟨D, h, _⟩ := h; exact World.ownsMap.lt h
theorem AlIs.mono {d : Nat} (h : AlIs W mb c n f) (hc : c ≤ d) : AlIs W mb d n f := by obtain ⟨D, h, k⟩ := h; exact ⟨D, World.ownsMap.mono h hc, k⟩
theorem AlIs.block (h : AlIs W mb c n f) (hb : W'.heap[mb]? = W.heap[mb]?) : AlIs W' mb c n f := by
  obtain ⟨D, ⟨es, clock, h1, h2⟩, k⟩ := h
  exact ⟨D, ⟨es, clock, hb.trans h1, h2⟩, k⟩
theorem AlIs.made (W : World) : AlIs (W.alloc (.map #[] 0)) W.heap.size 0 0 (fun _ => none) := ⟨.map [], World.ownsMap_made W Tryd.prog 47 _, rfl, fun k => ⟨rfl, rfl⟩⟩
theorem zero_alarm (W : World) : (zeroValue 124).run Tryd.prog W = .ok (.agg #[.int .i64 0, .int .u64 0]) W := by kernel_rfl
theorem AlIs.look (h : AlIs W mb c n f) (k : Int) (hk : (Lit.int .u64 k).wf = true) :
    (Instr.lookup 120 (.map (some mb)) (.int .u64 k) true).run Tryd.prog W = .ok (.tuple #[.agg #[.int .i64 ((f k).getD (0, 0)).1, .int .u64 ((f k).getD (0, 0)).2], .bool (f k).isSome]) W := by
  obtain ⟨D, h, _, hs⟩ := h
  obtain ⟨v, ps, hr, hv⟩ := World.ownsMap.look_ok h (Maps.int_keyed Tryd.underlying47) Tryd.underlying120 (zero_alarm W) (alR_mk 0 0) (Maps.keyOf_int_mk Tryd.underlying47 hk)
  rw [(hs k).2] at hv
  rw [hr, alR_inv hv, (hs k).1]
theorem AlIs.put (h : AlIs W mb c n f) (k : Int) (hk : (Lit.int .u64 k).wf = true) (a d : Int) (hn : f k = none) (hc : c < maxLen) :
    ∃ W', (Instr.mapUpdate 120 (.map (some mb)) (.int .u64 k) (.agg #[.int .i64 a, .int .u64 d])).run Tryd.prog W = .ok () W' ∧ AlIs W' mb (c + 1) (n + 1) (aput f k (a, d)) ∧ W.grownBy W' (some mb) ∧ W'.heap.size = W.heap.size := by
  obtain ⟨D, h, hsz, hs⟩ := h
  have ht := World.ownsMap.tidy h (Maps.int_keyed Tryd.underlying47)
  obtain ⟨W', hr, ho, hg⟩ := World.ownsMap.store h (Maps.int_keyed Tryd.underlying47) Tryd.underlying120 hc (Maps.keyOf_int_mk Tryd.underlying47 hk) (alR_mk a d)
  refine ⟨W', hr, ⟨_, ho, ?_, fun j => ?_⟩, hg.grown, ?_⟩
  · rw [size_put ht, (hs k).1, hn, if_neg (by simp), hsz]
  · unfold aput
    by_cases e : j = k
    · subst e
      rw [has_put_same (World.ownsMap.isMap h) (by simp [WideAt.IsKeyLit]), atKey_put_same (World.ownsMap.isMap h) (by simp [WideAt.IsKeyLit]), if_pos rfl]
      exact ⟨rfl, rfl⟩
    · rw [has_put_other (fun h' => e (by cases h'; rfl)), atKey_put_other (fun h' => e (by cases h'; rfl)), if_neg e]
      exact hs j
  · obtain ⟨es, clock, es', clock', hb, rfl⟩ := hg
    simp [Go.ChangeMaps.setBlock]
theorem AlIs.del (h : AlIs W mb c n f) (k : Int) (hk : (Lit.int .u64 k).wf = true) (hn : (f k).isSome = true) (ty : TypeId) :
    ∃ W', (Builtin.delete_ #[120, 47] ty #[.map (some mb), .int .u64 k]).run Tryd.prog W = .ok (.tuple #[]) W' ∧ AlIs W' mb c (n - 1) (adel f k) ∧ W.grownBy W' (some mb) ∧ W'.heap.size = W.heap.size := by
  obtain ⟨D, h, hsz, hs⟩ := h
  have ht := World.ownsMap.tidy h (Maps.int_keyed Tryd.underlying47)
  obtain ⟨W', hr, ho, hg⟩ := World.ownsMap.drop h (Maps.int_keyed Tryd.underlying47) Tryd.underlying120 (Maps.keyOf_int_mk Tryd.underlying47 hk) ty
  refine ⟨W', hr, ⟨_, ho, ?_, fun j => ?_⟩, hg.grown, ?_⟩
  · have := size_del (k := .int .u64 k) ht
    rw [(hs k).1, hn, if_pos rfl, hsz] at this
    omega
  · unfold adel
    by_cases e : j = k
    · subst e
      rw [has_del_same, atKey_del_same, if_pos rfl]
      exact ⟨rfl, rfl⟩
    · rw [has_del_other (fun h' => e (by cases h'; rfl)), atKey_del_other (fun h' => e (by cases h'; rfl)), if_neg e]
      exact hs j
  · obtain ⟨es, clock, es', clock', hb, rfl⟩ := hg
    simp [Go.ChangeMaps.setBlock]
theorem AlIs.len (h : AlIs W mb c n f) (ty : TypeId) : (Builtin.len_ #[120] ty #[.map (some mb)]).run Tryd.prog W = .ok (.int .i64 n) W := by
  obtain ⟨D, h, hsz, hs⟩ := h
  have := World.ownsMap.len h Tryd.underlying120 ty
  rw [hsz] at this
  exact this
end
/-- delete at the operation, for the walk. -/
theorem wpList_delete_al {w : World} {mb c n : Nat} {f : Int → Option (Int × Int)} {ops : Array Oper} {rest : List Oper} {o : Oper} {a : Act} {Q : Exit → Act → World → Prop} (hg : o.guard = none) (m x : Operand)
    (hop : o.op = Op.call { callee := Callee.builtin Builtin.delete, args := #[m, x], argTypes := #[120, 47] }) (hm : a.eval m = .map (some mb)) (h : AlIs w mb c n f) (k : Int) (hk : (Lit.int .u64 k).wf = true) (hn : (f k).isSome = true) (hx : a.eval x = .int .u64 k)
    (hK : ∀ w', AlIs w' mb c (n - 1) (adel f k) → w.grownBy w' (some mb) → w'.heap.size = w.heap.size → wpList Tryd.prog ops Q rest (a.put o.dst (.tuple #[])) w') : wpList Tryd.prog ops Q (o :: rest) a w := by
  refine wpList_plain hg fun K' hK' => ?_
  obtain ⟨w', hrun, h1, h2, h3⟩ := h.del k hk hn o.type
  unfold Oper.wp
  simp [execOp, hop, resolve, invoke, builtin, hm, hx, hrun, Result.andThen]
  exact hK' _ _ (hK w' h1 h2 h3)
/-- len at the operation. -/
theorem wpList_len_al {w : World} {mb c n : Nat} {f : Int → Option (Int × Int)} {ops : Array Oper} {rest : List Oper} {o : Oper} {a : Act} {Q : Exit → Act → World → Prop} (hg : o.guard = none) (m : Operand)
    (hop : o.op = Op.call { callee := Callee.builtin Builtin.len, args := #[m], argTypes := #[120] }) (hm : a.eval m = .map (some mb)) (h : AlIs w mb c n f)
    (hK : wpList Tryd.prog ops Q rest (a.put o.dst (.int .i64 n)) w) : wpList Tryd.prog ops Q (o :: rest) a w := by
  refine wpList_plain hg fun K' hK' => ?_
  unfold Oper.wp
  simp [execOp, hop, resolve, invoke, builtin, hm, h.len o.type, Result.andThen]
  exact hK' _ _ hK
/-- m[k] = v at the operation. -/
theorem wpList_put_al {w : World} {mb c n : Nat} {f : Int → Option (Int × Int)} {ops : Array Oper} {rest : List Oper} {o : Oper} {a : Act} {Q : Exit → Act → World → Prop} (hg : o.guard = none) (m x v : Operand)
    (hop : o.op = Op.mapUpdate 120 m x v) (hm : a.eval m = .map (some mb)) (h : AlIs w mb c n f) (k : Int) (hk : (Lit.int .u64 k).wf = true) (d e : Int) (hn : f k = none) (hc : c < maxLen) (hx : a.eval x = .int .u64 k) (hv : a.eval v = .agg #[.int .i64 d, .int .u64 e])
    (hK : ∀ w', AlIs w' mb (c + 1) (n + 1) (aput f k (d, e)) → w.grownBy w' (some mb) → w'.heap.size = w.heap.size → wpList Tryd.prog ops Q rest (a.put o.dst undef) w') : wpList Tryd.prog ops Q (o :: rest) a w := by
  refine wpList_plain hg fun K' hK' => ?_
  obtain ⟨w', hrun, h1, h2, h3⟩ := h.put k hk d e hn hc
  unfold Oper.wp
  simp [execOp, hop, hm, hx, hv, hrun, Result.andThen]
  exact hK' _ _ (hK w' h1 h2 h3)
end Go.Proofs.YtobbmhboahognaaDoor
