/- Two arrays of the same words are the same (layer 6): the comparison's run. No condition but their length. -/
import Derived.Test.YtobbmhboahognaaDoorProg
import Derived.WalkKit
import Derived.Laws.StructEq
import Derived.Laws.MakeOwn
namespace Go.Proofs.YtobbmhboahognaaDoor
open Go.RowKit
set_option linter.unusedVariables false

theorem info_u : (Tryd.prog.info? 47).map (fun i => (i.zero, i.size, i.bytes)) = some (some (.int .u64 0), 1, 8) := by kernel_rfl
theorem part_u (rs : List Int) (i : Nat) (hi : i < rs.length) (w : World) : (part 47 (rs.map (Value.int .u64)).toArray i).run Tryd.prog w = .ok (.int .u64 (rs.getD i 0)) w := by
  simp [part, isAgg, Sem.run_bind, run_underlying Tryd.underlying47, hi]
theorem arr_eq (rs : List Int) (hl : rs.length = 32) (w : World) : (binOp .eql 48 (.agg (rs.map (Value.int .u64)).toArray) (.agg (rs.map (Value.int .u64)).toArray)).run Tryd.prog w = .ok (.bool true) w := by
  obtain ⟨i0, hi0, hz0, hz1, hz2⟩ := info_parts info_u
  rw [run_eql_struct]
  obtain ⟨d, hd⟩ : ∃ d, 10000 = d + 1 + 1 := ⟨9998, rfl⟩
  rw [hd]
  clear hd
  rw [Op.equalIn]
  simp only [Sem.run_bind, run_underlying Tryd.underlying48, Result.andThen_ok, Std.Legacy.Range.forIn_eq_forIn_range', Std.Legacy.Range.size]
  have hs : (sizeOf 47).run Tryd.prog w = .ok 1 w := by simp [sizeOf, typeInfo, hi0, hz1]
  rw [hs]
  simp only [Result.andThen_ok]
  have loop : ∀ (l : List Nat), (∀ i ∈ l, i < 32) → ((forIn l (none, ()) fun i (__s : Option Bool × Unit) => do
                  let __do_lift ← part 47 (List.map (Value.int IntKind.u64) rs).toArray (i * 1)
                  let __do_lift_1 ← part 47 (List.map (Value.int IntKind.u64) rs).toArray (i * 1)
                  let __do_lift ← Op.equalIn (d + 1) 47 __do_lift __do_lift_1
                  if (!__do_lift) = true then pure (ForInStep.done (some false, ()))
                    else pure (ForInStep.yield (none, ()))) : Sem (Option Bool × Unit)).run Tryd.prog w = .ok (none, ()) w := by
    intro l
    induction l with
    | nil => intro _; simp
    | cons i l ih =>
      intro hm
      have hi : i < 32 := hm i (by simp)
      rw [List.forIn_cons]
      simp only [Sem.run_bind, Nat.mul_one, part_u rs i (by omega), Result.andThen_ok, run_equalIn_int w d 47 .u64 .u64 _ _ Tryd.underlying47, beq_self_eq_true, Bool.not_true, Bool.false_eq_true, if_false, Sem.run_pure]
      simpa using ih (fun j hj => hm j (by simp [hj]))
  rw [loop _ (by intro i hi; simp [List.mem_range'] at hi; omega)]
  simp
theorem arr_neq (rs : List Int) (hl : rs.length = 32) (w : World) : (binOp .neq 48 (.agg (rs.map (Value.int .u64)).toArray) (.agg (rs.map (Value.int .u64)).toArray)).run Tryd.prog w = .ok (.bool false) w := by
  obtain ⟨i0, hi0, hz0, hz1, hz2⟩ := info_parts info_u
  rw [run_neq_struct]
  obtain ⟨d, hd⟩ : ∃ d, 10000 = d + 1 + 1 := ⟨9998, rfl⟩
  rw [hd]
  clear hd
  rw [Op.equalIn]
  simp only [Sem.run_bind, run_underlying Tryd.underlying48, Result.andThen_ok, Std.Legacy.Range.forIn_eq_forIn_range', Std.Legacy.Range.size]
  have hs : (sizeOf 47).run Tryd.prog w = .ok 1 w := by simp [sizeOf, typeInfo, hi0, hz1]
  rw [hs]
  simp only [Result.andThen_ok]
  have loop : ∀ (l : List Nat), (∀ i ∈ l, i < 32) → ((forIn l (none, ()) fun i (__s : Option Bool × Unit) => do
                  let __do_lift ← part 47 (List.map (Value.int IntKind.u64) rs).toArray (i * 1)
                  let __do_lift_1 ← part 47 (List.map (Value.int IntKind.u64) rs).toArray (i * 1)
                  let __do_lift ← Op.equalIn (d + 1) 47 __do_lift __do_lift_1
                  if (!__do_lift) = true then pure (ForInStep.done (some false, ()))
                    else pure (ForInStep.yield (none, ()))) : Sem (Option Bool × Unit)).run Tryd.prog w = .ok (none, ()) w := by
    intro l
    induction l with
    | nil => intro _; simp
    | cons i l ih =>
      intro hm
      have hi : i < 32 := hm i (by simp)
      rw [List.forIn_cons]
      simp only [Sem.run_bind, Nat.mul_one, part_u rs i (by omega), Result.andThen_ok, run_equalIn_int w d 47 .u64 .u64 _ _ Tryd.underlying47, beq_self_eq_true, Bool.not_true, Bool.false_eq_true, if_false, Sem.run_pure]
      simpa using ih (fun j hj => hm j (by simp [hj]))
  rw [loop _ (by intro i hi; simp [List.mem_range'] at hi; omega)]
  simp
end Go.Proofs.YtobbmhboahognaaDoor
