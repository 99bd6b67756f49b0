/- Two arrays of the same words are the same (layer 6): the comparison's run. No condition but their length. -/
import Derived.Test.YtlodkgbmojgmnaaProg
import Derived.WalkKit
import Derived.Laws.StructEq
import Derived.Laws.MakeOwn
namespace Go.Proofs.Ytlodkgbmojgmnaa
open Go.RowKit
set_option linter.unusedVariables false

theorem info_u : (Try.prog.info? 22).map (fun i => (i.zero, i.size, i.bytes)) = some (some (.int .u64 0), 1, 8) := by kernel_rfl
theorem part_u (rs : List Int) (i : Nat) (hi : i < rs.length) (w : World) : (part 22 (rs.map (Value.int .u64)).toArray i).run Try.prog w = .ok (.int .u64 (rs.getD i 0)) w := by
  simp [part, isAgg, Sem.run_bind, run_underlying Try.underlying22, hi]
theorem arr_eq (rs : List Int) (hl : rs.length = 32) (w : World) : (binOp .eql 32 (.agg (rs.map (Value.int .u64)).toArray) (.agg (rs.map (Value.int .u64)).toArray)).run Try.prog w = .ok (.bool true) w := by
  obtain ⟨i0, hi0, hz0, hz1, hz2⟩ := info_parts info_u
  rw [run_eql_struct]
  obtain ⟨d, hd⟩ : ∃ d, 10000 = d + 1 + 1 := ⟨9998, rfl⟩
  rw [hd]
  clear hd
  rw [Op.equalIn]
  simp only [Sem.run_bind, run_underlying Try.underlying32, Result.andThen_ok, Std.Legacy.Range.forIn_eq_forIn_range', Std.Legacy.Range.size]
  have hs : (sizeOf 22).run Try.prog w = .ok 1 w := by simp [sizeOf, typeInfo, hi0, hz1]
  rw [hs]
  simp only [Result.andThen_ok]
  have loop : ∀ (l : List Nat), (∀ i ∈ l, i < 32) → ((forIn l (none, ()) fun i (__s : Option Bool × Unit) => do
                  let __do_lift ← part 22 (List.map (Value.int IntKind.u64) rs).toArray (i * 1)
                  let __do_lift_1 ← part 22 (List.map (Value.int IntKind.u64) rs).toArray (i * 1)
                  let __do_lift ← Op.equalIn (d + 1) 22 __do_lift __do_lift_1
                  if (!__do_lift) = true then pure (ForInStep.done (some false, ()))
                    else pure (ForInStep.yield (none, ()))) : Sem (Option Bool × Unit)).run Try.prog w = .ok (none, ()) w := by
    intro l
    induction l with
    | nil => intro _; simp
    | cons i l ih =>
      intro hm
      have hi : i < 32 := hm i (by simp)
      rw [List.forIn_cons]
      simp only [Sem.run_bind, Nat.mul_one, part_u rs i (by omega), Result.andThen_ok, run_equalIn_int w d 22 .u64 .u64 _ _ Try.underlying22, beq_self_eq_true, Bool.not_true, Bool.false_eq_true, if_false, Sem.run_pure]
      simpa using ih (fun j hj => hm j (by simp [hj]))
  rw [loop _ (by intro i hi; simp [List.mem_range'] at hi; omega)]
  simp
theorem arr_neq (rs : List Int) (hl : rs.length = 32) (w : World) : (binOp .neq 32 (.agg (rs.map (Value.int .u64)).toArray) (.agg (rs.map (Value.int .u64)).toArray)).run Try.prog w = .ok (.bool false) w := by
  obtain ⟨i0, hi0, hz0, hz1, hz2⟩ := info_parts info_u
  rw [run_neq_struct]
  obtain ⟨d, hd⟩ : ∃ d, 10000 = d + 1 + 1 := ⟨9998, rfl⟩
  rw [hd]
  clear hd
  rw [Op.equalIn]
  simp only [Sem.run_bind, run_underlying Try.underlying32, Result.andThen_ok, Std.Legacy.Range.forIn_eq_forIn_range', Std.Legacy.Range.size]
  have hs : (sizeOf 22).run Try.prog w = .ok 1 w := by simp [sizeOf, typeInfo, hi0, hz1]
  rw [hs]
  simp only [Result.andThen_ok]
  have loop : ∀ (l : List Nat), (∀ i ∈ l, i < 32) → ((forIn l (none, ()) fun i (__s : Option Bool × Unit) => do
                  let __do_lift ← part 22 (List.map (Value.int IntKind.u64) rs).toArray (i * 1)
                  let __do_lift_1 ← part 22 (List.map (Value.int IntKind.u64) rs).toArray (i * 1)
                  let __do_lift ← Op.equalIn (d + 1) 22 __do_lift __do_lift_1
                  if (!__do_lift) = true then pure (ForInStep.done (some false, ()))
                    else pure (ForInStep.yield (none, ()))) : Sem (Option Bool × Unit)).run Try.prog w = .ok (none, ()) w := by
    intro l
    induction l with
    | nil => intro _; simp
    | cons i l ih =>
      intro hm
      have hi : i < 32 := hm i (by simp)
      rw [List.forIn_cons]
      simp only [Sem.run_bind, Nat.mul_one, part_u rs i (by omega), Result.andThen_ok, run_equalIn_int w d 22 .u64 .u64 _ _ Try.underlying22, beq_self_eq_true, Bool.not_true, Bool.false_eq_true, if_false, Sem.run_pure]
      simpa using ih (fun j hj => hm j (by simp [hj]))
  rw [loop _ (by intro i hi; simp [List.mem_range'] at hi; omega)]
  simp
end Go.Proofs.Ytlodkgbmojgmnaa
