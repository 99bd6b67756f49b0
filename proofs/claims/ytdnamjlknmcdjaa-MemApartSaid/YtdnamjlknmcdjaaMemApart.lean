/- An access of one cell changes no other one: MemApart returns true. The condition: the arguments read as data. -/
import Derived.Test.YtdnamjlknmcdjaaMemApartWalk
import Derived.Test.YtdnamjlknmcdjaaLawClose
import Derived.Test.YtdnamjlknmcdjaaRows
import Derived.ProofKit
import Derived.OpenShut
import Derived.JoinedOf
import Derived.JoinedAt
namespace Go.Proofs.Ytdnamjlknmcdjaa.memApart
open Go.ChangeShapes Go.WideShapes Go.ChangeAt Go.RowKit
open Go.ChangeMaps (open_string shut_string)

theorem ownK : ownKnob Try.prog.godebug = none := by kernel_rfl
theorem laidOut : laidOutB Try.prog = true := by kernel_rfl

set_option maxRecDepth 100000 in
set_option maxHeartbeats 1000000 in
theorem lifted (os : Os) (started : os.Started) (H : Type) (enc : TypeId × Value → H) :
    ReturnsInHanded {} Try.checked os 3 .any (Rows.memApartSpec.pre6 enc Try.prog Try.f3 [] false) (Rows.memApartSpec.post enc Try.prog Try.f3 false true false false) := by
  refine returnsInHanded_of_change (C := Try.checked) ownK started (by kernel_rfl) Try.func3
    (ChangeSpec.witness6 (enc := enc) (C := Try.checked) false ⟨#[], #[.slice none 0 0, .agg #[.int .i64 0, .int .i64 0, .int .i64 0, .int .i64 0, .int .u64 0, .int .u64 0, .int .u64 0]], []⟩ 8 (by kernel_rfl) (by kernel_rfl) (by kernel_rfl) (by kernel_rfl)) ?_
  intro W base args ds gs before hval0 hW _ _
  have hval : ∀ (j : Nat) t v, Try.f3.params[j]? = some t → args[j]? = some v → Value.okWide Try.prog W .any base t v := hval0
  have hW' := hW
  obtain ⟨p, q, hA0, hV, rfl, hfz, hnd⟩ := hW
  have hA : DataW.TrodAll enc Try.prog W 0 (fun _ => true) true Try.f3.params.toList args.toList ds p := hA0
  rw [Try.params3] at hA hval
  have hAll := hA
  obtain ⟨v0, vs0, d0, ds0, p0, q0, hargs, rfl, hp, h0, r0⟩ := trodAll_cons hA
  obtain ⟨v1, vs1, d1, ds1, p1, q1, rfl, rfl, rfl, h1, r1⟩ := trodAll_cons r0
  obtain ⟨rfl, rfl, rfl⟩ := trodAll_nil r1
  obtain rfl : args = #[v0, v1] := by cases args; simp_all
  obtain ⟨rfl, rfl⟩ := trodVars_none hV
  have e1 : Rows.memApartSpec.fn H ([d0, d1] ++ []) = { results := [.lit (.bool true)], args := [d0, d1] } := rfl
  obtain ⟨A0, len0, cap0, rfl⟩ := okWide_slice Try.underlying22 (hval 0 22 v0 rfl rfl)
  obtain ⟨z0, rfl, l0, s0, w0⟩ := ints_of_trod Try.underlying22 Try.underlying23 (by kernel_rfl) h0
  obtain ⟨cs1, rfl, n1, f1⟩ := struct_of_trod Try.underlying25 (by kernel_rfl) (by kernel_rfl) (hval 1 25 v1 rfl rfl) h1
  obtain ⟨a1_0, e1_0, w1_0⟩ := f1 0 _ .i64 rfl Try.underlying3
  obtain ⟨a1_1, e1_1, w1_1⟩ := f1 1 _ .i64 rfl Try.underlying3
  obtain ⟨a1_2, e1_2, w1_2⟩ := f1 2 _ .i64 rfl Try.underlying3
  obtain ⟨a1_3, e1_3, w1_3⟩ := f1 3 _ .i64 rfl Try.underlying3
  obtain ⟨a1_4, e1_4, w1_4⟩ := f1 4 _ .u64 rfl Try.underlying23
  obtain ⟨a1_5, e1_5, w1_5⟩ := f1 5 _ .u64 rfl Try.underlying23
  obtain ⟨a1_6, e1_6, w1_6⟩ := f1 6 _ .u64 rfl Try.underlying23
  obtain rfl : cs1 = #[.int .i64 a1_0, .int .i64 a1_1, .int .i64 a1_2, .int .i64 a1_3, .int .u64 a1_4, .int .u64 a1_5, .int .u64 a1_6] := array_of_list [.int .i64 a1_0, .int .i64 a1_1, .int .i64 a1_2, .int .i64 a1_3, .int .u64 a1_4, .int .u64 a1_5, .int .u64 a1_6] n1 fun
    | 0, _, h => by cases h; exact e1_0
    | 1, _, h => by cases h; exact e1_1
    | 2, _, h => by cases h; exact e1_2
    | 3, _, h => by cases h; exact e1_3
    | 4, _, h => by cases h; exact e1_4
    | 5, _, h => by cases h; exact e1_5
    | 6, _, h => by cases h; exact e1_6
    | n + 7, _, h => by simp at h
  clear hA0 hval0
  simp only [List.append_nil] at hW'
  refine (memApart_walk a1_0 a1_1 a1_2 a1_3 a1_4 a1_5 a1_6 w1_0 w1_1 w1_2 w1_3 w1_4 w1_5 w1_6 W A0 cap0 z0 l0 s0 w0 ).mono fun e W' ⟨he, hb⟩ => ?_
  subst he
  refine ⟨.bool true, rfl, _, [], p, [], p, [], hW', ?_, ?_, ?_, hb.frame _, fun h => by cases h⟩
  · exact (congrArg (fun l => DataW.TrodAll enc Try.prog W' _ _ _ Try.f3.resultTypes.toList _ l []) (congrArg Left.results e1)).mpr (trodAll_cons_mk (shut_bool Try.underlying4 true) trodAll_mk0)
  · exact trodAll_below laidOut hb (by kernel_rfl) hAll
  · rfl

theorem row_holds : Rows.MemApartSaid :=
  OpenClaim.holds_of_wide 3 Try.f3 rfl rfl rfl rfl rfl rfl rfl ⟨rfl, rfl, rfl, rfl, rfl⟩ rfl rfl rfl rfl rfl (by kernel_rfl) Try.func3 (by kernel_rfl)
    (of_decide_eq_true (by kernel_rfl)) (by unfold Func.isWrapper; first | (rw [if_pos (by decide +kernel)]; kernel_rfl) | (rw [if_neg (by decide +kernel)]; exact ⟨rfl, rfl⟩))
    (fun os started H enc _ => lifted os started H enc)
end Go.Proofs.Ytdnamjlknmcdjaa.memApart
