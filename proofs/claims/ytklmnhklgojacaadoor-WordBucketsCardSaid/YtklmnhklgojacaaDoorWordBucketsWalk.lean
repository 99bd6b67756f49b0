/- The walk of WordBuckets: it returns true; of what was there nothing has turned. -/
import Derived.Test.YtklmnhklgojacaaDoorAwake
namespace Go.Proofs.YtklmnhklgojacaaDoor
open Go.RowKit

set_option maxHeartbeats 1000000 in
theorem wordBuckets_walk (a0 a1 : Int) (_w0 : (Lit.int .u64 a0).wf = true) (w1 : (Lit.int .i64 a1).wf = true) (w : World) (hg : ErrType w) (ht : Pow10 w) :
    Calls Tryd.prog 4 #[.int .u64 a0, .int .i64 a1] w fun e w' => e = .returned (.bool true) ∧ Below w.heap.size w w' := by
  have hn : a1 ≤ 9223372036854775807 := by
    simp [Lit.wf, IntKind.min, IntKind.max, IntKind.signed, IntKind.bits] at w1
    omega
  clear w1
  have AW := Lib.hid (awake_any w hg ht)
  have c1 := fun w => bucket_any a0 a1 hn w
  have c2 := fun w => rbucket_any a0 a1 hn w
  have hz : a1 < 1 → bucket a0 a1 = 0 := fun h => by rw [bucket, if_pos h]
  have hr : 1 ≤ a1 → 0 ≤ bucket a0 a1 ∧ bucket a0 a1 < a1 := bucket_range a0 a1
  obtain ⟨b, hb⟩ : ∃ b, b = bucket a0 a1 := ⟨_, rfl⟩
  rw [← hb] at c1 c2 hz hr
  have C1 := Lib.hid c1
  have C2 := Lib.hid c2
  clear c1 c2 hb hg ht
  by_cases h1 : a1 < 1
  · obtain rfl := hz h1
    clear hr hz
    go_enter Tryd.func4, Tryd.ntmps4
    go_wp2_with fail
    go_at_call 20
    refine (C1.out _).mono ?_
    rintro e w' ⟨rfl, rfl⟩
    go_wp2_with fail
    go_at_call 21
    refine (C2.out _).mono ?_
    rintro e w' ⟨rfl, rfl⟩
    go_wp2_with fail
    go_at_call 19
    refine AW.out.mono ?_
    rintro e w2 ⟨rfl, hb2⟩
    go_wp2_with fail
    go_ret
    exact ⟨rfl, hb2⟩
  · obtain ⟨r0, r1⟩ := hr (by omega)
    clear hr hz
    go_enter Tryd.func4, Tryd.ntmps4
    go_wp2_with fail
    go_at_call 20
    refine (C1.out _).mono ?_
    rintro e w' ⟨rfl, rfl⟩
    go_wp2_with fail
    go_at_call 21
    refine (C2.out _).mono ?_
    rintro e w' ⟨rfl, rfl⟩
    go_wp2_with fail
    go_at_call 19
    refine AW.out.mono ?_
    rintro e w2 ⟨rfl, hb2⟩
    go_wp2_with fail
    go_ret
    exact ⟨rfl, hb2⟩
end Go.Proofs.YtklmnhklgojacaaDoor
