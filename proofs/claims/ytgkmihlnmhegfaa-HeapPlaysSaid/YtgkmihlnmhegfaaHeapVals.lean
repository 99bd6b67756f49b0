/- The values of a row of items, gathered into a new row (layer 7): the library's Values, AppendSeq, Collect and SortedFunc at items. The condition: fewer than 2^30 items. -/
import Derived.Test.YtgkmihlnmhegfaaHeapSort
import Derived.Test.YtgkmihlnmhegfaaRangeTold
namespace Go.Proofs.Ytgkmihlnmhegfaa
open Go.RowKit Go.Shelf
set_option linter.unusedVariables false
attribute [local go_sem] Oper.semAt_some

/-- A row of items, or none. -/
def SrcIs (W : World) (v : Value) (g cap : Nat) (C : List Itm) : Prop := (v = .slice none 0 0 ∧ C = []) ∨ (v = .slice (some ⟨g, 0, none⟩) C.length cap ∧ IRow W g cap C)

set_option maxHeartbeats 1000000 in
theorem mkValues_any (v : Value) (hv : (∃ p n c, v = .slice p n c)) (w : World) :
    Calls Try.prog 32 #[v] w fun e w' => e = .returned (.func (.func 40) #[] #[.pointer (some ⟨w.heap.size, 0, none⟩)]) ∧ w' = w.alloc (.cells #[v] 54) := by
  obtain ⟨p, n, c, rfl⟩ := hv
  go_enter Try.func32, Try.ntmps32
  go_wp2
  go_ret
  exact ⟨rfl, rfl⟩

set_option maxRecDepth 100000 in
set_option maxHeartbeats 2000000 in
theorem values1_in (n : Nat) (hn : 1 ≤ n) (l Bs g cap : Nat) (v : Value) (C : List Itm) (hl : C.length < 1073741824) (J Jx : List Itm → World → Prop)
    (hR : ∀ pre W, J pre W → W.cell? ⟨Bs, 0, none⟩ = some v ∧ SrcIs W v g cap C)
    (hJ : ∀ pre W W', J pre W → Below W.heap.size W W' → J pre W')
    (hY : ∀ pre x W, J pre W → (∃ i, i < C.length ∧ pre = C.take i ∧ x = at_ C i) → YieldAt Fence.wide (n - 1) Try.prog l #[.agg #[.int .u64 x.d, .int .u64 x.w, .int .i64 x.h]] W fun e W' =>
      (e = .returned (.bool true) ∧ J (pre ++ [x]) W') ∨ (e = .returned (.bool false) ∧ Jx (pre ++ [x]) W'))
    (W : World) (hJ0 : J [] W) :
    CallsIn Fence.wide n Try.prog 40 #[.func (.yield l) #[] #[], .pointer (some ⟨Bs, 0, none⟩)] W fun en W' => (∃ v, en = .returned v) ∧
      ((∃ xs, xs = C ∧ J xs W') ∨ (∃ pre, Jx pre W')) := by
  have cs := (hR [] W hJ0).1
  have hv := (hR [] W hJ0).2
  have J0 := Lib.hid hJ0
  have HY := Lib.hid hY
  have HR := Lib.hid hR
  have HJ := Lib.hid hJ
  clear hJ0 hY hR hJ
  rcases hv with ⟨rfl, rfl⟩ | ⟨rfl, hrow⟩
  · refine callsIn_of_wp Try.func40 rfl trivial ?_ rfl
    simp only [Try.ntmps40, List.size_toArray, List.length_cons, List.length_nil, Nat.reduceAdd, Nat.reduceSub, Array.replicate_succ, Array.replicate_zero, List.push_toArray, List.append_toArray, List.nil_append, List.cons_append]
    gi_wp2
    gi_loopw [7] (fun vi wr => vi = .int .i64 0 ∧ Hid (J [] wr)) (fun vi _ => 0)
    case atStart => exact ⟨rfl, J0⟩
    case round =>
      obtain ⟨rfl, hj⟩ := hrel
      gi_wp2
      go_end0
      exact ⟨⟨_, rfl⟩, .inl ⟨[], rfl, hj.out⟩⟩
  · obtain ⟨N, hN⟩ : ∃ N, N = C.length := ⟨_, rfl⟩
    rw [← hN] at cs hl
    have HN := Lib.hid hN
    clear hN hrow
    refine callsIn_of_wp Try.func40 rfl trivial ?_ rfl
    simp only [Try.ntmps40, List.size_toArray, List.length_cons, List.length_nil, Nat.reduceAdd, Nat.reduceSub, Array.replicate_succ, Array.replicate_zero, List.push_toArray, List.append_toArray, List.nil_append, List.cons_append]
    gi_wp2
    gi_loopw [7] (fun vi wr => ∃ (k : Nat), k ≤ N ∧ vi = .int .i64 k ∧ Hid (J (C.take k) wr)) (fun vi _ => N - (intOf vi).toNat)
    case atStart => exact ⟨0, Nat.zero_le _, rfl, J0⟩
    case round =>
      obtain ⟨k, hk, rfl, hj⟩ := hrel
      by_cases hlt : k < N
      · have hrow : IRow wr g cap C := by
          rcases (HR.out _ _ hj.out).2 with ⟨e, rfl⟩ | ⟨e, h⟩
          · have := HN.out; simp at this; omega
          · exact h
        obtain ⟨p0, p1, p2⟩ := hrow.at3 k (by rw [← HN.out]; exact hlt)
        obtain ⟨x, hx⟩ : ∃ x, x = at_ C k := ⟨_, rfl⟩
        rw [← hx] at p0 p1 p2
        have hs : C.take (k + 1) = C.take k ++ [x] := by rw [List.take_succ_eq_append_getElem (by rw [← HN.out]; exact hlt), hx, at_get]
        have hb1 : Below wr.heap.size wr (wr.alloc (.cells #[.int .u64 x.d, .int .u64 x.w, .int .i64 x.h] 59)) := (Below.refl _ _).alloc (Nat.le_refl _) _
        obtain ⟨fn, tmps, assign, body, hy, hRd⟩ := HY.out (C.take k) x _ (HJ.out _ _ _ hj.out hb1) ⟨k, by rw [← HN.out]; exact hlt, rfl, hx⟩
        have HS := Lib.hid hs
        obtain ⟨x0, x1, x2⟩ := x
        clear hs hx hrow hb1
        dsimp only at p0 p1 p2 hy hRd
        gi_wp2
        refine hRd.mono ?_
        rintro en W3 (⟨rfl, hJ3⟩ | ⟨rfl, hJx3⟩)
        · have J3 := Lib.hid (show J (C.take (k + 1)) W3 by rw [HS.out]; exact hJ3)
          clear hJ3
          gi_wp2
          go_roundw
          case rel => exact ⟨k + 1, by omega, by go_num, J3⟩
          case measure => simp [intOf]; omega
        · gi_wp2
          refine bodyPost_ret (results_none rfl _ _ _) rfl ?_
          exact ⟨⟨_, rfl⟩, .inr ⟨_, hJx3⟩⟩
      · have HE := Lib.hid (show C.take k = C by rw [List.take_of_length_le (by rw [← HN.out]; omega)])
        gi_wp2
        go_end0
        exact ⟨⟨_, rfl⟩, .inl ⟨_, HE.out, hj.out⟩⟩
end Go.Proofs.Ytgkmihlnmhegfaa
