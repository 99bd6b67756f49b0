/- The ways up and down (layer 7): the contracts of above and of below, for whatever a loop over them does with the items, as long as it keeps its word between two rounds. -/
import Derived.Test.YtobbmhboahognaaDoorHeapPlace
import Derived.Test.YtobbmhboahognaaDoorRangeSeen
import Derived.Shelf.Abstract
import Derived.Shelf.RegionOpen
import Derived.OwnWalkIn
import Derived.TacticsInMore
import Derived.LoopNIn
import Derived.LoopIn
namespace Go.Proofs.YtobbmhboahognaaDoor
open Go.RowKit Go.Shelf
set_option linter.unusedVariables false
attribute [local go_sem] Oper.semAt_some

/-- Items and gap, behind the moves of the gap to these places. -/
def stD (C : List Itm) (g : Nat) (pre : List Nat) : List Itm × Nat := pre.foldl (fun s n => (s.1.set s.2 (at_ s.1 n), n)) (C, g)
theorem stD_snoc (C : List Itm) (g : Nat) (pre : List Nat) (n : Nat) : stD C g (pre ++ [n]) = ((stD C g pre).1.set (stD C g pre).2 (at_ (stD C g pre).1 n), n) := by simp [stD]
theorem stD_length (C : List Itm) (g : Nat) (pre : List Nat) : (stD C g pre).1.length = C.length := by
  suffices h : ∀ (pre : List Nat) (s : List Itm × Nat), (pre.foldl (fun s n => (s.1.set s.2 (at_ s.1 n), n)) s).1.length = s.1.length from h pre (C, g)
  intro pre
  induction pre with
  | nil => intro s; rfl
  | cons n pre ih => intro s; rw [List.foldl_cons, ih]; simp

theorem above1_in (n : Nat) (hn : 1 ≤ n) (l Bn : Nat) (C : List Itm) (g : Nat) (hg : g < 2147483648) (J Jx : List Nat → World → Prop)
    (hY : ∀ pre x W, J pre W → 0 < (stD C g pre).2 ∧ x = ((stD C g pre).2 - 1) / 2 → YieldAt Fence.wide (n - 1) Tryd.prog l #[.int .i64 (x : Nat)] W fun e W' =>
      (e = .returned (.bool true) ∧ J (pre ++ [x]) W') ∨ (e = .returned (.bool false) ∧ Jx (pre ++ [x]) W'))
    (W : World) (hBn : W.cell? ⟨Bn, 0, none⟩ = some (.int .i64 g)) (hJ0 : J [] W) :
    CallsIn Fence.wide n Tryd.prog 106 #[.func (.yield l) #[] #[], .pointer (some ⟨Bn, 0, none⟩)] W fun en W' => (∃ v, en = .returned v) ∧
      ((∃ ys, (stD C g ys).2 = 0 ∧ J ys W') ∨ (∃ pre, Jx pre W')) := by
  have J0 := Lib.hid hJ0
  have HY := Lib.hid hY
  clear hJ0 hY
  refine callsIn_of_wp Tryd.func106 rfl trivial ?_ rfl
  simp only [Tryd.ntmps106, List.size_toArray, List.length_cons, List.length_nil, Nat.reduceAdd, Nat.reduceSub, Array.replicate_succ, Array.replicate_zero, List.push_toArray, List.append_toArray, List.nil_append, List.cons_append]
  gi_wp2
  gi_loopw [3] (fun vi wr => ∃ (k : Nat) (pre : List Nat), k < 2147483648 ∧ vi = .int .i64 k ∧ Hid (k = (stD C g pre).2) ∧ Hid (J pre wr))
    (fun vi _ => (intOf vi).toNat)
  case atStart => exact ⟨g, [], hg, rfl, Lib.hid rfl, J0⟩
  case round =>
    obtain ⟨k, pre, hk, rfl, hp, hj⟩ := hrel
    by_cases h0 : 0 < k
    · obtain ⟨x, hx⟩ : ∃ x : Nat, x = (k - 1) / 2 := ⟨_, rfl⟩
      have hx2 : ((k : Int) - 1) / 2 = (x : Nat) := by omega
      obtain ⟨fn, tmps, assign, body, hy, hR⟩ := HY.out pre x wr hj.out ⟨by rw [← hp.out]; exact h0, by rw [← hp.out]; exact hx⟩
      have hxk : x < k := by omega
      have HX := Lib.hid hx
      have hs : (stD C g (pre ++ [x])).2 = x := by rw [stD_snoc]
      have HS := Lib.hid hs
      clear hx hs
      gi_wp2
      refine hR.mono ?_
      rintro en W3 (⟨rfl, hJ3⟩ | ⟨rfl, hJx3⟩)
      · have J3 := Lib.hid hJ3
        clear hJ3
        gi_wp2
        go_roundw
        case rel => exact ⟨x, pre ++ [x], by omega, rfl, Lib.hid HS.out.symm, J3⟩
        case measure => simp [intOf]; omega
      · gi_wp2
        refine bodyPost_ret (results_none rfl _ _ _) rfl ?_
        exact ⟨⟨_, rfl⟩, .inr ⟨_, hJx3⟩⟩
    · obtain rfl : k = 0 := by omega
      gi_wp2
      go_end0
      exact ⟨⟨_, rfl⟩, .inl ⟨pre, hp.out.symm, hj.out⟩⟩

/-- What below says of an index: it is that of the earlier item of the two below the gap. -/
def Lower (C : List Itm) (g n : Nat) : Prop := n < C.length ∧ 0 < n ∧ (n - 1) / 2 = g ∧ ∀ m, 0 < m → m < C.length → (m - 1) / 2 = g → ¬ ltI (at_ C m) (at_ C n)
theorem lower_left {C : List Itm} {g : Nat} (h : 2 * g + 1 < C.length) (ho : 2 * g + 2 < C.length → ¬ ltI (at_ C (2 * g + 2)) (at_ C (2 * g + 1))) : Lower C g (2 * g + 1) := by
  refine ⟨h, by omega, by omega, fun m m0 ml mp => ?_⟩
  rcases (show m = 2 * g + 1 ∨ m = 2 * g + 2 by omega) with rfl | rfl
  · exact ltI_irrefl _
  · exact ho ml
theorem lower_right {C : List Itm} {g : Nat} (h : 2 * g + 2 < C.length) (ho : ltI (at_ C (2 * g + 2)) (at_ C (2 * g + 1))) : Lower C g (2 * g + 2) := by
  refine ⟨h, by omega, by omega, fun m m0 ml mp => ?_⟩
  rcases (show m = 2 * g + 1 ∨ m = 2 * g + 2 by omega) with rfl | rfl
  · exact ltI_asymm ho
  · exact ltI_irrefl _
/-- What below wants of the memory: its two boxes, the queue's slice. -/
structure Reads (W : World) (Bh Bn b rg cap at0 : Nat) (C : List Itm) : Prop where
  h : W.cell? ⟨Bh, 0, none⟩ = some (.pointer (some ⟨b, 0, none⟩))
  n : W.cell? ⟨Bn, 0, none⟩ = some (.int .i64 at0)
  c0 : W.cell? ⟨b, 0, none⟩ = some (.slice (some ⟨rg, 0, none⟩) C.length cap)
  row : IRow W rg cap C

set_option maxRecDepth 100000 in
set_option maxHeartbeats 2000000 in
theorem below1_in (n : Nat) (hn : 1 ≤ n) (l Bh Bn b rg cap : Nat) (C : List Itm) (g : Nat) (hg : g < C.length) (hl : C.length < 1073741824) (J Jx : List Nat → World → Prop)
    (hR : ∀ pre W, J pre W → Reads W Bh Bn b rg cap g (stD C g pre).1)
    (hJ : ∀ pre W W', J pre W → Below W.heap.size W W' → J pre W')
    (hY : ∀ pre x W, J pre W → Lower (stD C g pre).1 (stD C g pre).2 x → YieldAt Fence.wide (n - 1) Tryd.prog l #[.int .i64 (x : Nat)] W fun e W' =>
      (e = .returned (.bool true) ∧ J (pre ++ [x]) W') ∨ (e = .returned (.bool false) ∧ Jx (pre ++ [x]) W'))
    (W : World) (hJ0 : J [] W) :
    CallsIn Fence.wide n Tryd.prog 102 #[.func (.yield l) #[] #[], .pointer (some ⟨Bn, 0, none⟩), .pointer (some ⟨Bh, 0, none⟩)] W fun en W' => (∃ v, en = .returned v) ∧
      ((∃ ys, C.length ≤ 2 * (stD C g ys).2 + 1 ∧ J ys W') ∨ (∃ pre, Jx pre W')) := by
  have cn := (hR [] W hJ0).n
  have J0 := Lib.hid hJ0
  have HY := Lib.hid hY
  have HR := Lib.hid hR
  have HJ := Lib.hid hJ
  clear hJ0 hY hR hJ
  refine callsIn_of_wp Tryd.func102 rfl trivial ?_ rfl
  simp only [Tryd.ntmps102, List.size_toArray, List.length_cons, List.length_nil, Nat.reduceAdd, Nat.reduceSub, Array.replicate_succ, Array.replicate_zero, List.push_toArray, List.append_toArray, List.nil_append, List.cons_append]
  gi_wp2
  gi_loopw [4] (fun vi wr => ∃ (k : Nat) (pre : List Nat), k < 2147483648 ∧ vi = .int .i64 k ∧ Hid (k = 2 * (stD C g pre).2 + 1) ∧ Hid (J pre wr))
    (fun vi _ => C.length - (intOf vi).toNat)
  case atStart => exact ⟨2 * g + 1, [], by omega, by go_num, Lib.hid rfl, J0⟩
  case round =>
    obtain ⟨k, pre, hk, rfl, hp, hj⟩ := hrel
    have hr := HR.out _ _ hj.out
    have ch := hr.h
    have c0 := hr.c0
    have hlen := stD_length C g pre
    rw [hlen] at c0
    obtain ⟨N, hN⟩ : ∃ N, N = C.length := ⟨_, rfl⟩
    rw [← hN] at c0 hlen hl
    have HN := Lib.hid hN
    by_cases hlt : k < N
    · by_cases ho : k + 1 < N
      · have hod : decide ((k : Int) + 1 < (N : Int)) = true := by simp; omega
        obtain ⟨x, hx⟩ : ∃ x, x = at_ (stD C g pre).1 k := ⟨_, rfl⟩
        obtain ⟨y, hy⟩ : ∃ y, y = at_ (stD C g pre).1 (k + 1) := ⟨_, rfl⟩
        obtain ⟨p0, p1, p2⟩ := hr.row.at3 k (by rw [hlen]; exact hlt)
        obtain ⟨q0, q1, q2⟩ := hr.row.at3 (k + 1) (by rw [hlen]; exact ho)
        rw [← hx] at p0 p1 p2
        rw [← hy] at q0 q1 q2
        have hk2 : k = 2 * (stD C g pre).2 + 1 := hp.out
        have LL := Lib.hid (fun h : ¬ ltI y x => show Lower (stD C g pre).1 (stD C g pre).2 k by
          rw [hk2] at hx hy ⊢
          exact lower_left (by rw [hlen, ← hk2]; exact hlt) (fun h' => by rw [hx, hy] at h; exact h))
        have LR := Lib.hid (fun h : ltI y x => show Lower (stD C g pre).1 (stD C g pre).2 (k + 1) by
          rw [hk2] at hx hy ⊢
          exact lower_right (by rw [hlen]; omega) (by rw [hx, hy] at h; exact h))
        obtain ⟨c, hc⟩ : ∃ c, c = cmpI y x := ⟨_, rfl⟩
        have CN := Lib.hid (show c < 0 ↔ ltI y x by rw [hc]; exact cmpI_neg y x)
        have CA := Lib.hid (compare_any y x)
        rw [← hc] at CA
        have HJW := Lib.hid (HJ.out pre wr)
        have hk3 : k + 1 < 2147483647 := by omega
        have hk4 : (0 : Int) ≤ (k : Int) + 1 := by omega
        have hk5 : (k : Int) + 1 < (N : Int) := by omega
        obtain ⟨x0, x1, x2⟩ := x
        obtain ⟨y0, y1, y2⟩ := y
        clear hr hlen hN hx hy hk2 hc
        dsimp only at p0 p1 p2 q0 q1 q2 CA
        gi_wp2
        refine wpIn_wide.2 ?_
        refine region_tail2 22 (by kernel_rfl) (by kernel_rfl) ?_
        simp only [List.take_succ_cons, List.take_zero, List.drop_succ_cons, List.drop_zero]
        iterate 22 (refine WS.want (by kernel_rfl) (fun K hK => ?_); go_simp; refine hK _ ?_; clear hK K)
        refine WS.nil ?_
        go_wp2_with fail
        go_at_call 98
        refine (CA.out _).mono ?_
        rintro e w1 ⟨rfl, hb⟩
        have hj1 := HJW.out w1 hj.out ((Below.refl _ wr).drew.trans hb)
        by_cases hcn : c < 0
        · have hcd : decide (c < 0) = true := by simpa using hcn
          obtain ⟨fn, tmps, assign, body, hy, hRd⟩ := HY.out pre (k + 1) w1 hj1 (LR.out (CN.out.1 hcn))
          have HS := Lib.hid (show (stD C g (pre ++ [k + 1])).2 = k + 1 by rw [stD_snoc])
          rw [show ((k + 1 : Nat) : Int) = (k : Int) + 1 by omega] at hy
          have HJ1 := Lib.hid hj1
          clear hj1 hb
          go_wp2_with fail
          gi_wp2
          refine hRd.mono ?_
          rintro en W3 (⟨rfl, hJ3⟩ | ⟨rfl, hJx3⟩)
          · have J3 := Lib.hid hJ3
            clear hJ3
            gi_wp2
            go_roundw
            case rel => exact ⟨2 * (k + 1) + 1, pre ++ [k + 1], by omega, by go_num, Lib.hid (by rw [HS.out]), J3⟩
            case measure => simp [intOf]; have := HN.out; omega
          · gi_wp2
            refine bodyPost_ret (results_none rfl _ _ _) rfl ?_
            exact ⟨⟨_, rfl⟩, .inr ⟨_, hJx3⟩⟩
        · have hcd : decide (c < 0) = false := by simpa using hcn
          obtain ⟨fn, tmps, assign, body, hy, hRd⟩ := HY.out pre k w1 hj1 (LL.out (fun h => hcn (CN.out.2 h)))
          have HS := Lib.hid (show (stD C g (pre ++ [k])).2 = k by rw [stD_snoc])
          have HJ1 := Lib.hid hj1
          clear hj1 hb
          go_wp2_with fail
          gi_wp2
          refine hRd.mono ?_
          rintro en W3 (⟨rfl, hJ3⟩ | ⟨rfl, hJx3⟩)
          · have J3 := Lib.hid hJ3
            clear hJ3
            gi_wp2
            go_roundw
            case rel => exact ⟨2 * k + 1, pre ++ [k], by omega, by go_num, Lib.hid (by rw [HS.out]), J3⟩
            case measure => simp [intOf]; have := HN.out; omega
          · gi_wp2
            refine bodyPost_ret (results_none rfl _ _ _) rfl ?_
            exact ⟨⟨_, rfl⟩, .inr ⟨_, hJx3⟩⟩
      · have hod : decide ((k : Int) + 1 < (N : Int)) = false := by simp; omega
        have HL := Lib.hid (show Lower (stD C g pre).1 (stD C g pre).2 k by
          rw [hp.out]
          exact lower_left (by rw [hlen, ← hp.out]; exact hlt) (fun h => by rw [hlen] at h; have := hp.out; omega))
        obtain ⟨fn, tmps, assign, body, hy, hRd⟩ := HY.out pre k wr.drew (HJ.out _ _ _ hj.out (Below.refl _ _).drew) HL.out
        have HS := Lib.hid (show (stD C g (pre ++ [k])).2 = k by rw [stD_snoc])
        clear hr hlen hN
        gi_wp2
        refine wpIn_wide.2 ?_
        refine region_tail2 22 (by kernel_rfl) (by kernel_rfl) ?_
        simp only [List.take_succ_cons, List.take_zero, List.drop_succ_cons, List.drop_zero]
        iterate 8 (refine WS.want (by kernel_rfl) (fun K hK => ?_); go_simp; refine hK _ ?_; clear hK K)
        iterate 14 (refine WS.skip (by kernel_rfl) (fun K hK => ?_); go_simp; refine hK _ ?_; clear hK K)
        refine WS.nil ?_
        go_wp2_with fail
        gi_wp2
        refine hRd.mono ?_
        rintro en W3 (⟨rfl, hJ3⟩ | ⟨rfl, hJx3⟩)
        · have J3 := Lib.hid hJ3
          clear hJ3
          gi_wp2
          go_roundw
          case rel => exact ⟨2 * k + 1, pre ++ [k], by omega, by go_num, Lib.hid (by rw [HS.out]), J3⟩
          case measure => simp [intOf]; have := HN.out; omega
        · gi_wp2
          refine bodyPost_ret (results_none rfl _ _ _) rfl ?_
          exact ⟨⟨_, rfl⟩, .inr ⟨_, hJx3⟩⟩
    · have HE := Lib.hid (show C.length ≤ 2 * (stD C g pre).2 + 1 by rw [← hp.out, ← hN]; omega)
      clear hr hlen hN
      gi_wp2
      go_end0
      exact ⟨⟨_, rfl⟩, .inl ⟨pre, HE.out, hj.out⟩⟩
end Go.Proofs.YtobbmhboahognaaDoor
