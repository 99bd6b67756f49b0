/- The walk of ClockOwn: it returns true; of what was there nothing has turned. -/
import Derived.Test.YtobbmhboahognaaClockOnceWalk
namespace Go.Proofs.Ytobbmhboahognaa
open Go.RowKit
set_option linter.unusedVariables false

set_option maxHeartbeats 2000000 in
set_option maxRecDepth 100000 in
/-- SpoilWords writes the slice's own block alone. -/
theorem spoil_any {W : World} (g n cap : Nat) (vs : List Value) (hR : Row W g vs) (hc : vs.length = cap) (hn : n ≤ cap) (hm : cap ≤ 9223372036854775807) :
    Calls Try.prog 15 #[.slice (some ⟨g, 0, none⟩) n cap] W fun e w' => e = .returned (.tuple #[]) ∧ Only [g] W w' := by
  have R := Lib.hid hR
  clear hR
  have hc0 : n ≤ cap := hn
  go_enter Try.func15, Try.ntmps15
  go_wp2_with fail
  go_loopw [2] (fun vi wr => ∃ (i : Nat) (xs : List Value), i ≤ cap ∧ vi = .int .i64 i ∧ xs.length = cap ∧ Hid (Row wr g xs) ∧ Hid (Only [g] W wr)) (fun vi _ => cap - (intOf vi).toNat)
  case atStart => exact ⟨0, vs, Nat.zero_le _, rfl, hc, R, Lib.hid (Only.refl _ _)⟩
  case round =>
    obtain ⟨i, xs, hi, rfl, hl, hr, ho⟩ := hrel
    by_cases hlt : i < cap
    · have f0 := hr.out.free i (by omega)
      have c0 := hr.out.cell i (by omega)
      obtain ⟨y, hy⟩ : ∃ y, y = xs[i]'(by omega) := ⟨_, rfl⟩
      rw [← hy] at c0
      have hlt' : (i : Int) < (cap : Int) := by omega
      have R2 := Lib.hid (hr.out.set i (by omega) (.int .u64 9223372036854775813))
      have O2 := Lib.hid (ho.out.trans ((Only.refl [g] wr).setCell (p := ⟨g, i, none⟩) (Or.inl (by simp)) (.int .u64 9223372036854775813)))
      clear hr ho hy
      go_wp2_with fail
      go_roundw
      case rel => exact ⟨i + 1, _, by omega, by go_num, by rw [List.length_set]; exact hl, R2, O2⟩
      case measure => simp [intOf]; omega
    · obtain rfl : cap = i := by omega
      have H := ho.out
      clear ho hr
      go_wp2_with fail
      go_end0
      exact ⟨rfl, H⟩
set_option maxHeartbeats 1000000 in
set_option maxRecDepth 100000 in
theorem spoil_nil (W : World) : Calls Try.prog 15 #[.slice none 0 0] W fun e w' => e = .returned (.tuple #[]) ∧ W = w' := by
  go_enter Try.func15, Try.ntmps15
  go_wp2
  go_loop [2] (fun vi => vi = .int .i64 0) (fun _ => 0)
  case atStart => rfl
  case round =>
    obtain rfl := hrel
    go_wp2
    go_end0
    exact ⟨rfl, rfl⟩
theorem spoilS {W : World} {B : Nat} {v : Value} {n : Nat} {xs : List Value} (h : W.ownsRow B 22 1 v n xs) : Calls Try.prog 15 #[v] W fun e w' => e = .returned (.tuple #[]) ∧ Only v.ownBlock.toList W w' := by
  rcases h.2 with ⟨rfl, e⟩ | ⟨g, cap, cur, rfl, hb, hgg, hn, hm, hs, ht⟩
  · refine (spoil_nil W).mono ?_
    rintro e w' ⟨rfl, rfl⟩
    exact ⟨rfl, Only.refl _ _⟩
  · have hg : g < W.heap.size := (Array.getElem?_eq_some_iff.1 hgg).1
    refine spoil_any g n cap cur.toList ⟨fun i hi => ?_, fun i _ => frozen_of_row W g i cur _ hgg, hg⟩ (by simp [hs]) hn (by unfold maxLen at hm; omega)
    rw [cell_of_row W g i cur _ (0, 0) hgg]
    simp at hi ⊢

def own1 (j : Nat) : Itm := ⟨1, (j : Int) + 1, 2 * (j : Int) + 1⟩
def own2 (j : Nat) : Itm := ⟨2, (j : Int) + 51, 2 * (j : Int) + 2⟩
def ownQ (i j : Nat) : List Itm := (List.range i).map own1 ++ (List.range j).map own2
theorem insI_mid (A B : List Itm) (x : Itm) (hA : ∀ a ∈ A, ¬ ltI x a) (hB : ∀ b ∈ B, ltI x b) : insI (A ++ B) x = A ++ x :: B := by
  induction A with
  | nil =>
    cases B with
    | nil => rfl
    | cons b B => simp [insI, hB b (by simp)]
  | cons a A ih =>
    rw [List.cons_append, insI, if_neg (hA a (by simp)), ih (fun a h => hA a (List.mem_cons_of_mem _ h))]; rfl
theorem own_step1 (i : Nat) : insI (ownQ i i) ⟨1, (i : Int) + 1, ((2 * i : Nat) : Int) + 1⟩ = ownQ (i + 1) i := by
  unfold ownQ
  rw [insI_mid]
  · rw [List.range_succ, List.map_append]
    simp [own1]
  · intro a ha
    obtain ⟨j, hj, rfl⟩ := List.mem_map.1 ha
    have := List.mem_range.1 hj
    unfold ltI own1
    simp only; omega
  · intro a ha
    obtain ⟨j, hj, rfl⟩ := List.mem_map.1 ha
    unfold ltI own2
    simp only; omega
theorem own_step2 (i : Nat) : insI (ownQ (i + 1) i) ⟨2, (i : Int) + 51, ((2 * i + 1 : Nat) : Int) + 1⟩ = ownQ (i + 1) (i + 1) := by
  have h := insI_mid (ownQ (i + 1) i) [] ⟨2, (i : Int) + 51, ((2 * i + 1 : Nat) : Int) + 1⟩ (fun a ha => by
    rcases List.mem_append.1 ha with ha | ha
    · obtain ⟨j, hj, rfl⟩ := List.mem_map.1 ha
      unfold ltI own1
      simp only; omega
    · obtain ⟨j, hj, rfl⟩ := List.mem_map.1 ha
      have := List.mem_range.1 hj
      unfold ltI own2
      simp only; omega) (by simp)
  rw [List.append_nil] at h
  rw [h]
  unfold ownQ
  rw [List.range_succ (n := i), List.map_append, List.map_append]
  simp [own2]; omega
theorem ownQ_mem {i j : Nat} {x : Itm} (h : x ∈ ownQ i j) : (∃ q, q < i ∧ x = own1 q) ∨ ∃ q, q < j ∧ x = own2 q := by
  rcases List.mem_append.1 h with h | h
  · obtain ⟨q, hq, rfl⟩ := List.mem_map.1 h
    exact .inl ⟨q, List.mem_range.1 hq, rfl⟩
  · obtain ⟨q, hq, rfl⟩ := List.mem_map.1 h
    exact .inr ⟨q, List.mem_range.1 hq, rfl⟩
theorem ownQ_len (i j : Nat) : (ownQ i j).length = i + j := by simp [ownQ]
theorem ownQ_at1 {i j q : Nat} (h : q < i) : at_ (ownQ i j) q = own1 q := by
  rw [at_get _ _ (by rw [ownQ_len]; omega)]
  unfold ownQ
  rw [List.getElem_append_left (by simpa using h)]
  simp
theorem ownQ_at2 {i j q : Nat} (h : q < j) : at_ (ownQ i j) (i + q) = own2 q := by
  rw [at_get _ _ (by rw [ownQ_len]; omega)]
  unfold ownQ
  rw [List.getElem_append_right (by simp)]
  simp

set_option maxHeartbeats 4000000 in
set_option maxRecDepth 100000 in
theorem clockOwn_walk (d0 : Int) (_w0 : (Lit.int .i64 d0).wf = true) (w : World) :
    Calls Try.prog 5 #[.int .i64 d0] w fun e w' => e = .returned (.bool true) ∧ Below w.heap.size w w' := by
  have b1 := Int.emod_nonneg d0 (show (20 : Int) ≠ 0 by omega)
  have b2 := Int.emod_lt_of_pos d0 (show (0 : Int) < 20 by omega)
  have WI := Lib.hid (fun W => within_any d0 20 (by omega) (by omega) W)
  obtain ⟨k, hk⟩ : ∃ k : Nat, d0 % 20 = k := ⟨(d0 % 20).toNat, by omega⟩
  rw [hk] at WI b1 b2
  have hk20 : k < 20 := by omega
  have NW := Lib.hid (clkNew w w.heap.size w (Below.refl _ _) (Nat.le_refl _))
  have AW := Lib.hid awake_any
  clear hk b1 b2 _w0
  go_enter Try.func5, Try.ntmps5
  go_wp2_with fail
  go_at_call 9
  refine NW.out.mono ?_
  rintro e w1 ⟨b, F1, rfl, h1⟩
  have H1 := Lib.hid h1
  clear h1
  go_wp2_with (go_at_call 14; refine (WI.out _).mono ?_; rintro e w' ⟨rfl, rfl⟩)
  go_loopw [5] (fun vi wr => ∃ (i : Nat) (F : List Nat), i ≤ k ∧ vi = .int .i64 i ∧ Hid (ClkSince w w.heap.size wr F b 0 (ownQ i i) (2 * i) (4 * i))) (fun vi _ => k - (intOf vi).toNat)
  case atStart => exact ⟨0, _, Nat.zero_le _, rfl, H1⟩
  case round =>
    obtain ⟨i, F, hi, rfl, hq⟩ := hrel
    by_cases hlt : i < k
    · have A1 := Lib.hid (clkArm_yes hq.out.at1 ((i : Int) + 1) 1 (WalkArith.wf_u64 (by omega)) (by omega) (fun x hx => by
        rcases ownQ_mem hx with ⟨q, h, rfl⟩ | ⟨q, h, rfl⟩
        · show (q : Int) + 1 ≠ (i : Int) + 1; omega
        · show (q : Int) + 51 ≠ (i : Int) + 1; omega) (by omega) (by omega))
      have hcv : IntKind.u64.wrap ((i : Int) + 1) = (i : Int) + 1 := by rw [IntKind.wrap_u64]; omega
      have hcv2 : IntKind.u64.wrap ((i : Int) + 51) = (i : Int) + 51 := by rw [IntKind.wrap_u64]; omega
      go_wp2_with fail
      go_at_call 10
      refine A1.out.mono ?_
      rintro e w2 hp
      obtain ⟨rfl, F2, h2⟩ := hq.out.arm hp
      rw [own_step1] at h2
      have A2 := Lib.hid (clkArm_yes h2.at1 ((i : Int) + 51) 2 (WalkArith.wf_u64 (by omega)) (by omega) (fun x hx => by
        rcases ownQ_mem hx with ⟨q, h, rfl⟩ | ⟨q, h, rfl⟩
        · show (q : Int) + 1 ≠ (i : Int) + 51; omega
        · show (q : Int) + 51 ≠ (i : Int) + 51; omega) (by omega) (by omega))
      have H2 := Lib.hid h2
      clear hq h2 hp
      go_wp2_with fail
      go_at_call 10
      refine A2.out.mono ?_
      rintro e w3 hp
      obtain ⟨rfl, F3, h3⟩ := H2.out.arm hp
      rw [own_step2] at h3
      have H3 := Lib.hid h3
      clear h3 hp H2
      go_wp2_with fail
      go_roundw
      case rel => exact ⟨i + 1, F3, by omega, by go_num, H3⟩
      case measure => simp [intOf]; omega
    · obtain rfl : k = i := by omega
      have TK := Lib.hid (clkTick hq.out.at1 (by omega) (by omega) (by omega))
      go_wp2_with fail
      go_at_call 11
      refine TK.out.mono ?_
      rintro e w2 ⟨n, vc, F2, hn, rfl, o2, l2, d2, p2, q2⟩
      rw [ownQ_len] at hn
      obtain rfl : n = k := by
        rcases Nat.lt_trichotomy n k with h | h | h
        · have := q2 _ _ (dropAt _ _ (by rw [ownQ_len]; omega))
          rw [ownQ_at1 h] at this
          simp [own1] at this
        · exact h
        · have := p2 k h
          have e := ownQ_at2 (i := k) (j := k) (q := 0) (by omega)
          rw [Nat.add_zero] at e
          rw [e] at this
          simp [own2] at this
      have hl2 : ((ownQ n n).take n).length = n := by rw [List.length_take, ownQ_len]; omega
      rw [hl2] at o2
      have h2 := hq.out.led l2
      have SP := Lib.hid (spoilS o2)
      have HL := hq.out.hB
      have H2 := Lib.hid (show ∀ w3, Only vc.ownBlock.toList w2 w3 → ClkSince w w.heap.size w3 F2 b (0 + 1) ((ownQ n n).drop n) (2 * n) (4 * n) from fun w3 o => ⟨h2.at1.only o (fun q hq hm => d2 q (by simpa using hm) hq), h2.hF, h2.bel.trans (o.below (fun q hq => by have := (o2.lt q (by simpa using hq)).1; omega) h2.hB), Nat.le_trans h2.hB o.size⟩)
      obtain ⟨ad, c, rfl⟩ := owns_slice o2
      have hne : ((n : Int) != (n : Int)) = false := by simp
      clear hq TK o2 l2 d2 p2 q2 h2 HL
      go_wp2_with fail
      go_at_call 15
      refine SP.out.mono ?_
      rintro e w3 ⟨rfl, o3⟩
      have h3 := H2.out w3 o3
      have TK := Lib.hid (clkTick h3.at1 (by omega) (by omega) (by omega))
      have H3 := Lib.hid h3
      clear h3 o3 H2 SP
      go_wp2_with fail
      go_at_call 11
      refine TK.out.mono ?_
      rintro e w4 ⟨n4, v4, F4, hn4, rfl, o4, l4, d4, p4, q4⟩
      rw [List.length_drop, ownQ_len] at hn4
      obtain rfl : n4 = n := by
        rcases Nat.lt_or_ge n4 n with h | h
        · have := q4 _ _ (dropAt _ _ (by rw [List.length_drop, ownQ_len]; omega))
          rw [at_drop, ownQ_at2 h] at this
          simp [own2] at this
        · omega
      have hl4 : (((ownQ n4 n4).drop n4).take n4).length = n4 := by rw [List.length_take, List.length_drop, ownQ_len]; omega
      have HC := Lib.hid (fun i (hi : i < n4) => (show ∃ g cap, v4 = .slice (some ⟨g, 0, none⟩) n4 cap ∧ w4.cell? ⟨g, i, none⟩ = some (.int .u64 ((i : Int) + 51)) by
        obtain ⟨g, cap, e, hc⟩ := ids_at o4 (by omega)
        rw [hl4] at e
        have c1 := hc i (by omega)
        rw [at_takeS _ _ _ hi, at_drop, ownQ_at2 hi] at c1
        exact ⟨g, cap, e, c1⟩))
      have H4 := Lib.hid (H3.out.led l4).bel
      rw [hl4] at o4
      obtain ⟨ad4, c4, rfl⟩ := owns_slice o4
      clear o4 l4 d4 p4 q4 H3 TK hl4 hl2
      go_wp2_with fail
      go_loopw [8] (fun vi wr => ∃ (i : Nat), i ≤ n4 ∧ vi = .int .i64 i ∧ wr = w4) (fun vi _ => n4 - (intOf vi).toNat)
      case atStart => exact ⟨0, Nat.zero_le _, rfl, rfl⟩
      case round =>
        obtain ⟨i, hi, rfl, rfl⟩ := hrel
        by_cases hlt2 : i < n4
        · obtain ⟨g, cap, e, c1⟩ := HC.out i hlt2
          cases e
          have hcv2 : IntKind.u64.wrap ((i : Int) + 51) = (i : Int) + 51 := by rw [IntKind.wrap_u64]; omega
          have hne2 : ((i : Int) + 51 != (i : Int) + 51) = false := by simp
          go_wp2_with fail
          go_roundw
          case rel => exact ⟨i + 1, by omega, by go_num, by trivial⟩
          case measure => simp [intOf]; omega
        · obtain rfl : n4 = i := by omega
          go_wp2_with fail
          go_at_call 8
          refine (AW.out _).mono ?_
          rintro e w5 ⟨rfl, hb⟩
          go_wp2_with fail
          go_ret
          exact ⟨rfl, H4.out.trans (hb.mono H4.out.size)⟩
end Go.Proofs.Ytobbmhboahognaa
