/- Blocks are told by their places; broken off anywhere they are the first ones; they may be gone through again: the walk of AllocTells. The condition: the library's variable errors.errorType holds the type error. -/
import Derived.Test.YtlodelcenejfhaaDoorAllocRead
namespace Go.Proofs.YtlodelcenejfhaaDoor
open Go.RowKit Go.Shelf
set_option linter.unusedVariables false

/-- What Tells knows in its second loop. -/
structure Tell (w0 W : World) (a mb mc B : Nat) (v : Value) (L : List Blk) (m : Cells) (k : Nat) (ad ad2 : Option Addr) : Prop where
  r : Run w0 W a mb mc B v L m
  x1 : BlkIn W ad L
  x2 : BlkIn W ad2 (L.take k)
theorem Tell.below {w0 W W' : World} {a mb mc B : Nat} {v : Value} {L : List Blk} {m : Cells} {k : Nat} {ad ad2 : Option Addr} (h : Tell w0 W a mb mc B v L m k ad ad2) (hb : Below W.heap.size W W') : Tell w0 W' a mb mc B v L m k ad ad2 := ⟨h.r.below hb, h.x1.below hb, h.x2.below hb⟩
theorem Run.few {w0 W : World} {a mb mc B : Nat} {v : Value} {L : List Blk} {m : Cells} (h : Run w0 W a mb mc B v L m) : L.length ≤ 100 := by have := h.r.al.ch.le; have := h.len; omega
theorem Run.told {w0 W : World} {a mb mc B : Nat} {v : Value} {L : List Blk} {m : Cells} (h : Run w0 W a mb mc B v L m) (k : Nat) (hk : 1 ≤ k) : Calls Tryd.prog 31 #[.pointer (some ⟨a, 0, none⟩), .int .i64 k] W fun e w' => ∃ ad cap, e = .returned (.slice ad (L.take k).length cap) ∧ BlkIn w' ad (L.take k) ∧ (∀ g, ad = some ⟨g, 0, none⟩ → W.heap.size ≤ g) ∧ Below W.heap.size W w' := by
  refine (told_any h.r.al.al (by have := h.few; omega) k hk).mono ?_
  rintro e w' ⟨v', rfl, hr, hb⟩
  obtain ⟨ad, cap, rfl, hB⟩ := told_slice hr
  exact ⟨ad, cap, rfl, hB, fun g hg => (hr.lt g (by rw [hg]; rfl)).1, hb⟩

theorem getD_take (L : List Blk) (k i : Nat) (h : i < (L.take k).length) : (L.take k).getD i blk0 = L.getD i blk0 := by
  simp only [List.length_take] at h
  simp [List.getD, show i < k by omega]

set_option maxHeartbeats 8000000 in
set_option maxRecDepth 100000 in
theorem allocTells_walk (n : Int) (hn : (Lit.int .i64 n).wf = true) (w : World) (A0 : Option Addr) (cap0 : Nat) (z0 : List Int) (l0 : z0.length ≤ maxLen) (s0 : IntsIn w .i64 A0 z0) (f0 : ∀ z ∈ z0, (Lit.int .i64 z).wf = true) (hE : ErrType w) :
    Calls Tryd.prog 8 #[.slice A0 z0.length cap0, .int .i64 n] w fun e w' => e = .returned (.bool true) ∧ Below w.heap.size w w' := by
  have hel := cell_lt hE
  have b1 := Int.emod_nonneg n (show (20 : Int) ≠ 0 by omega)
  have b2 := Int.emod_lt_of_pos n (show (0 : Int) < 20 by omega)
  have WI := Lib.hid (within_any n 20 (by omega) (by omega))
  have W9 := Lib.hid (fun z => within_any z 9 (by omega) (by omega))
  obtain ⟨r, hr⟩ : ∃ r : Nat, (r : Int) = n % 20 := ⟨(n % 20).toNat, by omega⟩
  rw [← hr] at b1 b2 WI
  have RM := Lib.hid (room_law w)
  have S0 := Lib.hid s0
  obtain ⟨n0, hn0⟩ : ∃ n0, n0 = z0.length := ⟨_, rfl⟩
  rw [← hn0] at l0 ⊢
  unfold maxLen at l0
  have HN0 := Lib.hid hn0
  clear hr hn s0 f0 hn0
  go_enter Tryd.func8, Tryd.ntmps8
  go_wp2_with fail
  go_at_call 32
  refine RM.out.mono ?_
  rintro e w1 hp
  obtain ⟨a, mb, mc, B, m, rfl, hR⟩ := run_room hp
  have R1 := Lib.hid (show Runs w w1 a mb mc B from ⟨_, _, _, hR⟩)
  clear hR hp RM
  go_wp2_with fail
  go_loopw [7] (fun vi wr => ∃ k : Nat, k ≤ n0 ∧ k ≤ 30 ∧ vi = .int .i64 k ∧ Hid (Runs w wr a mb mc B)) (fun vi _ => 30 - (intOf vi).toNat)
  case atStart => exact ⟨0, by omega, by omega, rfl, R1⟩
  case round =>
    obtain ⟨k, hk, hk40, rfl, hst⟩ := hrel
    by_cases hlt : k < n0 ∧ k < 30
    · obtain ⟨hlt, h40⟩ := hlt
      obtain ⟨ad, rfl, c0⟩ := S0.out.later hst.out.choose_spec.choose_spec.choose_spec.b k (by rw [← HN0.out]; exact hlt)
      obtain ⟨y, hy⟩ : ∃ y, y = z0.getD k 0 := ⟨_, rfl⟩
      rw [← hy] at c0
      have y1 := Int.emod_nonneg y (show (9 : Int) ≠ 0 by omega)
      have y2 := Int.emod_lt_of_pos y (show (0 : Int) < 9 by omega)
      have W2 := Lib.hid (W9.out y)
      obtain ⟨q, hq⟩ : ∃ q, q = y % 9 := ⟨_, rfl⟩
      rw [← hq] at y1 y2 W2
      have GT := Lib.hid (hst.out.get (1 + q) 64)
      clear hy hq
      go_wp2_with (first | (go_at_call 10; refine (W2.out _).mono ?_; rintro e w' ⟨rfl, rfl⟩))
      go_at_call 22
      refine GT.out.mono ?_
      rintro e w2 ⟨⟨rr, rfl⟩, hst2⟩
      have H2 := Lib.hid hst2
      clear hst2
      go_wp2_with fail
      go_roundw
      case rel => exact ⟨k + 1, by omega, by omega, by go_num, H2⟩
      case measure => simp [intOf]; omega
    · obtain ⟨v, L, m, hR⟩ := hst.out
      have hL100 := hR.few
      have hup : ∀ i, 1 ≤ i → i < L.length → (L.getD (i - 1) blk0).p < (L.getD i blk0).p := fun i h1 h2 => by
        have g1 := (hR.r.al.ch.up i h2).2.2.2 (i - 1) (by omega)
        have g2 := (hR.r.al.ch.up (i - 1) (by omega)).2.1
        omega
      have UP := Lib.hid hup
      have T1 := Lib.hid (hR.told 1000 (by omega))
      have HR := Lib.hid hR
      have e1000 : L.take 1000 = L := List.take_of_length_le (by omega)
      have E1000 := Lib.hid e1000
      clear hR hup e1000
      have hex : ¬ k < n0 ∨ (k < n0 ∧ ¬ k < 30) := by omega
      rcases hex with hx | ⟨hx, hx'⟩
      all_goals
        go_wp2_with fail
        go_at_call 31
        refine T1.out.mono ?_
        rintro e w2 ⟨ad, cap, rfl, hb1, _, hbl⟩
        rw [E1000.out] at hb1 ⊢
        have R2 := Lib.hid (HR.out.below hbl)
        have X1 := Lib.hid hb1
        have T2 := Lib.hid (R2.out.told (1 + r) (by omega))
        clear hb1 hbl
        go_wp2_with (first | (go_at_call 10; refine (WI.out _).mono ?_; rintro e w' ⟨rfl, rfl⟩))
        go_at_call 31
        rw [show ((1 + r : Nat) : Int) = 1 + (r : Int) by omega] at T2
        refine T2.out.mono ?_
        rintro e w3 ⟨ad2, cap2, rfl, hb2, hg2, hbl2⟩
        have TL := Lib.hid (show Tell w w3 a mb mc B v L m (1 + r) ad ad2 from ⟨R2.out.below hbl2, X1.out.below hbl2, hb2⟩)
        clear hb2 hg2 hbl2 T2
        obtain ⟨N, hN⟩ : ∃ N, N = L.length := ⟨_, rfl⟩
        obtain ⟨n2, hn2⟩ : ∃ n2, n2 = (L.take (1 + r)).length := ⟨_, rfl⟩
        have hn2' : n2 = min (1 + r) N := by rw [hn2, hN, List.length_take]
        rw [← hN] at hL100 ⊢
        rw [← hn2]
        have HN := Lib.hid hN
        have HN2 := Lib.hid hn2
        clear hN hn2
        have hmm : (1 + r ≤ N ∧ n2 = 1 + r) ∨ (N < 1 + r ∧ n2 = N) := by omega
        have nq1 := neq_same
        have nq2 := guard_blk
        clear hn2'
        have hmm2 : (1 + r ≤ N ∧ 1 + r = n2) ∨ (N < 1 + r ∧ N = n2) := by omega
        clear hmm
        rcases hmm2 with ⟨hm1, rfl⟩ | ⟨hm1, rfl⟩
        all_goals
          go_wp2_with fail
          go_loopw [11] (fun vi wr => ∃ i : Nat, i ≤ N ∧ vi = .int .i64 i ∧ Hid (Tell w wr a mb mc B v L m (1 + r) ad ad2)) (fun vi _ => N - (intOf vi).toNat)
          case atStart => exact ⟨0, by omega, rfl, TL⟩
          case round =>
            obtain ⟨i, hi, rfl, htl⟩ := hrel
            by_cases hil : i < N
            · obtain ⟨g, rfl, hg, c0, c1, c2⟩ := htl.out.x1 i (by rw [← HN.out]; exact hil)
              by_cases h2 : i < (L.take (1 + r)).length
              · obtain ⟨g2, rfl, hg2, d0, d1, d2⟩ := htl.out.x2 i h2
                rw [getD_take L _ i h2] at d0 d1 d2
                rw [← HN2.out] at h2
                have q1 := decide_eq_true h2
                have q2 := decide_eq_true (Int.ofNat_lt.2 h2)
                try push_cast at q2
                obtain ⟨b, hb⟩ : ∃ b, b = L.getD i blk0 := ⟨_, rfl⟩
                rw [← hb] at c0 c1 c2 d0 d1 d2
                by_cases hi0 : i = 0
                · have e0 : decide ((0 : Int) < (i : Int)) = false := by simp; omega
                  have e0' : decide (0 < i) = false := by simp; omega
                  clear hb hi0
                  go_wp2_with fail
                  go_quiet (fail)
                  have HT := Lib.hid (htl.out.below (below_drewN _ nq))
                  go_wp2_with fail
                  go_roundw
                  case rel => exact ⟨i + 1, by omega, by go_num, HT⟩
                  case measure => simp [intOf]; omega
                · have e0 : decide ((0 : Int) < (i : Int)) = true := by simp; omega
                  have e0' : decide (0 < i) = true := by simp; omega
                  obtain ⟨gp, hgp, _, p0, _, _⟩ := htl.out.x1 (i - 1) (by rw [← HN.out]; omega)
                  cases hgp
                  obtain ⟨bp, hbp⟩ : ∃ bp, bp = L.getD (i - 1) blk0 := ⟨_, rfl⟩
                  have hlt3 := UP.out i (by omega) (by rw [← HN.out]; exact hil)
                  rw [← hb, ← hbp] at hlt3
                  rw [← hbp] at p0
                  have e1 : decide (b.p ≤ bp.p) = false := by simp; omega
                  have w1 : IntKind.i64.wrap ((i : Int) - 1) = (i : Int) - 1 := by rw [IntKind.wrap_i64]; omega
                  have w2 : (0 : Int) ≤ (i : Int) - 1 := by omega
                  have w3 : ((i : Int) - 1).toNat = i - 1 := by omega
                  have w4 : i - 1 < N := by omega
                  have w5 : (i : Int) - 1 < (N : Int) := by omega
                  clear hb hbp hi0 hlt3
                  go_wp2_with fail
                  go_quiet (fail)
                  have HT := Lib.hid (htl.out.below (below_drewN _ nq))
                  go_wp2_with fail
                  go_roundw
                  case rel => exact ⟨i + 1, by omega, by go_num, HT⟩
                  case measure => simp [intOf]; omega
              · rw [← HN2.out] at h2
                first
                  | exact absurd hil h2
                  | skip
                all_goals
                  obtain ⟨b, hb⟩ : ∃ b, b = L.getD i blk0 := ⟨_, rfl⟩
                  rw [← hb] at c0 c1 c2
                  have q1 := decide_eq_false h2
                  have q2 := decide_eq_false (fun h => h2 (Int.ofNat_lt.1 h))
                  try push_cast at q2
                  by_cases hi0 : i = 0
                  · have e0 : decide ((0 : Int) < (i : Int)) = false := by simp; omega
                    have e0' : decide (0 < i) = false := by simp; omega
                    clear hb hi0
                    go_wp2_with fail
                    go_quiet (fail)
                    have HT := Lib.hid (htl.out.below (below_drewN _ nq))
                    go_wp2_with fail
                    go_roundw
                    case rel => exact ⟨i + 1, by omega, by go_num, HT⟩
                    case measure => simp [intOf]; omega
                  · have e0 : decide ((0 : Int) < (i : Int)) = true := by simp; omega
                    have e0' : decide (0 < i) = true := by simp; omega
                    obtain ⟨gp, hgp, _, p0, _, _⟩ := htl.out.x1 (i - 1) (by rw [← HN.out]; omega)
                    cases hgp
                    obtain ⟨bp, hbp⟩ : ∃ bp, bp = L.getD (i - 1) blk0 := ⟨_, rfl⟩
                    have hlt3 := UP.out i (by omega) (by rw [← HN.out]; exact hil)
                    rw [← hb, ← hbp] at hlt3
                    rw [← hbp] at p0
                    have e1 : decide (b.p ≤ bp.p) = false := by simp; omega
                    have w1 : IntKind.i64.wrap ((i : Int) - 1) = (i : Int) - 1 := by rw [IntKind.wrap_i64]; omega
                    have w2 : (0 : Int) ≤ (i : Int) - 1 := by omega
                    have w3 : ((i : Int) - 1).toNat = i - 1 := by omega
                    have w4 : i - 1 < N := by omega
                    have w5 : (i : Int) - 1 < (N : Int) := by omega
                    clear hb hbp hi0 hlt3
                    go_wp2_with fail
                    go_quiet (fail)
                    have HT := Lib.hid (htl.out.below (below_drewN _ nq))
                    go_wp2_with fail
                    go_roundw
                    case rel => exact ⟨i + 1, by omega, by go_num, HT⟩
                    case measure => simp [intOf]; omega
            · obtain rfl : i = N := by omega
              have TT := Lib.hid (htl.out.r.told 1000 (by omega))
              have HTL := Lib.hid htl.out
              go_wp2_with fail
              go_at_call 31
              refine TT.out.mono ?_
              rintro e w5 ⟨ad5, cap5, rfl, _, _, hb5⟩
              rw [E1000.out, ← HN.out]
              have B5 := Lib.hid (HTL.out.r.below hb5).b
              have AW := Lib.hid (awake_any w5 (errType_kept hE B5.out hel))
              clear hb5
              go_wp2_with (first | (go_at_call 27; refine AW.out.mono ?_; rintro e w6 ⟨rfl, b6⟩))
              go_ret
              exact ⟨rfl, B5.out.trans (b6.mono B5.out.size)⟩
end Go.Proofs.YtlodelcenejfhaaDoor
