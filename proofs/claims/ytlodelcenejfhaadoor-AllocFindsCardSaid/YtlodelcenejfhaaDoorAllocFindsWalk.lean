/- A row that is long enough is found; one that is longer than the longest is not: the walk of AllocFinds. The condition: the library's variable errors.errorType holds the type error. -/
import Derived.Test.YtlodelcenejfhaaDoorAllocTail
namespace Go.Proofs.YtlodelcenejfhaaDoor
open Go.RowKit Go.Shelf
set_option linter.unusedVariables false

set_option maxHeartbeats 8000000 in
set_option maxRecDepth 100000 in
theorem allocFinds_walk (n : Int) (hn : (Lit.int .i64 n).wf = true) (w : World) (A0 : Option Addr) (cap0 : Nat) (z0 : List Int) (l0 : z0.length ≤ maxLen) (s0 : IntsIn w .i64 A0 z0) (f0 : ∀ z ∈ z0, (Lit.int .i64 z).wf = true)
    (A1 : Option Addr) (cap1 : Nat) (z1 : List Int) (l1 : z1.length ≤ maxLen) (s1 : IntsIn w .i64 A1 z1) (f1 : ∀ z ∈ z1, (Lit.int .i64 z).wf = true) (hE : ErrType w) :
    Calls Tryd.prog 6 #[.slice A0 z0.length cap0, .slice A1 z1.length cap1, .int .i64 n] w fun e w' => e = .returned (.bool true) ∧ Below w.heap.size w w' := by
  have hel := cell_lt hE
  have b1 := Int.emod_nonneg n (show (100 : Int) ≠ 0 by omega)
  have b2 := Int.emod_lt_of_pos n (show (0 : Int) < 100 by omega)
  have WI := Lib.hid (within_any n 100 (by omega) (by omega))
  have W20 := Lib.hid (fun z => within_any z 20 (by omega) (by omega))
  have W100 := Lib.hid (fun z => within_any z 100 (by omega) (by omega))
  obtain ⟨r, hr⟩ : ∃ r, r = n % 100 := ⟨_, rfl⟩
  rw [← hr] at b1 b2 WI
  have RM := Lib.hid (room_law w)
  have S0 := Lib.hid s0
  have S1 := Lib.hid s1
  obtain ⟨n0, hn0⟩ : ∃ n0, n0 = z0.length := ⟨_, rfl⟩
  obtain ⟨n1, hn1⟩ : ∃ n1, n1 = z1.length := ⟨_, rfl⟩
  rw [← hn0] at l0 ⊢
  rw [← hn1] at l1 ⊢
  unfold maxLen at l0 l1
  have HN0 := Lib.hid hn0
  have HN1 := Lib.hid hn1
  clear hr hn s0 s1 f0 f1 hn0 hn1
  go_enter Tryd.func6, Tryd.ntmps6
  go_wp2_with fail
  go_at_call 32
  refine RM.out.mono ?_
  rintro e w1 hp
  obtain ⟨a, mb, mc, B, m, rfl, hR⟩ := run_room hp
  have R1 := Lib.hid (show Runs w w1 a mb mc B from ⟨_, _, _, hR⟩)
  clear hR hp RM
  go_wp2_with fail
  go_loopw [9] (fun vi wr => ∃ k : Nat, k ≤ n0 ∧ k ≤ 40 ∧ vi = .int .i64 k ∧ Hid (Runs w wr a mb mc B)) (fun vi _ => 40 - (intOf vi).toNat)
  case atStart => exact ⟨0, by omega, by omega, rfl, R1⟩
  case round =>
    obtain ⟨k, hk, hk40, rfl, hst⟩ := hrel
    by_cases hlt : k < n0 ∧ k < 40
    · obtain ⟨hlt, h40⟩ := hlt
      obtain ⟨ad, rfl, c0⟩ := S0.out.later hst.out.choose_spec.choose_spec.choose_spec.b k (by rw [← HN0.out]; exact hlt)
      obtain ⟨y, hy⟩ : ∃ y, y = z0.getD k 0 := ⟨_, rfl⟩
      rw [← hy] at c0
      have y1 := Int.emod_nonneg y (show (20 : Int) ≠ 0 by omega)
      have y2 := Int.emod_lt_of_pos y (show (0 : Int) < 20 by omega)
      have W2 := Lib.hid (W20.out y)
      obtain ⟨q, hq⟩ : ∃ q, q = y % 20 := ⟨_, rfl⟩
      rw [← hq] at y1 y2 W2
      have GT := Lib.hid (hst.out.get (1 + q) 64)
      clear hy hq
      by_cases hb : k < n1
      · go_wp2_with (first | (go_at_call 10; refine (W2.out _).mono ?_; rintro e w' ⟨rfl, rfl⟩))
        go_at_call 22
        refine GT.out.mono ?_
        rintro e w2 ⟨⟨rr, rfl⟩, hst2⟩
        obtain ⟨ad1, rfl, c1⟩ := S1.out.later hst2.choose_spec.choose_spec.choose_spec.b k (by rw [← HN1.out]; exact hb)
        obtain ⟨y', hy'⟩ : ∃ y', y' = z1.getD k 0 := ⟨_, rfl⟩
        rw [← hy'] at c1
        have W3 := Lib.hid (W100.out y')
        obtain ⟨q', hq'⟩ : ∃ q', q' = y' % 100 := ⟨_, rfl⟩
        rw [← hq'] at W3
        have PT := Lib.hid (hst2.put q')
        have H2 := Lib.hid hst2
        clear hy' hq' hst2
        go_wp2_with (first | (go_at_call 10; refine (W3.out _).mono ?_; rintro e w' ⟨rfl, rfl⟩))
        go_at_call 16
        refine PT.out.mono ?_
        rintro e w3 ⟨⟨rp, rfl⟩, hst3⟩
        have H3 := Lib.hid hst3
        clear hst3
        go_wp2_with fail
        go_roundw
        case rel => exact ⟨k + 1, by omega, by omega, by go_num, H3⟩
        case measure => simp [intOf]; omega
      · go_wp2_with (first | (go_at_call 10; refine (W2.out _).mono ?_; rintro e w' ⟨rfl, rfl⟩))
        go_at_call 22
        refine GT.out.mono ?_
        rintro e w2 ⟨⟨rr, rfl⟩, hst2⟩
        have H2 := Lib.hid hst2
        clear hst2
        go_wp2_with fail
        go_roundw
        case rel => exact ⟨k + 1, by omega, by omega, by go_num, H2⟩
        case measure => simp [intOf]; omega
    · obtain ⟨v, L, m, hR⟩ := hst.out
      have hnl : longest (gaps m.ws.length 0 L) < 1 + r ∨ 1 + r ≤ longest (gaps m.ws.length 0 L) := by omega
      have WD := Lib.hid hR.r.al.widest
      have HR := Lib.hid hR
      obtain ⟨wd, hwd⟩ : ∃ wd, wd = longest (gaps m.ws.length 0 L) := ⟨_, rfl⟩
      rw [← hwd] at WD hnl
      have HWD := Lib.hid hwd
      clear hwd hR
      have hex : ¬ k < n0 ∨ (k < n0 ∧ ¬ k < 40) := by omega
      rcases hex with hx | ⟨hx, hx'⟩
      all_goals
        go_wp2_with (first | (go_at_call 10; refine (WI.out _).mono ?_; rintro e w' ⟨rfl, rfl⟩))
        go_at_call 30
        refine WD.out.mono ?_
        rintro e w2 ⟨rfl, hb2⟩
        have R2 := Lib.hid (HR.out.below hb2)
        clear hb2
        rcases hnl with hlt2 | hge
        · have hfg : firstGap (1 + r) (gaps m.ws.length 0 L) = none := (firstGap_longest (1 + r) (by omega) _).2 (by rw [← HWD.out]; exact hlt2)
          have GB := Lib.hid (get_room R2.out.r.al (1 + r) 64 (by omega) (by omega) (Or.inl rfl) hfg)
          clear hfg
          go_wp2_with fail
          go_at_call 22
          refine GB.out.mono ?_
          rintro e w3 ⟨x, rfl, hx3, _, hb3⟩
          have t2 : Tail w w3 a mb mc B v L m x 0 3 := ⟨R2.out.b.trans (hb3.mono R2.out.b.size), R2.out.r.below hb3, hx3, errType_kept hE (R2.out.b.trans (hb3.mono R2.out.b.size)) hel⟩
          clear hx3 hb3
          go_wp2_with (first | (go_at_call 28; refine (t2.no 0 3).mono ?_; rintro e w4 ⟨z1', rfl, t3, f3⟩) | (go_at_call 15; refine (t3.same z1' f3 (by omega) (by omega)).mono ?_; rintro e w5 ⟨rfl, t4⟩) | (go_at_call 27; refine t4.awake.mono ?_; rintro e w6 ⟨rfl, t5⟩))
          go_ret
          exact ⟨rfl, t5.b⟩
        · obtain ⟨p, hfg⟩ : ∃ p, firstGap (1 + r) (gaps m.ws.length 0 L) = some p := by
            cases hc : firstGap (1 + r) (gaps m.ws.length 0 L) with
            | some p => exact ⟨p, rfl⟩
            | none =>
              have := (firstGap_longest (1 + r) (by omega) _).1 hc
              rw [← HWD.out] at this; omega
          have hpp := (R2.out.r.al.ch.put (n := 1 + r) (by omega) 64 hfg).2
          have hml := R2.out.len
          have hp0 : 0 ≤ p := hpp.1
          have hp1 : p + (1 + r) ≤ 100 := by have := hpp.2; omega
          have GT := Lib.hid (rm_got R2.out.r (1 + r) 64 p ⟨by omega, by omega, Or.inl rfl⟩ hfg)
          clear hfg hpp hml
          go_wp2_with fail
          go_at_call 22
          refine GT.out.mono ?_
          rintro e w3 ⟨v', m', rfl, hr', hl', hj', ho'⟩
          have B3 := Lib.hid (R2.out.next hr' hl' ho').b
          have AW := Lib.hid (awake_any w3 (errType_kept hE B3.out hel))
          clear hr' hl' hj' ho'
          go_wp2_with (first | (go_at_call 27; refine AW.out.mono ?_; rintro e w6 ⟨rfl, b6⟩))
          go_ret
          exact ⟨rfl, B3.out.trans (b6.mono B3.out.size)⟩
end Go.Proofs.YtlodelcenejfhaaDoor
