/- The walk of HeapPlays (layer 7): it returns true; of what was there nothing has turned. -/
import Derived.Test.YtgkmihlnmhegfaaHeapPlay
import Derived.Test.YtgkmihlnmhegfaaHeapOps
import Derived.Test.YtgkmihlnmhegfaaKeepWithin
import Derived.Deep.RegionHeld3
namespace Go.Proofs.Ytgkmihlnmhegfaa
open Go.RowKit
set_option linter.unusedVariables false

theorem opbox7 {W : World} {X : Nat} {d h a u : Int} (hx : Row W X [.int .i64 d, .int .i64 h, .int .u64 a, .int .u64 u]) : W.cell? ⟨X, 0, none⟩ = some (.int .i64 d) ∧ W.cell? ⟨X, 1, none⟩ = some (.int .i64 h) ∧ W.cell? ⟨X, 2, none⟩ = some (.int .u64 a) ∧ W.cell? ⟨X, 3, none⟩ = some (.int .u64 u) :=
  ⟨hx.cell 0 (by simp), hx.cell 1 (by simp), hx.cell 2 (by simp), hx.cell 3 (by simp)⟩

set_option maxHeartbeats 16000000 in
set_option maxRecDepth 100000 in
theorem heapPlays_walk (d1 : Int) (_w1 : (Lit.int .i64 d1).wf = true) (w : World) (A : Option Addr) (len cap : Nat) (hl : len ≤ maxLen) (hs : OpsIn w A len) :
    Calls Try.prog 3 #[.slice A len cap, .int .i64 d1] w fun e w' => e = .returned (.bool true) ∧ Below w.heap.size w w' := by
  have NW := Lib.hid (newS w)
  have AW := Lib.hid awake_any
  have S0 := Lib.hid hs
  have WN := Lib.hid (fun x W => within_any x 5 (by omega) (by omega) W)
  have b1 := Int.emod_nonneg d1 (show (30 : Int) ≠ 0 by omega)
  have b2 := Int.emod_lt_of_pos d1 (show (0 : Int) < 30 by omega)
  have WM := Lib.hid (fun W => within_any d1 30 (by omega) (by omega) W)
  obtain ⟨qm, hqm⟩ : ∃ q : Nat, d1 % 30 = q := ⟨(d1 % 30).toNat, by omega⟩
  rw [hqm] at WM b2
  have hq30 : qm < 30 := by omega
  unfold maxLen at hl
  clear hs _w1 b1 b2 hqm
  go_enter Try.func3, Try.ntmps3
  go_wp2_with fail
  go_at_call 8
  refine NW.out.mono ?_
  rintro e w1 ⟨rfl, h1, hb1⟩
  have hsz := h1.facts
  obtain ⟨b, hb⟩ : ∃ b, b = w.heap.size + 1 := ⟨_, rfl⟩
  obtain ⟨mb, hmb⟩ : ∃ mb, mb = w.heap.size := ⟨_, rfl⟩
  obtain ⟨N, hN⟩ : ∃ N, N = w.heap.size + 2 := ⟨_, rfl⟩
  obtain ⟨r, hr⟩ : ∃ r, r = w1.heap.size := ⟨_, rfl⟩
  have hb2 : Below w1.heap.size w1 (w1.alloc (.cells #[.slice none 0 0, .int .i64 0] 28)) := (Below.refl _ _).alloc (Nat.le_refl _) _
  have rw2 := Row.new w1 [.slice none 0 0, .int .i64 0] 28
  have P0 : PlayI w w.heap.size (w1.alloc (.cells #[.slice none 0 0, .int .i64 0] 28)) b mb N (.slice none 0 0) 0 [] 0 r (r + 1) (.slice none 0 0) [] 0 := by
    refine ⟨⟨?_, by omega, by omega, by omega, hb1.trans (hb2.mono hb1.size)⟩, ⟨?_, World.ownsRow_nil _ _ _ _, by omega, by simp; omega⟩, by omega, by omega, by omega, (fun k hk => by cases hk), (fun k hk => by cases hk)⟩
    · rw [hb, hmb, hN]; exact h1.below hb2
    · rw [hr]; exact rw2
  rw [show w.heap.size = mb from hmb.symm] at P0
  simp only [← hb]
  have HP0 := Lib.hid P0
  have HM := Lib.hid hmb
  clear P0 h1 hb1 hb2 rw2 hsz hb hmb hN
  go_wp2_with fail
  simp only [← hr]
  generalize w1.alloc (.cells #[.slice none 0 0, .int .i64 0] 28) = W1 at *
  clear hr
  go_loopw [7] (fun vi wr => ∃ (i n : Nat) (v : Value) (S : List Itm) (vr : Value), i ≤ 100 ∧ i ≤ len ∧ vi = .int .i64 i ∧ Hid (S.length ≤ i) ∧ Hid (n ≤ i) ∧ Hid (PlayI w mb wr b mb N v (i * 1000) S n r (r + 1) vr S n)) (fun vi _ => 100 - (intOf vi).toNat)
  case atStart => exact ⟨0, 0, _, [], _, by omega, by omega, rfl, Lib.hid (by simp), Lib.hid (by omega), HP0⟩
  case round =>
    obtain ⟨i, n, v, S, vr, hi, hil, rfl, HSL, HNI, hp⟩ := hrel
    by_cases hlt : i < len ∧ i < 100
    · obtain ⟨hlm, hl100⟩ := hlt
      obtain ⟨p, rfl, hpb, d, hh, a, u, ⟨f0, f1, f2, f3⟩, wh⟩ := S0.out i hlm
      have pb : (p.add (i * 4)).block < w.heap.size := by rw [ChangeShapes.block_add]; exact hpb
      have hbl := hp.out.q.bel
      rw [HM.out] at hbl
      have f0 : wr.cell? (p.add (i * 4)) = some (.int .i64 d) := by rw [hbl.cell pb]; exact f0
      have f1 : wr.cell? ⟨(p.add (i * 4)).block, (p.add (i * 4)).off + 1, none⟩ = some (.int .i64 hh) := by rw [hbl.cell (p := ⟨_, _, none⟩) pb]; exact f1
      have f2 : wr.cell? ⟨(p.add (i * 4)).block, (p.add (i * 4)).off + 2, none⟩ = some (.int .u64 a) := by rw [hbl.cell (p := ⟨_, _, none⟩) pb]; exact f2
      have f3 : wr.cell? ⟨(p.add (i * 4)).block, (p.add (i * 4)).off + 3, none⟩ = some (.int .u64 u) := by rw [hbl.cell (p := ⟨_, _, none⟩) pb]; exact f3
      have hD : PlayI w mb (wr.alloc (.cells #[.int .i64 d, .int .i64 hh, .int .u64 a, .int .u64 u] 31)) b mb N v (i * 1000) S n r (r + 1) vr S n := hp.out.below ((Below.refl _ _).alloc (Nat.le_refl _) _)
      have xx := Row.new wr [.int .i64 d, .int .i64 hh, .int .u64 a, .int .u64 u] 31
      have hX1 := hp.out.q.at1.facts
      have hX2 := hp.out.p.top.lt
      have hX3 := hp.out.q.at1.own
      obtain ⟨X, hX⟩ : ∃ X, X = wr.heap.size := ⟨_, rfl⟩
      have ni : X ∉ bothB b mb r v := by
        simp only [List.mem_cons, not_or]
        exact ⟨by omega, by omega, by omega, fun e => by have := (hX3 X (by simpa using e)).2; omega⟩
      rw [← hX] at xx
      have HD := Lib.hid hD
      have XX := Lib.hid xx
      have NI := Lib.hid ni
      have HXX := Lib.hid hX
      have WI := WN.out d
      have hdm : d % 5 = 2 ∨ d % 5 = 3 ∨ d % 5 = 4 ∨ (d % 5 ≠ 2 ∧ d % 5 ≠ 3 ∧ d % 5 ≠ 4) := by omega
      clear hD xx ni hX1 hX2 hX3 hbl pb hp
      go_wp2_with fail
      simp only [← hX]
      clear hX
      rcases hdm with hm | hm | hm | hm
      · rw [hm] at WI
        have WI2 := Lib.hid WI
        have AB := Lib.hid (dropAB HD.out hh wh (by have := HSL.out; omega) (by have := HNI.out; omega) (by have := HSL.out; unfold maxLen; omega))
        obtain ⟨k0, k1, k2, k3⟩ := opbox7 XX.out
        clear WI
        go_wp2_with fail
        go_at_call 9
        refine (WI2.out _).mono ?_
        rintro e w2 ⟨rfl, rfl⟩
        go_wp2_with fail
        go_at_call 10
        refine AB.out.mono ?_
        rintro e w3 ⟨x, y, rfl, ho3, hR3⟩
        clear k0 k1 k2 k3
        obtain ⟨k0, k1, k2, k3⟩ := opbox7 (XX.out.only ho3 NI.out)
        clear ho3
        have t0 : (x != x) = false := bne_self_eq_false x
        have t1 : (y != y) = false := bne_self_eq_false y
        go_wp2_with fail
        go_at_call 11
        refine hR3.out.mono ?_
        rintro e w4 ⟨rfl, hnx⟩
        have HNX := Lib.hid hnx
        clear hnx
        obtain ⟨v', vr', S', hp', hl'⟩ := HNX.out
        have HP := Lib.hid hp'
        have HL := Lib.hid (show S'.length ≤ i by have := HSL.out; omega)
        obtain ⟨n', hn'⟩ : ∃ n', n' = n := ⟨_, rfl⟩
        rw [← hn'] at HP
        have HNN := Lib.hid (show n' ≤ i by have := HNI.out; omega)
        clear hp' hl' hn' HNX
        clear hR3 AB k0 k1 k2 k3
        have LN := Lib.hid (show ∀ q, Calls Try.prog 18 #[.pointer (some ⟨b, 0, none⟩)] (w4.drewN q) (fun e w' => e = .returned (.int .i64 S'.length) ∧ w' = w4.drewN q) from fun q => (lenS ((HP.out.below (below_draws _ q)).q.at1) (by have := HL.out; omega)).mono (fun e W' h => ⟨h.1, h.2.symm⟩))
        have cr := HP.out.p.c0
        obtain ⟨pr, ccr, hvr⟩ := ownsT_slice HP.out.p.row
        rw [hvr] at cr
        have HVR := Lib.hid hvr
        obtain ⟨kk, hkk⟩ : ∃ kk, kk = S'.length := ⟨_, rfl⟩
        rw [← hkk] at cr LN
        have HKK := Lib.hid hkk
        have tkk : ((kk : Int) != (kk : Int)) = false := bne_self_eq_false (kk : Int)
        have hrW := HP.out.p.top.lt
        clear hvr hkk
        go_wp2_with fail
        go_quiet ((go_at_call 18; exact Calls.quiet_of_same (LN.out _)))
        have HP9 := Lib.hid (HP.out.below (below_draws _ nq))
        go_wp2_with fail
        go_roundw
        case rel => exact ⟨i + 1, n', v', S', vr', by omega, by omega, by go_num, Lib.hid (by have := HL.out; omega), Lib.hid (by have := HNN.out; omega), Lib.hid (HP9.out.up (by have := HSL.out; omega))⟩
        case measure => simp [intOf]; omega
      · rw [hm] at WI
        have WI2 := Lib.hid WI
        have AB := Lib.hid (firstAB HD.out (by have := HSL.out; omega))
        obtain ⟨k0, k1, k2, k3⟩ := opbox7 XX.out
        clear WI
        go_wp2_with fail
        go_at_call 9
        refine (WI2.out _).mono ?_
        rintro e w2 ⟨rfl, rfl⟩
        go_wp2_with fail
        go_at_call 12
        refine AB.out.mono ?_
        rintro e w3 ⟨x, x', y, rfl, ho3, hR3⟩
        clear k0 k1 k2 k3
        obtain ⟨k0, k1, k2, k3⟩ := opbox7 (XX.out.only ho3 NI.out)
        clear ho3
        have t0 : (x != x) = false := bne_self_eq_false x
        have t2 : (x' != x') = false := bne_self_eq_false x'
        have t1 : (y != y) = false := bne_self_eq_false y
        go_wp2_with fail
        go_at_call 13
        refine hR3.out.mono ?_
        rintro e w4 ⟨rfl, hnx⟩
        have HNX := Lib.hid hnx
        clear hnx
        obtain ⟨v', vr', S', hp', hl'⟩ := HNX.out
        have HP := Lib.hid hp'
        have HL := Lib.hid (show S'.length ≤ i by have := HSL.out; omega)
        obtain ⟨n', hn'⟩ : ∃ n', n' = n := ⟨_, rfl⟩
        rw [← hn'] at HP
        have HNN := Lib.hid (show n' ≤ i by have := HNI.out; omega)
        clear hp' hl' hn' HNX
        clear hR3 AB k0 k1 k2 k3
        have LN := Lib.hid (show ∀ q, Calls Try.prog 18 #[.pointer (some ⟨b, 0, none⟩)] (w4.drewN q) (fun e w' => e = .returned (.int .i64 S'.length) ∧ w' = w4.drewN q) from fun q => (lenS ((HP.out.below (below_draws _ q)).q.at1) (by have := HL.out; omega)).mono (fun e W' h => ⟨h.1, h.2.symm⟩))
        have cr := HP.out.p.c0
        obtain ⟨pr, ccr, hvr⟩ := ownsT_slice HP.out.p.row
        rw [hvr] at cr
        have HVR := Lib.hid hvr
        obtain ⟨kk, hkk⟩ : ∃ kk, kk = S'.length := ⟨_, rfl⟩
        rw [← hkk] at cr LN
        have HKK := Lib.hid hkk
        have tkk : ((kk : Int) != (kk : Int)) = false := bne_self_eq_false (kk : Int)
        have hrW := HP.out.p.top.lt
        clear hvr hkk
        go_wp2_with fail
        go_quiet ((go_at_call 18; exact Calls.quiet_of_same (LN.out _)))
        have HP9 := Lib.hid (HP.out.below (below_draws _ nq))
        go_wp2_with fail
        go_roundw
        case rel => exact ⟨i + 1, n', v', S', vr', by omega, by omega, by go_num, Lib.hid (by have := HL.out; omega), Lib.hid (by have := HNN.out; omega), Lib.hid (HP9.out.up (by have := HSL.out; omega))⟩
        case measure => simp [intOf]; omega
      · rw [hm] at WI
        have WI2 := Lib.hid WI
        have AB := Lib.hid (popAB HD.out a (by have := HSL.out; omega) (by have := HNI.out; omega) (by have := HSL.out; unfold maxLen; omega))
        obtain ⟨k0, k1, k2, k3⟩ := opbox7 XX.out
        clear WI
        go_wp2_with fail
        go_at_call 9
        refine (WI2.out _).mono ?_
        rintro e w2 ⟨rfl, rfl⟩
        go_wp2_with fail
        go_at_call 14
        refine AB.out.mono ?_
        rintro e w3 ⟨x, y, rfl, ho3, hR3⟩
        clear k0 k1 k2 k3
        obtain ⟨k0, k1, k2, k3⟩ := opbox7 (XX.out.only ho3 NI.out)
        clear ho3
        have t0 : (x != x) = false := bne_self_eq_false x
        have t1 : (y != y) = false := bne_self_eq_false y
        go_wp2_with fail
        go_at_call 15
        refine hR3.out.mono ?_
        rintro e w4 ⟨rfl, hnx⟩
        have HNX := Lib.hid hnx
        clear hnx
        obtain ⟨v', vr', S', hp', hl'⟩ := HNX.out
        have HP := Lib.hid hp'
        have HL := Lib.hid (show S'.length ≤ i by have := HSL.out; omega)
        obtain ⟨n', hn'⟩ : ∃ n', n' = n := ⟨_, rfl⟩
        rw [← hn'] at HP
        have HNN := Lib.hid (show n' ≤ i by have := HNI.out; omega)
        clear hp' hl' hn' HNX
        clear hR3 AB k0 k1 k2 k3
        have LN := Lib.hid (show ∀ q, Calls Try.prog 18 #[.pointer (some ⟨b, 0, none⟩)] (w4.drewN q) (fun e w' => e = .returned (.int .i64 S'.length) ∧ w' = w4.drewN q) from fun q => (lenS ((HP.out.below (below_draws _ q)).q.at1) (by have := HL.out; omega)).mono (fun e W' h => ⟨h.1, h.2.symm⟩))
        have cr := HP.out.p.c0
        obtain ⟨pr, ccr, hvr⟩ := ownsT_slice HP.out.p.row
        rw [hvr] at cr
        have HVR := Lib.hid hvr
        obtain ⟨kk, hkk⟩ : ∃ kk, kk = S'.length := ⟨_, rfl⟩
        rw [← hkk] at cr LN
        have HKK := Lib.hid hkk
        have tkk : ((kk : Int) != (kk : Int)) = false := bne_self_eq_false (kk : Int)
        have hrW := HP.out.p.top.lt
        clear hvr hkk
        go_wp2_with fail
        go_quiet ((go_at_call 18; exact Calls.quiet_of_same (LN.out _)))
        have HP9 := Lib.hid (HP.out.below (below_draws _ nq))
        go_wp2_with fail
        go_roundw
        case rel => exact ⟨i + 1, n', v', S', vr', by omega, by omega, by go_num, Lib.hid (by have := HL.out; omega), Lib.hid (by have := HNN.out; omega), Lib.hid (HP9.out.up (by have := HSL.out; omega))⟩
        case measure => simp [intOf]; omega
      · have hdd : ∃ dd, dd = d % 5 ∧ dd ≠ 2 ∧ dd ≠ 3 ∧ dd ≠ 4 := ⟨_, rfl, by omega, by omega, by omega⟩
        obtain ⟨dd, hdd0, hd2, hd3, hd4⟩ := hdd
        rw [← hdd0] at WI
        have WI2 := Lib.hid WI
        have e2 : (dd == 2) = false := beq_eq_false_iff_ne.2 hd2
        have e3 : (dd == 3) = false := beq_eq_false_iff_ne.2 hd3
        have e4 : (dd == 4) = false := beq_eq_false_iff_ne.2 hd4
        have PA := Lib.hid (putA (HD.out.below (Below.refl _ _).drew) a u (by have := HSL.out; omega) (by have := HNI.out; omega) (by have := HSL.out; unfold maxLen; omega))
        have PB := Lib.hid (putB (HD.out.below (Below.refl _ _).drew) a u (by have := HSL.out; omega) (by have := HNI.out; omega) (by have := HSL.out; unfold maxLen; omega))
        have tn : ((n : Int) + 1 != (n : Int) + 1) = false := bne_self_eq_false _
        have XD := Lib.hid XX.out.drew
        obtain ⟨k0, k1, k2, k3⟩ := opbox7 XX.out
        clear WI hdd0
        go_wp2_with fail
        go_at_call 9
        refine (WI2.out _).mono ?_
        rintro e w2 ⟨rfl, rfl⟩
        go_wp2_with fail
        go_region_held3 (fun w' => w'.cell? ⟨X, 2, none⟩ = some (.int .u64 a) ∧ w'.cell? ⟨X, 3, none⟩ = some (.int .u64 u)) (go_keep)
          (first
            | (go_at_call 16; ((with_reducible refine PA.out.mono ?_); rintro e w3 ⟨rfl, ho3, hR⟩; obtain ⟨k0, k1, k2, k3⟩ := opbox7 (XD.out.only ho3 NI.out)))
            | (go_at_call 17; ((with_reducible refine PB.out.mono ?_); rintro e w3 ⟨rfl, ho3, hP⟩; obtain ⟨k0, k1, k2, k3⟩ := opbox7 (XD.out.only ho3 NI.out)))
            | (go_at_call 17; ((with_reducible refine hR.out.mono ?_); rintro e w4 ⟨rfl, ho4, hnx⟩; obtain ⟨k0, k1, k2, k3⟩ := opbox7 (XD.out.only ho4 NI.out)))
            | (go_at_call 16; ((with_reducible refine hP.out.mono ?_); rintro e w4 ⟨rfl, ho4, hnx⟩; obtain ⟨k0, k1, k2, k3⟩ := opbox7 (XD.out.only ho4 NI.out))))
        all_goals
          have HNX := Lib.hid hnx
          clear hnx
          obtain ⟨v', vr', S', hp', hl'⟩ := HNX.out
          have HP := Lib.hid hp'
          have HL := Lib.hid (show S'.length ≤ i + 1 by have := HSL.out; omega)
          obtain ⟨n', hn'⟩ : ∃ n', n' = n + 1 := ⟨_, rfl⟩
          rw [← hn'] at HP
          have HNN := Lib.hid (show n' ≤ i + 1 by have := HNI.out; omega)
          clear hp' hl' hn' HNX PA PB
          have LN := Lib.hid (show ∀ q, Calls Try.prog 18 #[.pointer (some ⟨b, 0, none⟩)] (w4.drewN q) (fun e w' => e = .returned (.int .i64 S'.length) ∧ w' = w4.drewN q) from fun q => (lenS ((HP.out.below (below_draws _ q)).q.at1) (by have := HL.out; omega)).mono (fun e W' h => ⟨h.1, h.2.symm⟩))
          have cr := HP.out.p.c0
          obtain ⟨pr, ccr, hvr⟩ := ownsT_slice HP.out.p.row
          rw [hvr] at cr
          have HVR := Lib.hid hvr
          obtain ⟨kk, hkk⟩ : ∃ kk, kk = S'.length := ⟨_, rfl⟩
          rw [← hkk] at cr LN
          have HKK := Lib.hid hkk
          have tkk : ((kk : Int) != (kk : Int)) = false := bne_self_eq_false (kk : Int)
          have hrW := HP.out.p.top.lt
          clear hvr hkk
          go_wp2_with fail
          go_quiet ((go_at_call 18; exact Calls.quiet_of_same (LN.out _)))
          have HP9 := Lib.hid (HP.out.below (below_draws _ nq))
          go_wp2_with fail
          go_roundw
          case rel => exact ⟨i + 1, n', v', S', vr', by omega, by omega, by go_num, Lib.hid (by have := HL.out; omega), Lib.hid (by have := HNN.out; omega), Lib.hid (HP9.out.up (by have := HSL.out; omega))⟩
          case measure => simp [intOf]; omega
    · have hend : (¬ i < len) ∨ (i < len ∧ ¬ i < 100) := by omega
      have hSl : S.length ≤ 100 := by have := HSL.out; omega
      have AL := Lib.hid (allS hp.out.q.at1 (by omega) 1000 (by omega) (by omega))
      have HT0 := Lib.hid (show S.take 1000 = S from List.take_of_length_le (by omega))
      have HS1 := Lib.hid hSl
      clear hlt hSl
      rcases hend with hend | ⟨hend0, hend⟩
      all_goals
        go_wp2_with fail
        go_at_call 19
        refine AL.out.mono ?_
        rintro e w3 ⟨u1, rfl, hu1, hb3⟩
        rw [HT0.out] at hu1
        have h3 := hp.out.below hb3
        have U1 := Lib.hid hu1
        have HP3 := Lib.hid h3
        have AL2 := Lib.hid (fun x (hx : x = ((qm + 1 : Nat) : Int)) => (by rw [hx]; exact allS h3.q.at1 (by have := HS1.out; omega) (qm + 1) (by omega) (by omega) : Calls Try.prog 19 #[.pointer (some ⟨b, 0, none⟩), .int .i64 x] w3 fun e w' => ∃ u, e = .returned u ∧ w'.ownsRow w3.heap.size 43 2 u (S.take (qm + 1)).length (flatP (S.take (qm + 1))) ∧ Below w3.heap.size w3 w'))
        obtain ⟨p1, c1, hv1⟩ := ownsT_slice hu1
        subst hv1
        clear hu1 hb3 h3
        go_wp2_with fail
        go_at_call 9
        refine (WM.out _).mono ?_
        rintro e w4 ⟨rfl, rfl⟩
        go_wp2_with fail
        go_at_call 19
        refine (AL2.out _ (by omega)).mono ?_
        rintro e w5 ⟨u2, rfl, hu2, hb5⟩
        obtain ⟨p2, c2, hv2⟩ := ownsT_slice hu2
        subst hv2
        have hlen : (S.take (qm + 1)).length = min (qm + 1) S.length := List.length_take
        have U2 := Lib.hid hu2
        have HB5 := Lib.hid hb5
        have HP5 := Lib.hid (HP3.out.below hb5)
        have U15 := Lib.hid (ownsRow_only U1.out (Only.of_below (F := []) hb5) (fun _ _ => by simp))
        obtain ⟨m, hm⟩ : ∃ m, m = S.length := ⟨_, rfl⟩
        obtain ⟨p, hpp⟩ : ∃ p, p = (S.take (qm + 1)).length := ⟨_, rfl⟩
        have SM := Lib.hid (fun (W : World) (hb : Below w5.heap.size w5 W) => same_any (ownsRow_only U15.out (Only.of_below (F := []) hb) (fun _ _ => by simp)) (HP5.out.below hb).p (by have := HS1.out; omega))
        have T2 := Lib.hid (told_two U2.out)
        have T1 := Lib.hid (told_two U15.out)
        rw [← hm] at T1 SM
        rw [← hpp] at T2
        rw [← hm, ← hpp] at hlen
        simp only [← hm, ← hpp]
        have HPP := Lib.hid hpp
        have HMM := Lib.hid hm
        have HLEN := Lib.hid hlen
        have hpm : p ≤ m := by omega
        have hpq : p ≤ qm + 1 := by omega
        have hm100 : m ≤ 100 := by rw [hm]; exact HS1.out
        have hmn : ((p : Int) != min (1 + (qm : Int)) (m : Int)) = false := by
          have e : (p : Int) = min (1 + (qm : Int)) (m : Int) := by omega
          rw [e]; exact bne_self_eq_false _
        have FIN := Lib.hid (show ∀ (W W' : World), Below w5.heap.size w5 W → Below W.heap.size W W' → Below w.heap.size w W' from fun W W' h h' => by
          have hbl := HP5.out.q.bel
          rw [HM.out] at hbl
          have s1 := hbl.size
          have s2 := h.size
          exact (hbl.trans (h.mono s1)).trans (h'.mono (by omega)))
        clear hu2 hb5 hpp hm hlen AL AL2
        by_cases hp0 : p = 0
        · subst hp0
          go_wp2_with fail
          go_loop [26] (fun vi => vi = .int .i64 0) (fun _ => 0)
          case atStart => exact rfl
          case round =>
            obtain rfl := hrel
            go_wp2_with fail
            go_at_call 20
            refine (SM.out _ (Below.refl _ _)).mono ?_
            rintro e w6 ⟨rfl, hb6⟩
            have HB6 := Lib.hid hb6
            clear hb6
            go_wp2_with fail
            go_at_call 21
            refine (AW.out _).mono ?_
            rintro e w7 ⟨rfl, hb7⟩
            go_wp2_with fail
            go_ret
            exact ⟨rfl, FIN.out _ _ HB6.out hb7⟩
        · rcases T2.out with ⟨e, _⟩ | ⟨g2, cap2, e2, hc2, hg2⟩
          · cases e; exact absurd rfl hp0
          rcases T1.out with ⟨e, _⟩ | ⟨g1, cap1, e1, hc1, hg1⟩
          · cases e; exact absurd (Nat.le_zero.1 hpm) hp0
          cases e2
          cases e1
          have HC2 := Lib.hid hc2
          have HC1 := Lib.hid hc1
          clear hc1 hc2
          go_wp2_with fail
          go_loopw [26] (fun vi wr => ∃ j : Nat, j ≤ p ∧ vi = .int .i64 j ∧ Hid (Below w5.heap.size w5 wr)) (fun vi _ => p - (intOf vi).toNat)
          case atStart => exact ⟨0, Nat.zero_le _, rfl, Lib.hid (Below.refl _ _)⟩
          case round =>
            obtain ⟨j, hj, rfl, hbw⟩ := hrel
            by_cases hjp : j < p
            · obtain ⟨a0, a1⟩ := HC2.out j hjp
              obtain ⟨d0, d2⟩ := HC1.out j (by omega)
              have hat : at_ (S.take (qm + 1)) j = at_ S j := by
                rw [at_get _ _ (by rw [← HPP.out]; exact hjp), at_get _ _ (by rw [← HMM.out]; omega)]
                simp
              rw [hat] at a0 a1
              have x0 := (hbw.out.cell (p := ⟨g2, j * 2, none⟩) hg2).trans a0
              have x1 := (hbw.out.cell (p := ⟨g2, j * 2 + 1, none⟩) hg2).trans a1
              have y0 := (hbw.out.cell (p := ⟨g1, j * 2, none⟩) hg1).trans d0
              have y1 := (hbw.out.cell (p := ⟨g1, j * 2 + 1, none⟩) hg1).trans d2
              obtain ⟨x, hx⟩ : ∃ x, x = at_ S j := ⟨_, rfl⟩
              rw [← hx] at x0 x1 y0 y1
              obtain ⟨z0, z1, z2⟩ := x
              dsimp only at x0 x1 y0 y1
              have hjm : (j : Int) < (m : Int) := by omega
              have hjp' : (j : Int) < (p : Int) := by omega
              clear hx hat a0 a1 d0 d2
              go_wp2_with fail
              go_quiet (fail)
              have hb6 := below_draws wr nq
              have B6 := Lib.hid (hbw.out.trans (hb6.mono hbw.out.size))
              clear hb6
              go_wp2_with fail
              go_roundw
              case rel => exact ⟨j + 1, by omega, by go_num, B6⟩
              case measure => simp [intOf]; omega
            · go_wp2_with fail
              go_at_call 20
              refine (SM.out _ hbw.out).mono ?_
              rintro e w6 ⟨rfl, hb6⟩
              have HB6 := Lib.hid (hbw.out.trans (hb6.mono hbw.out.size))
              clear hb6
              go_wp2_with fail
              go_at_call 21
              refine (AW.out _).mono ?_
              rintro e w7 ⟨rfl, hb7⟩
              go_wp2_with fail
              go_ret
              exact ⟨rfl, FIN.out _ _ HB6.out hb7⟩
end Go.Proofs.Ytgkmihlnmhegfaa
