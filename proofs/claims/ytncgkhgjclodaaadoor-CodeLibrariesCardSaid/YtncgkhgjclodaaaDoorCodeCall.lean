/- The program's word on a row of calls (layer 4): contracts of the closure, of slices.IndexFunc and ContainsFunc at it, and of validCall. The conditions: the earlier rows lie there, fewer than 2^62. -/
import Derived.Test.YtncgkhgjclodaaaDoorCodeFrom
import Derived.Test.YtncgkhgjclodaaaDoorRefLib
import Derived.Deep.CutRange
import Derived.Deep.DeepCutAuto
import Derived.Deep.CutBlock
import Derived.Deep.Light
namespace Go.Proofs.YtncgkhgjclodaaaDoor
open Go.RowKit
set_option linter.unusedVariables false

/-- A row, as a call gets it. -/
abbrev callV (x : CallRow) : Value := .agg #[.int .i64 x.num, .int .i64 x.pl, .int .i64 x.k0, .int .i64 x.k1, .int .i64 x.k2, .int .i64 x.k3]
set_option maxHeartbeats 400000 in
/-- The closure: is it a row of that number? -/
theorem sameNum_any (x : CallRow) (X : Nat) (num : Int) (w : World) (h : w.cell? ⟨X, 0, none⟩ = some (.int .i64 num)) :
    Calls Tryd.prog 50 #[callV x, .pointer (some ⟨X, 0, none⟩)] w fun e w' => e = .returned (.bool (x.num == num)) ∧ Below w.heap.size w w' := by
  have hX := cell_lt h
  go_enter Tryd.func50, Tryd.ntmps50
  go_wp2
  go_ret
  exact ⟨rfl, (Below.refl _ _).alloc (Nat.le_refl _) _⟩

theorem nAcc_no (b : Bool) (c : List CallRow) (num : Int) : ∀ t, (∀ s, s < t → (c.getD s callRow0).num ≠ num) → nAcc b c num t = b
  | 0, _ => rfl
  | t + 1, h => by rw [nAcc, nAcc_no b c num t (fun s hs => h s (by omega)), decide_eq_false (h t (by omega)), Bool.or_false]
theorem nAcc_yes (b : Bool) (c : List CallRow) (num : Int) : ∀ t s, s < t → (c.getD s callRow0).num = num → nAcc b c num t = true
  | 0, s, h, _ => by omega
  | t + 1, s, h, e => by
    rw [nAcc]
    by_cases hs : s = t
    · rw [← hs, decide_eq_true e, Bool.or_true]
    · rw [nAcc_yes b c num t s (by omega) e, Bool.true_or]
theorem nAcc_or (b : Bool) (c : List CallRow) (num : Int) : ∀ t, nAcc b c num t = (b || nAcc false c num t)
  | 0 => by simp [nAcc]
  | t + 1 => by rw [nAcc, nAcc_or b c num t, nAcc, Bool.or_assoc]
set_option maxHeartbeats 1000000 in
set_option maxRecDepth 100000 in
/-- Which of the first rows has that number: the first one's place, or -1. -/
theorem indexFunc_any (B : Option Addr) (cap : Nat) (c : List CallRow) (i : Nat) (X : Nat) (num : Int) (w : World) (hi : i ≤ c.length) (hc : c.length < 4611686018427387904) (hC : CallsIn w B c) (h : w.cell? ⟨X, 0, none⟩ = some (.int .i64 num)) :
    Calls Tryd.prog 56 #[.slice B i cap, .func (.func 50) #[] #[.pointer (some ⟨X, 0, none⟩)]] w fun e w' => ∃ j : Int, e = .returned (.int .i64 j) ∧ (decide (0 ≤ j)) = nAcc false c num i ∧ Below w.heap.size w w' := by
  have SN := Lib.hid (fun (x : CallRow) W (hb : Below w.heap.size w W) => sameNum_any x X num W (by rw [hb.cell (p := ⟨X, 0, none⟩) (cell_lt h)]; exact h))
  have HC := Lib.hid hC
  have hiM : i < 4611686018427387904 := by omega
  clear hC h hc
  have HI := Lib.hid hi
  clear hi
  go_enter Tryd.func56, Tryd.ntmps56
  go_wp2_with fail
  go_loopw [8] (fun vi wr => ∃ t : Nat, t ≤ i ∧ vi = .int .i64 t ∧ Hid (∀ s, s < t → (c.getD s callRow0).num ≠ num) ∧ Hid (Below w.heap.size w wr)) (fun vi _ => i - (intOf vi).toNat)
  case atStart => exact ⟨0, by omega, rfl, Lib.hid (fun s hs => by omega), Lib.hid (Below.refl _ _)⟩
  case round =>
    obtain ⟨t, ht, rfl, hok, hbl⟩ := hrel
    by_cases hlt : t < i
    · obtain ⟨p, rfl, hp, c0, c1, c2, c3, c4, c5⟩ := (HC.out.below hbl.out) t (by have := HI.out; omega)
      obtain ⟨x, hx⟩ : ∃ x, x = c.getD t callRow0 := ⟨_, rfl⟩
      rw [← hx] at c0 c1 c2 c3 c4 c5
      have HX := Lib.hid hx
      have S1 := SN.out x wr hbl.out
      clear hx
      by_cases hq : x.num = num
      · have S2 := Lib.hid (show Calls Tryd.prog 50 #[callV x, .pointer (some ⟨X, 0, none⟩)] wr fun e w' => e = .returned (.bool true) ∧ Below wr.heap.size wr w' from by rw [show (x.num == num) = true from by simp [hq]] at S1; exact S1)
        have FIN := Lib.hid (show decide (0 ≤ (t : Int)) = nAcc false c num i by rw [nAcc_yes false c num i t hlt (by rw [← HX.out]; exact hq)]; simp)
        clear S1 hq
        go_wp2_with fail
        go_at_call 50
        refine S2.out.mono ?_
        rintro e w2 ⟨rfl, hb2⟩
        have BL2 := Lib.hid (hbl.out.trans (hb2.mono hbl.out.size))
        clear hb2
        go_wp2_with fail
        go_ret
        exact ⟨_, rfl, FIN.out, BL2.out⟩
      · have S2 := Lib.hid (show Calls Tryd.prog 50 #[callV x, .pointer (some ⟨X, 0, none⟩)] wr fun e w' => e = .returned (.bool false) ∧ Below wr.heap.size wr w' from by rw [show (x.num == num) = false from by simp [hq]] at S1; exact S1)
        have HOK := Lib.hid (show ∀ s, s < t + 1 → (c.getD s callRow0).num ≠ num from fun s hs => by
          by_cases h1 : s < t
          · exact hok.out s h1
          · obtain rfl : s = t := by omega
            rw [← HX.out]; exact hq)
        clear S1 hq
        go_wp2_with fail
        go_at_call 50
        refine S2.out.mono ?_
        rintro e w2 ⟨rfl, hb2⟩
        have BL2 := Lib.hid (hbl.out.trans (hb2.mono hbl.out.size))
        clear hb2
        go_wp2_with fail
        go_roundw
        case rel => exact ⟨t + 1, by omega, by go_num, HOK, BL2⟩
        case measure => simp [intOf]; omega
    · have FIN := Lib.hid (show decide (0 ≤ (-1 : Int)) = nAcc false c num i by rw [nAcc_no false c num i (fun s hs => hok.out s (by omega))]; rfl)
      have BLF := Lib.hid hbl.out
      go_wp2_with fail
      go_ret
      exact ⟨_, rfl, FIN.out, BLF.out⟩

set_option maxHeartbeats 400000 in
theorem containsFunc_any (B : Option Addr) (cap : Nat) (c : List CallRow) (i : Nat) (X : Nat) (num : Int) (w : World) (hi : i ≤ c.length) (hc : c.length < 4611686018427387904) (hC : CallsIn w B c) (h : w.cell? ⟨X, 0, none⟩ = some (.int .i64 num)) :
    Calls Tryd.prog 49 #[.slice B i cap, .func (.func 50) #[] #[.pointer (some ⟨X, 0, none⟩)]] w fun e w' => e = .returned (.bool (nAcc false c num i)) ∧ Below w.heap.size w w' := by
  have IF := Lib.hid (indexFunc_any B cap c i X num w hi hc hC h)
  clear hi hc hC h
  obtain ⟨q, hq⟩ : ∃ q, q = nAcc false c num i := ⟨_, rfl⟩
  rw [← hq] at IF ⊢
  go_enter Tryd.func49, Tryd.ntmps49
  go_wp2_with fail
  go_at_call 56
  refine IF.out.mono ?_
  rintro e w2 ⟨j, rfl, hj, hb⟩
  cases q with
  | true =>
    have hj' : 0 ≤ j := of_decide_eq_true hj
    clear hj hq
    go_wp2_with fail
    go_ret
    exact ⟨by simp [*], hb⟩
  | false =>
    have hj' : ¬ 0 ≤ j := of_decide_eq_false hj
    clear hj hq
    go_wp2_with fail
    go_ret
    exact ⟨by simp [*], hb⟩

/-- What the program asks of a row. -/
def vcBad (x : CallRow) (c : List CallRow) (n : Int) (i : Nat) : Bool := rowBad0 x n || (nAcc false c x.num i || kAcc false x 4)
theorem kAcc_no (x : CallRow) : ∀ t, (∀ s, s < t → kindBad (x.kind s) = false) → kAcc false x t = false
  | 0, _ => rfl
  | t + 1, h => by rw [kAcc, kAcc_no x t (fun s hs => h s (by omega)), h t (by omega)]; rfl
theorem kAcc_yes (x : CallRow) : ∀ t s, s < t → kindBad (x.kind s) = true → kAcc false x t = true
  | 0, s, h, _ => by omega
  | t + 1, s, h, e => by
    rw [kAcc]
    by_cases hs : s = t
    · rw [← hs, e, Bool.or_true]
    · rw [kAcc_yes x t s (by omega) e, Bool.true_or]
set_option maxHeartbeats 2000000 in
set_option maxRecDepth 100000 in
theorem validCall_any (x : CallRow) (B : Option Addr) (cap : Nat) (c : List CallRow) (i : Nat) (n : Int) (w : World) (hi : i ≤ c.length) (hc : c.length < 4611686018427387904) (hC : CallsIn w B c) :
    Calls Tryd.prog 35 #[callV x, .slice B i cap, .int .i64 n] w fun e w' => e = .returned (.bool (!vcBad x c n i)) ∧ Below w.heap.size w w' := by
  obtain ⟨num, pl, k0, k1, k2, k3⟩ := x
  have hbx : Below w.heap.size w (w.alloc (.cells #[.int .i64 num, .int .i64 pl, .int .i64 k0, .int .i64 k1, .int .i64 k2, .int .i64 k3] 76)) := (Below.refl _ _).alloc (Nat.le_refl _) _
  have rx := Row.new w [.int .i64 num, .int .i64 pl, .int .i64 k0, .int .i64 k1, .int .i64 k2, .int .i64 k3] 76
  obtain ⟨W, hW⟩ : ∃ W, W = w.alloc (.cells #[.int .i64 num, .int .i64 pl, .int .i64 k0, .int .i64 k1, .int .i64 k2, .int .i64 k3] 76) := ⟨_, rfl⟩
  obtain ⟨X, hX⟩ : ∃ X, X = w.heap.size := ⟨_, rfl⟩
  have CF := containsFunc_any B cap c i X num W hi hc (by rw [hW]; exact hC.below hbx) (by rw [hW, hX]; exact rx.cell 0 (by simp))
  obtain ⟨qn, hqn⟩ : ∃ q, q = nAcc false c num i := ⟨_, rfl⟩
  obtain ⟨R, hR⟩ : ∃ R, R = !vcBad ⟨num, pl, k0, k1, k2, k3⟩ c n i := ⟨_, rfl⟩
  rw [← hR]
  unfold vcBad at hR
  rw [show (⟨num, pl, k0, k1, k2, k3⟩ : CallRow).num = num from rfl, ← hqn] at hR
  rw [← hqn] at CF
  have HR := Lib.hid hR
  have CF' := Lib.hid CF
  have IX := Lib.hid (fun W => isIndex_any pl n W)
  obtain ⟨qi, hqi⟩ : ∃ q, q = (decide (0 ≤ pl) && decide (pl < n)) := ⟨_, rfl⟩
  rw [← hqi] at IX
  have HQI := Lib.hid hqi
  rw [← hW] at hbx rx
  rw [← hX] at rx
  have HBX := Lib.hid hbx
  have RX := Lib.hid rx
  clear CF hC hc hi hR hqn hqi hbx rx
  go_enter Tryd.func35, Tryd.ntmps35
  go_upto_region 1 with fail
  rw [← hW, ← hX]
  clear hW hX
  have x0 := RX.out.cell 0 (by simp)
  have x1 := RX.out.cell 1 (by simp)
  have x2 := RX.out.cell 2 (by simp)
  have x3 := RX.out.cell 3 (by simp)
  have x4 := RX.out.cell 4 (by simp)
  have x5 := RX.out.cell 5 (by simp)
  simp only [List.getElem_cons_zero, List.getElem_cons_succ] at x0 x1 x2 x3 x4 x5
  by_cases a1 : num < 1
  · obtain rfl : R = false := by rw [HR.out]; simp [rowBad0, a1]
    go_wp2_with fail
    go_ret
    exact ⟨rfl, HBX.out⟩
  by_cases a2 : 999 < num
  · obtain rfl : R = false := by rw [HR.out]; simp [rowBad0, a2]
    go_wp2_with fail
    go_ret
    exact ⟨rfl, HBX.out⟩
  cases qi with
  | false =>
    obtain rfl : R = false := by
      rw [HR.out]
      have h := HQI.out.symm
      simp only [Bool.and_eq_false_iff, decide_eq_false_iff_not] at h
      rw [show rowBad0 ⟨num, pl, k0, k1, k2, k3⟩ n = true by simp [rowBad0]; omega]; rfl
    go_wp2_with (go_at_call 47; refine (IX.out _).mono ?_; rintro e w' ⟨rfl, rfl⟩)
    go_ret
    exact ⟨rfl, HBX.out⟩
  | true =>
  have h0 : rowBad0 ⟨num, pl, k0, k1, k2, k3⟩ n = false := by
    have h := HQI.out.symm
    simp only [Bool.and_eq_true, decide_eq_true_eq] at h
    simp [rowBad0]; omega
  have HR0 := Lib.hid (show R = !(qn || kAcc false ⟨num, pl, k0, k1, k2, k3⟩ 4) by rw [HR.out, h0, Bool.false_or])
  clear h0
  cases qn with
  | true =>
    obtain rfl : R = false := by rw [HR0.out]; rfl
    go_wp2_with (go_at_call 47; refine (IX.out _).mono ?_; rintro e w' ⟨rfl, rfl⟩)
    go_at_call 49
    refine CF'.out.mono ?_
    rintro e w2 ⟨rfl, hb⟩
    have BL := Lib.hid (HBX.out.trans (hb.mono HBX.out.size))
    clear hb
    go_wp2_with fail
    go_ret
    exact ⟨rfl, BL.out⟩
  | false =>
  have HR1 := Lib.hid (show R = !(kAcc false ⟨num, pl, k0, k1, k2, k3⟩ 4) by rw [HR0.out, Bool.false_or])
  go_wp2_with (go_at_call 47; refine (IX.out _).mono ?_; rintro e w' ⟨rfl, rfl⟩)
  go_at_call 49
  refine CF'.out.mono ?_
  rintro e w2 ⟨rfl, hb⟩
  have BL := Lib.hid (HBX.out.trans (hb.mono HBX.out.size))
  have r2 := RX.out.below hb RX.out.lt
  clear x0 x1 x2 x3 x4 x5
  have x2 := r2.cell 2 (by simp)
  have x3 := r2.cell 3 (by simp)
  have x4 := r2.cell 4 (by simp)
  have x5 := r2.cell 5 (by simp)
  simp only [List.getElem_cons_zero, List.getElem_cons_succ] at x2 x3 x4 x5
  clear hb r2
  have j0 : ∀ w, (Instr.index 74 (.agg #[.int .i64 k0, .int .i64 k1, .int .i64 k2, .int .i64 k3]) (.int .i64 0)).run Tryd.prog w = .ok (.int .i64 k0) w := fun _ => by kernel_rfl
  have j1 : ∀ w, (Instr.index 74 (.agg #[.int .i64 k0, .int .i64 k1, .int .i64 k2, .int .i64 k3]) (.int .i64 1)).run Tryd.prog w = .ok (.int .i64 k1) w := fun _ => by kernel_rfl
  have j2 : ∀ w, (Instr.index 74 (.agg #[.int .i64 k0, .int .i64 k1, .int .i64 k2, .int .i64 k3]) (.int .i64 2)).run Tryd.prog w = .ok (.int .i64 k2) w := fun _ => by kernel_rfl
  have j3 : ∀ w, (Instr.index 74 (.agg #[.int .i64 k0, .int .i64 k1, .int .i64 k2, .int .i64 k3]) (.int .i64 3)).run Tryd.prog w = .ok (.int .i64 k3) w := fun _ => by kernel_rfl
  go_wp2_with fail
  go_loopw [29] (fun vi wr => ∃ t : Nat, t ≤ 4 ∧ vi = .int .i64 t ∧ Hid (∀ s, s < t → kindBad ((⟨num, pl, k0, k1, k2, k3⟩ : CallRow).kind s) = false) ∧ w2 = wr) (fun vi _ => 4 - (intOf vi).toNat)
  case atStart => exact ⟨0, by omega, rfl, Lib.hid (fun s hs => by omega), rfl⟩
  case round =>
    obtain ⟨t, ht, rfl, hok, rfl⟩ := hrel
    by_cases ht4 : t = 4
    · subst ht4
      obtain rfl : R = true := by rw [HR1.out, kAcc_no _ 4 hok.out]; rfl
      go_wp2_with fail
      go_ret
      exact ⟨rfl, BL.out⟩
    · obtain ⟨kk, hkk⟩ : ∃ kk, kk = (⟨num, pl, k0, k1, k2, k3⟩ : CallRow).kind t := ⟨_, rfl⟩
      have hkc : t = 0 ∧ kk = k0 ∨ t = 1 ∧ kk = k1 ∨ t = 2 ∧ kk = k2 ∨ t = 3 ∧ kk = k3 := by
        have h : t = 0 ∨ t = 1 ∨ t = 2 ∨ t = 3 := by omega
        rcases h with rfl | rfl | rfl | rfl
        · exact .inl ⟨rfl, hkk⟩
        · exact .inr (.inl ⟨rfl, hkk⟩)
        · exact .inr (.inr (.inl ⟨rfl, hkk⟩))
        · exact .inr (.inr (.inr ⟨rfl, hkk⟩))
      by_cases hbd : kindBad kk = true
      · obtain rfl : R = false := by rw [HR1.out, kAcc_yes _ 4 t (by omega) (by rw [← hkk]; exact hbd)]; rfl
        have hbd' : kk < 0 ∨ (¬ kk < 0 ∧ 7 < kk) := by simp [kindBad] at hbd; omega
        clear hbd hkk
        rcases hkc with ⟨rfl, rfl⟩ | ⟨rfl, rfl⟩ | ⟨rfl, rfl⟩ | ⟨rfl, rfl⟩ <;> rcases hbd' with b1 | ⟨b1, b2⟩
        all_goals
          go_wp2_with fail
          go_ret
          exact ⟨rfl, BL.out⟩
      · have b1 : ¬ kk < 0 := by simp [kindBad] at hbd; omega
        have b2 : ¬ 7 < kk := by simp [kindBad] at hbd; omega
        have HOK := Lib.hid (show ∀ s, s < t + 1 → kindBad ((⟨num, pl, k0, k1, k2, k3⟩ : CallRow).kind s) = false from fun s hs => by
          by_cases h1 : s < t
          · exact hok.out s h1
          · obtain rfl : s = t := by omega
            rw [← hkk]; simpa using hbd)
        clear hbd hkk
        rcases hkc with ⟨rfl, rfl⟩ | ⟨rfl, rfl⟩ | ⟨rfl, rfl⟩ | ⟨rfl, rfl⟩
        all_goals
          go_wp2_with fail
          go_roundw
          case rel => exact ⟨_, by omega, by go_num, HOK, trivial⟩
          case measure => simp [intOf]
end Go.Proofs.YtncgkhgjclodaaaDoor
