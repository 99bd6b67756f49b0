/- The program's word on one instruction (layer 4): contracts of isRegister, mayStand, hasRegisters, hasNumber and hasMark. -/
import Derived.Test.YtneajiglkiffjaaGreatDoorCodeValid
import Derived.Test.YtneajiglkiffjaaGreatDoorProg
import Derived.WalkKit
import Derived.WalkSpells
import Derived.WalkLawsBesides
import Derived.Lib.Hide
namespace Go.Proofs.YtneajiglkiffjaaGreatDoor
open Go.RowKit
set_option linter.unusedVariables false

set_option maxHeartbeats 1000000 in
theorem isRegister_any (r : Int) (has bare : Bool) (w : World) : Calls Tryz.prog 99 #[.int .i64 r, .bool has, .bool bare] w fun e w' => e = .returned (.bool (pReg r has bare)) ∧ w = w' := by
  cases has with
  | false =>
    rw [show pReg r false bare = decide (r = 0) from rfl]
    by_cases h : r = 0
    · rw [show decide (r = 0) = true by simp [h]]
      go_enter Tryz.func99, Tryz.ntmps99
      go_wp2
      go_ret
      exact ⟨rfl, rfl⟩
    · rw [show decide (r = 0) = false by simp [h]]
      have h' : (r == 0) = false := by simp [h]
      clear h
      go_enter Tryz.func99, Tryz.ntmps99
      go_wp2
      go_ret
      exact ⟨rfl, rfl⟩
  | true =>
    rw [show pReg r true bare = (regB r || (decide (r = -1) && bare)) from rfl]
    by_cases h1 : r = -1
    · have hr : (regB r || (decide (r = -1) && bare)) = bare := by rw [h1]; simp [regB]
      rw [hr]
      subst h1
      go_enter Tryz.func99, Tryz.ntmps99
      go_wp2
      go_ret
      exact ⟨rfl, rfl⟩
    · have hr : (regB r || (decide (r = -1) && bare)) = regB r := by simp [h1]
      rw [hr]
      by_cases h0 : 0 ≤ r
      · by_cases h32 : r < 32
        · rw [show regB r = true by simp [regB, h0, h32]]
          go_enter Tryz.func99, Tryz.ntmps99
          go_wp2
          go_ret
          exact ⟨rfl, rfl⟩
        · rw [show regB r = false by simp [regB, h32]]
          go_enter Tryz.func99, Tryz.ntmps99
          go_wp2
          go_ret
          exact ⟨rfl, rfl⟩
      · rw [show regB r = false by simp [regB, h0]]
        go_enter Tryz.func99, Tryz.ntmps99
        go_wp2
        go_ret
        exact ⟨rfl, rfl⟩

section
variable (op a b c v m wh : Int)
/-- An instruction, as a call gets it. -/
abbrev insV : Value := .agg #[.int .i64 op, .int .i64 a, .int .i64 b, .int .i64 c, .int .u64 v, .int .i64 m, .int .i64 wh]
theorem below_alloc1 (w : World) (o : Obj) : Below w.heap.size w (w.alloc o) := (Below.refl _ _).alloc (Nat.le_refl _) _
theorem below_alloc2 (w : World) (o o' : Obj) : Below w.heap.size w ((w.alloc o).alloc o') := ((Below.refl _ _).alloc (Nat.le_refl _) _).alloc (by simp) _

set_option maxHeartbeats 1000000 in
theorem mayStand_any (lib : Bool) (w : World) : Calls Tryz.prog 80 #[insV op a b c v m wh, .bool lib] w fun e w' => e = .returned (.bool (pSide ⟨op, a, b, c, v, m, wh⟩ lib)) ∧ Below w.heap.size w w' := by
  unfold pSide
  cases lib with
  | true =>
    by_cases h : op = 22
    · rw [show (if true = true then !decide (op = 22) else decide (op ≤ 22) && decide (m = 0)) = false by simp [h]]
      go_enter Tryz.func80, Tryz.ntmps80
      go_wp2
      go_ret
      exact ⟨rfl, below_alloc1 _ _⟩
    · rw [show (if true = true then !decide (op = 22) else decide (op ≤ 22) && decide (m = 0)) = true by simp [h]]
      have h' : (op != 22) = true := by simp [h]
      clear h
      go_enter Tryz.func80, Tryz.ntmps80
      go_wp2
      go_ret
      exact ⟨rfl, below_alloc1 _ _⟩
  | false =>
    by_cases h : op ≤ 22
    · by_cases h0 : m = 0
      · rw [show (if false = true then !decide (op = 22) else decide (op ≤ 22) && decide (m = 0)) = true by simp [h, h0]]
        go_enter Tryz.func80, Tryz.ntmps80
        go_wp2
        go_ret
        exact ⟨rfl, below_alloc1 _ _⟩
      · rw [show (if false = true then !decide (op = 22) else decide (op ≤ 22) && decide (m = 0)) = false by simp [h0]]
        have h' : (m == 0) = false := by simp [h0]
        clear h0
        go_enter Tryz.func80, Tryz.ntmps80
        go_wp2
        go_ret
        exact ⟨rfl, below_alloc1 _ _⟩
    · rw [show (if false = true then !decide (op = 22) else decide (op ≤ 22) && decide (m = 0)) = false by simp [h]]
      go_enter Tryz.func80, Tryz.ntmps80
      go_wp2
      go_ret
      exact ⟨rfl, below_alloc1 _ _⟩

variable (A B C NoB NoC : Bool) (vk : Int)
abbrev rowV : Value := .agg #[.bool A, .bool B, .bool C, .bool NoB, .bool NoC, .int .i64 vk]

set_option maxHeartbeats 1000000 in
theorem hasRegisters_any (w : World) : Calls Tryz.prog 81 #[rowV A B C NoB NoC vk, insV op a b c v m wh] w fun e w' =>
    e = .returned (.bool (pReg a A false && pReg b B NoB && pReg c C NoC)) ∧ Below w.heap.size w w' := by
  have IR := Lib.hid isRegister_any
  obtain ⟨q1, h1⟩ : ∃ q, q = pReg a A false := ⟨_, rfl⟩
  obtain ⟨q2, h2⟩ : ∃ q, q = pReg b B NoB := ⟨_, rfl⟩
  obtain ⟨q3, h3⟩ : ∃ q, q = pReg c C NoC := ⟨_, rfl⟩
  have C1 := Lib.hid (fun W => isRegister_any a A false W)
  have C2 := Lib.hid (fun W => isRegister_any b B NoB W)
  have C3 := Lib.hid (fun W => isRegister_any c C NoC W)
  rw [← h1] at C1 ⊢
  rw [← h2] at C2 ⊢
  rw [← h3] at C3 ⊢
  clear h1 h2 h3 IR
  cases q1 <;> cases q2 <;> cases q3
  all_goals
    go_enter Tryz.func81, Tryz.ntmps81
    go_wp2_with (go_at_call 99; (first | (with_reducible refine (C1.out _).mono ?_) | (with_reducible refine (C2.out _).mono ?_) | (with_reducible refine (C3.out _).mono ?_)); rintro e w' ⟨rfl, rfl⟩)
    go_ret
    exact ⟨rfl, below_alloc2 _ _ _⟩

set_option maxHeartbeats 1000000 in
theorem hasNumber_any (n : Int) (hn : 1 ≤ n) (hn1 : n ≤ 9223372036854775807) (hk : vk = 0 ∨ vk = 1 ∨ vk = 2 ∨ vk = 3 ∨ vk = 4) (w : World) : Calls Tryz.prog 82 #[rowV A B C NoB NoC vk, insV op a b c v m wh, .int .i64 n] w fun e w' =>
    e = .returned (.bool (pNum vk ⟨op, a, b, c, v, m, wh⟩ n)) ∧ Below w.heap.size w w' := by
  unfold pNum pMost
  have w1 : IntKind.i64.wrap (n - 1) = n - 1 := by rw [IntKind.wrap_i64]; omega
  have w2 : IntKind.u64.wrap (n - 1) = n - 1 := by rw [IntKind.wrap_u64]; omega
  clear hn hn1
  rcases hk with rfl | rfl | rfl | rfl | rfl
  · go_enter Tryz.func82, Tryz.ntmps82
    go_wp2
    go_ret
    exact ⟨by simp, below_alloc2 _ _ _⟩
  · by_cases hb : b = -1
    · subst hb
      go_enter Tryz.func82, Tryz.ntmps82
      go_wp2
      go_ret
      exact ⟨by simp, below_alloc2 _ _ _⟩
    · have hb' : (b != -1) = true := by simp [hb]
      by_cases hc : c = -1
      · subst hc
        go_enter Tryz.func82, Tryz.ntmps82
        go_wp2
        go_ret
        exact ⟨by simp, below_alloc2 _ _ _⟩
      · have hc' : (c != -1) = true := by simp [hc]
        go_enter Tryz.func82, Tryz.ntmps82
        go_wp2
        go_ret
        exact ⟨by simp [*], below_alloc2 _ _ _⟩
  · go_enter Tryz.func82, Tryz.ntmps82
    go_wp2
    go_ret
    exact ⟨by simp, below_alloc2 _ _ _⟩
  · go_enter Tryz.func82, Tryz.ntmps82
    go_wp2
    go_ret
    exact ⟨by simp, below_alloc2 _ _ _⟩
  · go_enter Tryz.func82, Tryz.ntmps82
    go_wp2
    go_ret
    exact ⟨by simp, below_alloc2 _ _ _⟩

set_option maxHeartbeats 1000000 in
theorem hasMark_any (s : Shp) (hA : s.A = A) (w : World) : Calls Tryz.prog 83 #[rowV A B C NoB NoC vk, insV op a b c v m wh] w fun e w' =>
    e = .returned (.bool (pMark s ⟨op, a, b, c, v, m, wh⟩)) ∧ Below w.heap.size w w' := by
  unfold pMark
  rw [hA]
  clear hA
  obtain ⟨R, hR⟩ : ∃ R, R = (decide (0 ≤ m) && decide (m ≤ 99)) := ⟨_, rfl⟩
  by_cases h1 : wh = 1 ∨ wh = 2
  · rw [if_pos h1]
    by_cases h0 : m = 0
    · rw [show ((!decide ((⟨op, a, b, c, v, m, wh⟩ : Inst).m = 0) && A) && (decide (0 ≤ (⟨op, a, b, c, v, m, wh⟩ : Inst).m) && decide ((⟨op, a, b, c, v, m, wh⟩ : Inst).m ≤ 99))) = false by simp [h0]]
      subst h0
      clear hR
      rcases h1 with rfl | rfl
      all_goals
        go_enter Tryz.func83, Tryz.ntmps83
        go_wp2
        go_ret
        exact ⟨rfl, below_alloc2 _ _ _⟩
    · have h0' : (m == 0) = false := by simp [h0]
      cases A with
      | false =>
        rw [show ((!decide ((⟨op, a, b, c, v, m, wh⟩ : Inst).m = 0) && false) && (decide (0 ≤ (⟨op, a, b, c, v, m, wh⟩ : Inst).m) && decide ((⟨op, a, b, c, v, m, wh⟩ : Inst).m ≤ 99))) = false by simp]
        clear hR
        rcases h1 with rfl | rfl
        all_goals
          go_enter Tryz.func83, Tryz.ntmps83
          go_wp2
          go_ret
          exact ⟨rfl, below_alloc2 _ _ _⟩
      | true =>
        rw [show ((!decide ((⟨op, a, b, c, v, m, wh⟩ : Inst).m = 0) && true) && (decide (0 ≤ (⟨op, a, b, c, v, m, wh⟩ : Inst).m) && decide ((⟨op, a, b, c, v, m, wh⟩ : Inst).m ≤ 99))) = R by simp [h0, hR]]
        by_cases hp : 0 ≤ m
        · by_cases hq : m ≤ 99
          · rw [show R = true by simp [hR, hp, hq]]
            clear hR
            rcases h1 with rfl | rfl
            all_goals
              go_enter Tryz.func83, Tryz.ntmps83
              go_wp2
              go_ret
              exact ⟨rfl, below_alloc2 _ _ _⟩
          · rw [show R = false by simp [hR, hq]]
            clear hR
            rcases h1 with rfl | rfl
            all_goals
              go_enter Tryz.func83, Tryz.ntmps83
              go_wp2
              go_ret
              exact ⟨rfl, below_alloc2 _ _ _⟩
        · rw [show R = false by simp [hR, hp]]
          clear hR
          rcases h1 with rfl | rfl
          all_goals
            go_enter Tryz.func83, Tryz.ntmps83
            go_wp2
            go_ret
            exact ⟨rfl, below_alloc2 _ _ _⟩
  · rw [if_neg h1]
    have n1 : (wh == 1) = false := by simp; omega
    have n2 : (wh == 2) = false := by simp; omega
    by_cases h0 : wh = 0
    · rw [if_pos h0]
      rw [show (decide (0 ≤ (⟨op, a, b, c, v, m, wh⟩ : Inst).m) && decide ((⟨op, a, b, c, v, m, wh⟩ : Inst).m ≤ 99)) = R from hR.symm]
      subst h0
      clear n1 n2 h1
      by_cases hp : 0 ≤ m
      · by_cases hq : m ≤ 99
        · rw [show R = true by simp [hR, hp, hq]]
          clear hR
          go_enter Tryz.func83, Tryz.ntmps83
          go_wp2
          go_ret
          exact ⟨rfl, below_alloc2 _ _ _⟩
        · rw [show R = false by simp [hR, hq]]
          clear hR
          go_enter Tryz.func83, Tryz.ntmps83
          go_wp2
          go_ret
          exact ⟨rfl, below_alloc2 _ _ _⟩
      · rw [show R = false by simp [hR, hp]]
        clear hR
        go_enter Tryz.func83, Tryz.ntmps83
        go_wp2
        go_ret
        exact ⟨rfl, below_alloc2 _ _ _⟩
    · rw [if_neg h0]
      have n0 : (wh == 0) = false := by simp [h0]
      clear hR h0 h1
      go_enter Tryz.func83, Tryz.ntmps83
      go_wp2
      go_ret
      exact ⟨rfl, below_alloc2 _ _ _⟩
end
end Go.Proofs.YtneajiglkiffjaaGreatDoor
