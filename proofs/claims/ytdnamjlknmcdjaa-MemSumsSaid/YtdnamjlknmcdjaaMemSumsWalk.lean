/- The walk of MemSums: it returns true; of what was there nothing has turned. -/
import Derived.Test.YtdnamjlknmcdjaaMemAwake
import Derived.Test.YtdnamjlknmcdjaaLawClose
namespace Go.Proofs.Ytdnamjlknmcdjaa
open Go.RowKit
set_option linter.unusedVariables false

/-- One cell of width k holds s; n accesses. -/
def Sm (k s n : Int) : Cells := { ws := [0, k, 0, 0], hs := [0, s, 0, 0], n := n }
theorem sm_good (k s n : Int) (hk : k = 32 ∨ k = 64) (h0 : 0 ≤ s) (h1 : s ≤ 18446744073709551615) (hc : cut k s = s) : Good (Sm k s n) := by
  have g := (Good.fresh 4 (by omega)).fill (a := 1) (c := 1) (N := n) (by simp) (Or.inr hk)
  have := g.acc (i := 1) (by simp [fillIn_length]) (y := s) (N := n) h0 h1 (by show cut (widthAt (fillIn k (List.replicate 4 0) 1 1) 1) s = s; exact hc)
  exact this
/-- The sum in words of width k. -/
def sumK (k : Int) (zs : List Int) : Int := zs.foldl (fun s z => summ k s z) 0
theorem sumK_range (k : Int) (zs : List Int) : 0 ≤ sumK k zs ∧ sumK k zs ≤ 18446744073709551615 ∧ cut k (sumK k zs) = sumK k zs := by
  unfold sumK
  rcases List.eq_nil_or_concat zs with rfl | ⟨l, z, rfl⟩
  · exact ⟨by simp, by simp, by simp [cut_zero]⟩
  · rw [List.concat_eq_append, List.foldl_append]
    exact summ_good _ _ _
theorem sumK_take (k : Int) (zs : List Int) (i : Nat) (h : i < zs.length) : sumK k (zs.take (i + 1)) = summ k (sumK k (zs.take i)) (zs.getD i 0) := by
  unfold sumK
  rw [List.take_succ_eq_append_getElem h, List.foldl_append]
  simp [h]
theorem summ64 (s z : Int) : summ 64 s z = (s + z) % 18446744073709551616 := by simp [summ, cut]
theorem summ32 (s z : Int) : summ 32 s z = (s + z) % 18446744073709551616 % 4294967296 := by
  simp only [summ, cut32]; omega
theorem sm_map {W : World} {b bc : Nat} (k : Int) (hk : k = 32 ∨ k = 64) (h : MemAt W b bc { ws := List.replicate 4 0, hs := List.replicate 4 0, n := 0 } 0) :
    Calls Try.prog 15 #[.pointer (some ⟨b, 0, none⟩), .int .i64 1, .int .i64 1, .int .i64 k] W fun e w' => e = .returned .nilIface ∧ MemAt w' b bc (Sm k 0 0) 1 ∧ Only [b, bc] W w' := by
  have := memMap_done h (by simp) 1 1 k (by omega) (by simp) (Or.symm hk) (by kernel_rfl) (by omega) (by omega)
  exact this
theorem sm_add {W : World} {b bc : Nat} (k s n v : Int) (hk : k = 32 ∨ k = 64) (h0 : 0 ≤ s) (h1 : s ≤ 18446744073709551615) (hc : cut k s = s) (hn : 0 ≤ n) (hn1 : n ≤ 1000) (v0 : 0 ≤ v) (v1 : v ≤ 18446744073709551615) (h : MemAt W b bc (Sm k s n) 1) :
    Calls Try.prog 11 #[.pointer (some ⟨b, 0, none⟩), .int .u64 1, .int .u64 v] W fun e w' => e = .returned (.tuple #[.int .u64 s, .nilIface]) ∧ MemAt w' b bc (Sm k (summ k s v) (n + 1)) 1 ∧ Only [b, bc] W w' := by
  have := memAdd h (sm_good k s n hk h0 h1 hc) hn (by show n < _; omega) 1 v v0 v1 (by show (k : Int) ≠ 0; omega)
  exact this
theorem sm_load {W : World} {b bc : Nat} (k s n : Int) (hk : k = 32 ∨ k = 64) (h0 : 0 ≤ s) (h1 : s ≤ 18446744073709551615) (hc : cut k s = s) (hn : 0 ≤ n) (hn1 : n ≤ 1000) (h : MemAt W b bc (Sm k s n) 1) :
    Calls Try.prog 9 #[.pointer (some ⟨b, 0, none⟩), .int .u64 1] W fun e w' => e = .returned (.tuple #[.int .u64 s, .nilIface]) ∧ MemAt w' b bc (Sm k s (n + 1)) 1 ∧ Only [b, bc] W w' := by
  have := memLoad h (sm_good k s n hk h0 h1 hc) hn (by show n < _; omega) 1 (by show (k : Int) ≠ 0; omega)
  exact this

set_option maxHeartbeats 4000000 in
set_option maxRecDepth 100000 in
theorem memSums_long (nb : Bool) (w : World) (A : Option Addr) (cap : Nat) (zs : List Int) (hl : zs.length ≤ maxLen) (h200 : 200 < zs.length) :
    Calls Try.prog 4 #[.slice A zs.length cap, .bool nb] w fun e w' => e = .returned (.bool true) ∧ Below w.heap.size w w' := by
  have NW := Lib.hid (memNew 4 (by omega) (by omega) w)
  have AW := Lib.hid awake_any
  obtain ⟨L, hL⟩ : ∃ L, L = zs.length := ⟨_, rfl⟩
  rw [← hL] at hl h200 ⊢
  unfold maxLen at hl
  clear hL
  go_enter Try.func4, Try.ntmps4
  go_wp2_with fail
  go_at_call 14
  refine NW.out.mono ?_
  rintro e w1 ⟨b, bc, rfl, hm, hb, hb1, hb2⟩
  clear hm
  go_wp2_with fail
  go_at_call 13
  refine (AW.out _).mono ?_
  rintro e w4 ⟨rfl, hb6⟩
  go_wp2_with fail
  go_ret
  exact ⟨rfl, hb.trans (hb6.mono hb.size)⟩

set_option maxHeartbeats 4000000 in
set_option maxRecDepth 100000 in
theorem memSums_32 (w : World) (A : Option Addr) (cap : Nat) (zs : List Int) (h200 : zs.length ≤ 200) (hs : IntsIn w .u64 A zs) (hw : ∀ z ∈ zs, (Lit.int .u64 z).wf = true) :
    Calls Try.prog 4 #[.slice A zs.length cap, .bool true] w fun e w' => e = .returned (.bool true) ∧ Below w.heap.size w w' := by
  have NW := Lib.hid (memNew 4 (by omega) (by omega) w)
  have AW := Lib.hid awake_any
  have S := Lib.hid hs
  have U := Lib.hid (fun i h => u64_mem hw i h)
  have TK := Lib.hid (sumK_take 32 zs)
  obtain ⟨L, hL⟩ : ∃ L, L = zs.length := ⟨_, rfl⟩
  rw [← hL] at h200 ⊢
  have HL := Lib.hid hL
  clear hL hs hw
  go_enter Try.func4, Try.ntmps4
  go_wp2_with fail
  go_at_call 14
  refine NW.out.mono ?_
  rintro e w1 ⟨b, bc, rfl, hm, hb, hb1, hb2⟩
  have M := Lib.hid hm
  clear hm
  go_wp2_with fail
  go_at_call 15
  refine (sm_map 32 (by omega) M.out).mono ?_
  rintro e w2 ⟨rfl, hm, ho⟩
  have M2 := Lib.hid hm
  have hbo : Below w.heap.size w w2 := hb.trans (ho.below (by simp; omega) hb.size)
  clear hm M ho
  go_wp2_with fail
  go_loopw [9, 10] (fun vs vi wr => ∃ i : Nat, i ≤ L ∧ vi = .int .i64 i ∧ vs = .int .u64 (sumK 32 (zs.take i)) ∧ MemAt wr b bc (Sm 32 (sumK 32 (zs.take i)) i) 1 ∧ Below w.heap.size w wr) (fun _ vi _ => L - (intOf vi).toNat)
  case atStart => exact ⟨0, by omega, rfl, rfl, M2.out, hbo⟩
  case round =>
    obtain ⟨i, hi, rfl, rfl, hm, hbr⟩ := hrel
    have r := sumK_range 32 (zs.take i)
    by_cases hlt : i < L
    · have hlz : i < zs.length := by rw [← HL.out]; exact hlt
      obtain ⟨a, rfl, hal, hac⟩ := S.out i hlz
      have hz := U.out i hlz
      have tk := TK.out i hlz
      have hac' : wr.cell? (a.add i) = some (.int .u64 (zs.getD i 0)) := by rw [hbr.cell (p := a.add i) (by rw [ChangeShapes.block_add]; exact hal)]; exact hac
      obtain ⟨s, es⟩ : ∃ s, s = sumK 32 (zs.take i) := ⟨_, rfl⟩
      obtain ⟨z, ez⟩ : ∃ z, z = zs.getD i 0 := ⟨_, rfl⟩
      rw [← es] at hm r tk ⊢
      rw [← ez] at hz tk hac'
      obtain ⟨r0, r1, rc⟩ := r
      obtain ⟨z0, z1⟩ := hz
      have AD := Lib.hid (sm_add 32 s i z (by omega) r0 r1 rc (by omega) (by omega) z0 z1 hm)
      have TK1 := Lib.hid tk
      clear es ez tk rc hm hac
      go_wp2_with fail
      go_at_call 11
      refine AD.out.mono ?_
      rintro e w3 ⟨rfl, hm3, ho3⟩
      have M3 := Lib.hid hm3
      have hac3 : w3.cell? (a.add i) = some (.int .u64 z) := by
        rw [World.cell?_of_block (ho3.block (a.add i).block (by rw [ChangeShapes.block_add]; exact Nat.lt_of_lt_of_le hal hbr.size) (by rw [ChangeShapes.block_add]; simp; omega))]; exact hac'
      have hb3 : Below w.heap.size w w3 := hbr.trans (ho3.below (by simp; omega) hbr.size)
      clear hm3 hac' ho3
      go_wp2_with fail
      go_roundw
      case rel => exact ⟨i + 1, by omega, by go_num, by rw [TK1.out, summ32, IntKind.wrap_u64, Int.tmod_eq_emod_of_nonneg (by omega)], by rw [TK1.out]; exact M3.out, hb3⟩
      case measure => simp [intOf]; omega
    · obtain rfl : i = L := by omega
      have htk : zs.take i = zs := List.take_of_length_le (by rw [← HL.out]; omega)
      rw [htk] at hm r ⊢
      obtain ⟨s, es⟩ : ∃ s, s = sumK 32 zs := ⟨_, rfl⟩
      rw [← es] at hm r ⊢
      obtain ⟨r0, r1, rc⟩ := r
      have LD := Lib.hid (sm_load 32 s i (by omega) r0 r1 rc (by omega) (by omega) hm)
      clear es rc hm htk
      go_wp2_with fail
      go_at_call 9
      refine LD.out.mono ?_
      rintro e w3 ⟨rfl, hm3, ho3⟩
      have CN := Lib.hid (show Calls Try.prog 16 #[.pointer (some ⟨b, 0, none⟩)] w3 fun e w' => e = .returned (.int .i64 ((i : Int) + 1)) ∧ w3 = w' from memCount hm3)
      have hb3 : Below w.heap.size w w3 := hbr.trans (ho3.below (by simp; omega) hbr.size)
      clear hm3 ho3
      go_wp2_with fail
      go_at_call 16
      refine CN.out.mono ?_
      rintro e w' ⟨rfl, rfl⟩
      go_wp2_with fail
      go_at_call 13
      refine (AW.out _).mono ?_
      rintro e w4 ⟨rfl, hb6⟩
      go_wp2_with fail
      go_ret
      exact ⟨rfl, hb3.trans (hb6.mono hb3.size)⟩

set_option maxHeartbeats 4000000 in
set_option maxRecDepth 100000 in
theorem memSums_64 (w : World) (A : Option Addr) (cap : Nat) (zs : List Int) (h200 : zs.length ≤ 200) (hs : IntsIn w .u64 A zs) (hw : ∀ z ∈ zs, (Lit.int .u64 z).wf = true) :
    Calls Try.prog 4 #[.slice A zs.length cap, .bool false] w fun e w' => e = .returned (.bool true) ∧ Below w.heap.size w w' := by
  have NW := Lib.hid (memNew 4 (by omega) (by omega) w)
  have AW := Lib.hid awake_any
  have S := Lib.hid hs
  have U := Lib.hid (fun i h => u64_mem hw i h)
  have TK := Lib.hid (sumK_take 64 zs)
  obtain ⟨L, hL⟩ : ∃ L, L = zs.length := ⟨_, rfl⟩
  rw [← hL] at h200 ⊢
  have HL := Lib.hid hL
  clear hL hs hw
  go_enter Try.func4, Try.ntmps4
  go_wp2_with fail
  go_at_call 14
  refine NW.out.mono ?_
  rintro e w1 ⟨b, bc, rfl, hm, hb, hb1, hb2⟩
  have M := Lib.hid hm
  clear hm
  go_wp2_with fail
  go_at_call 15
  refine (sm_map 64 (by omega) M.out).mono ?_
  rintro e w2 ⟨rfl, hm, ho⟩
  have M2 := Lib.hid hm
  have hbo : Below w.heap.size w w2 := hb.trans (ho.below (by simp; omega) hb.size)
  clear hm M ho
  go_wp2_with fail
  go_loopw [9, 10] (fun vs vi wr => ∃ i : Nat, i ≤ L ∧ vi = .int .i64 i ∧ vs = .int .u64 (sumK 64 (zs.take i)) ∧ MemAt wr b bc (Sm 64 (sumK 64 (zs.take i)) i) 1 ∧ Below w.heap.size w wr) (fun _ vi _ => L - (intOf vi).toNat)
  case atStart => exact ⟨0, by omega, rfl, rfl, M2.out, hbo⟩
  case round =>
    obtain ⟨i, hi, rfl, rfl, hm, hbr⟩ := hrel
    have r := sumK_range 64 (zs.take i)
    by_cases hlt : i < L
    · have hlz : i < zs.length := by rw [← HL.out]; exact hlt
      obtain ⟨a, rfl, hal, hac⟩ := S.out i hlz
      have hz := U.out i hlz
      have tk := TK.out i hlz
      have hac' : wr.cell? (a.add i) = some (.int .u64 (zs.getD i 0)) := by rw [hbr.cell (p := a.add i) (by rw [ChangeShapes.block_add]; exact hal)]; exact hac
      obtain ⟨s, es⟩ : ∃ s, s = sumK 64 (zs.take i) := ⟨_, rfl⟩
      obtain ⟨z, ez⟩ : ∃ z, z = zs.getD i 0 := ⟨_, rfl⟩
      rw [← es] at hm r tk ⊢
      rw [← ez] at hz tk hac'
      obtain ⟨r0, r1, rc⟩ := r
      obtain ⟨z0, z1⟩ := hz
      have AD := Lib.hid (sm_add 64 s i z (by omega) r0 r1 rc (by omega) (by omega) z0 z1 hm)
      have TK1 := Lib.hid tk
      clear es ez tk rc hm hac
      go_wp2_with fail
      go_at_call 11
      refine AD.out.mono ?_
      rintro e w3 ⟨rfl, hm3, ho3⟩
      have M3 := Lib.hid hm3
      have hac3 : w3.cell? (a.add i) = some (.int .u64 z) := by
        rw [World.cell?_of_block (ho3.block (a.add i).block (by rw [ChangeShapes.block_add]; exact Nat.lt_of_lt_of_le hal hbr.size) (by rw [ChangeShapes.block_add]; simp; omega))]; exact hac'
      have hb3 : Below w.heap.size w w3 := hbr.trans (ho3.below (by simp; omega) hbr.size)
      clear hm3 hac' ho3
      go_wp2_with fail
      go_roundw
      case rel => exact ⟨i + 1, by omega, by go_num, by rw [TK1.out, summ64, IntKind.wrap_u64], by rw [TK1.out]; exact M3.out, hb3⟩
      case measure => simp [intOf]; omega
    · obtain rfl : i = L := by omega
      have htk : zs.take i = zs := List.take_of_length_le (by rw [← HL.out]; omega)
      rw [htk] at hm r ⊢
      obtain ⟨s, es⟩ : ∃ s, s = sumK 64 zs := ⟨_, rfl⟩
      rw [← es] at hm r ⊢
      obtain ⟨r0, r1, rc⟩ := r
      have LD := Lib.hid (sm_load 64 s i (by omega) r0 r1 rc (by omega) (by omega) hm)
      clear es rc hm htk
      go_wp2_with fail
      go_at_call 9
      refine LD.out.mono ?_
      rintro e w3 ⟨rfl, hm3, ho3⟩
      have CN := Lib.hid (show Calls Try.prog 16 #[.pointer (some ⟨b, 0, none⟩)] w3 fun e w' => e = .returned (.int .i64 ((i : Int) + 1)) ∧ w3 = w' from memCount hm3)
      have hb3 : Below w.heap.size w w3 := hbr.trans (ho3.below (by simp; omega) hbr.size)
      clear hm3 ho3
      go_wp2_with fail
      go_at_call 16
      refine CN.out.mono ?_
      rintro e w' ⟨rfl, rfl⟩
      go_wp2_with fail
      go_at_call 13
      refine (AW.out _).mono ?_
      rintro e w4 ⟨rfl, hb6⟩
      go_wp2_with fail
      go_ret
      exact ⟨rfl, hb3.trans (hb6.mono hb3.size)⟩

theorem memSums_walk (nb : Bool) (w : World) (A : Option Addr) (cap : Nat) (zs : List Int) (hl : zs.length ≤ maxLen) (hs : IntsIn w .u64 A zs) (hw : ∀ z ∈ zs, (Lit.int .u64 z).wf = true) :
    Calls Try.prog 4 #[.slice A zs.length cap, .bool nb] w fun e w' => e = .returned (.bool true) ∧ Below w.heap.size w w' := by
  by_cases h : 200 < zs.length
  · exact memSums_long nb w A cap zs hl h
  · cases nb
    · exact memSums_64 w A cap zs (by omega) hs hw
    · exact memSums_32 w A cap zs (by omega) hs hw
end Go.Proofs.Ytdnamjlknmcdjaa
