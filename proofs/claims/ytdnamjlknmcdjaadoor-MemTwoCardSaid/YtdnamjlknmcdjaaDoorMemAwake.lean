/- Contract of the statements' own example of layer 2 (awake): it answers true; of what was there nothing has turned. No condition. -/
import Derived.Test.YtdnamjlknmcdjaaDoorMemNew
namespace Go.Proofs.YtdnamjlknmcdjaaDoor
open Go.RowKit
set_option linter.unusedVariables false

/-- The example's memory: cells 3 and 4 are narrow; cell 4 holds h; n accesses. -/
def Ak (h n : Int) : Cells := { ws := [0, 0, 0, 32, 32, 0, 0, 0, 0], hs := [0, 0, 0, 0, h, 0, 0, 0, 0], n := n }
theorem ak_width (h n : Int) : widthAt (Ak h n).ws 4 = 32 := by kernel_rfl
theorem ak_held (h n : Int) : (Ak h n).hs.getD 4 0 = h := by kernel_rfl
theorem ak_good (h n : Int) (h0 : 0 ≤ h) (h1 : h ≤ 4294967295) : Good (Ak h n) := by
  have g := (Good.fresh 9 (by omega)).fill (a := 3) (c := 2) (N := n) (by simp) (Or.inr (Or.inl (rfl : (32 : Int) = 32)))
  have e : ({ ws := fillIn 32 (List.replicate 9 0) 3 2, hs := fillIn 0 (List.replicate 9 0) 3 2, n := n } : Cells) = Ak 0 n := by kernel_rfl
  have g' : Good (Ak 0 n) := by rw [← e]; exact g
  have := g'.acc (i := 4) (by simp [Ak]) (y := h) (N := n) h0 (by omega) (by rw [ak_width, cut32]; omega)
  exact this
theorem ak_map {W : World} {b bc : Nat} (h : MemAt W b bc { ws := List.replicate 9 0, hs := List.replicate 9 0, n := 0 } 0) :
    Calls Tryd.prog 17 #[.pointer (some ⟨b, 0, none⟩), .int .i64 3, .int .i64 2, .int .i64 32] W fun e w' => e = .returned .nilIface ∧ MemAt w' b bc (Ak 0 0) 2 ∧ Only [b, bc] W w' := by
  have := memMap_done h (by simp) 3 2 32 (by omega) (by simp) (Or.inr rfl) (by kernel_rfl) (by omega) (by omega)
  exact this
theorem ak_store {W : World} {b bc : Nat} (h : MemAt W b bc (Ak 0 0) 2) :
    Calls Tryd.prog 22 #[.pointer (some ⟨b, 0, none⟩), .int .u64 4, .int .u64 4294967301] W fun e w' => e = .returned .nilIface ∧ MemAt w' b bc (Ak 5 1) 2 ∧ Only [b, bc] W w' := by
  have := memStore h (ak_good 0 0 (by omega) (by omega)) (by simp [Ak]) (by simp [Ak]) 4 4294967301 (by omega) (by omega) (by rw [ak_width]; omega)
  rw [ak_width, show cut 32 4294967301 = 5 by kernel_rfl] at this
  exact this
theorem ak_load {W : World} {b bc : Nat} (h : MemAt W b bc (Ak 5 1) 2) :
    Calls Tryd.prog 21 #[.pointer (some ⟨b, 0, none⟩), .int .u64 4] W fun e w' => e = .returned (.tuple #[.int .u64 5, .nilIface]) ∧ MemAt w' b bc (Ak 5 2) 2 ∧ Only [b, bc] W w' := by
  have := memLoad h (ak_good 5 1 (by omega) (by omega)) (by simp [Ak]) (by simp [Ak]) 4 (by rw [ak_width]; omega)
  rw [ak_held] at this
  exact this
theorem ak_cas1 {W : World} {b bc : Nat} (h : MemAt W b bc (Ak 5 2) 2) :
    Calls Tryd.prog 29 #[.pointer (some ⟨b, 0, none⟩), .int .u64 4, .int .u64 5, .int .u64 9] W fun e w' => e = .returned (.tuple #[.int .u64 5, .nilIface]) ∧ MemAt w' b bc (Ak 9 3) 2 ∧ Only [b, bc] W w' := by
  have := memCas h (ak_good 5 2 (by omega) (by omega)) (by simp [Ak]) (by simp [Ak]) 4 5 (by omega) (by omega) 9 (by omega) (by omega) (by rw [ak_width]; omega)
  rw [ak_held, ak_width, show casVal 32 5 5 9 = 9 by kernel_rfl] at this
  unfold AccPost at this
  rw [ak_held] at this
  exact this
theorem ak_cas2 {W : World} {b bc : Nat} (h : MemAt W b bc (Ak 9 3) 2) :
    Calls Tryd.prog 29 #[.pointer (some ⟨b, 0, none⟩), .int .u64 4, .int .u64 5, .int .u64 1] W fun e w' => e = .returned (.tuple #[.int .u64 9, .nilIface]) ∧ MemAt w' b bc (Ak 9 4) 2 ∧ Only [b, bc] W w' := by
  have := memCas h (ak_good 9 3 (by omega) (by omega)) (by simp [Ak]) (by simp [Ak]) 4 5 (by omega) (by omega) 1 (by omega) (by omega) (by rw [ak_width]; omega)
  rw [ak_held, ak_width, show casVal 32 9 5 1 = 9 by kernel_rfl] at this
  unfold AccPost at this
  rw [ak_held] at this
  exact this

set_option maxHeartbeats 1000000 in
theorem awake_any (w : World) : Calls Tryd.prog 12 #[] w fun e w' => e = .returned (.bool true) ∧ Below w.heap.size w w' := by
  have NW := Lib.hid (memNew 9 (by omega) (by omega) w)
  go_enter Tryd.func12, Tryd.ntmps12
  go_wp2_with fail
  go_at_call 8
  refine NW.out.mono ?_
  rintro e w1 ⟨b, bc, rfl, hm, hb, hb1, hb2⟩
  have M := Lib.hid hm
  clear hm
  go_wp2_with fail
  go_at_call 17
  refine (ak_map M.out).mono ?_
  rintro e w2 ⟨rfl, hm, ho⟩
  have M1 := Lib.hid hm
  have O := Lib.hid ho
  clear hm M ho
  go_wp2_with fail
  go_at_call 22
  refine (ak_store M1.out).mono ?_
  rintro e w3 ⟨rfl, hm, ho⟩
  have M2 := Lib.hid hm
  have O1 := Lib.hid (O.out.trans ho)
  clear hm M1 ho O
  go_wp2_with fail
  go_at_call 21
  refine (ak_load M2.out).mono ?_
  rintro e w4 ⟨rfl, hm, ho⟩
  have M3 := Lib.hid hm
  have O2 := Lib.hid (O1.out.trans ho)
  clear hm M2 ho O1
  go_wp2_with fail
  go_at_call 29
  refine (ak_cas1 M3.out).mono ?_
  rintro e w5 ⟨rfl, hm, ho⟩
  have M4 := Lib.hid hm
  have O3 := Lib.hid (O2.out.trans ho)
  clear hm M3 ho O2
  go_wp2_with fail
  go_at_call 29
  refine (ak_cas2 M4.out).mono ?_
  rintro e w6 ⟨rfl, hm, ho⟩
  have M5 := Lib.hid hm
  have O4 := Lib.hid (O3.out.trans ho)
  clear hm M4 ho O3
  have CN := Lib.hid (show Calls Tryd.prog 16 #[.pointer (some ⟨b, 0, none⟩)] w6 fun e w' => e = .returned (.int .i64 4) ∧ w6 = w' from memCount M5.out)
  go_wp2_with (go_at_call 16; refine CN.out.mono ?_; rintro e w' ⟨rfl, rfl⟩)
  go_ret
  exact ⟨rfl, hb.trans (O4.out.below (by simp; omega) hb.size)⟩
end Go.Proofs.YtdnamjlknmcdjaaDoor
