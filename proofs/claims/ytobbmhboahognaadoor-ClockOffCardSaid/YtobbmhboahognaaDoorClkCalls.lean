/- The clock's calls New, Now, Armed and Arm (layer 8), where nothing goes wrong. The conditions: it was not used too often. -/
import Derived.Test.YtobbmhboahognaaDoorClkState
import Derived.Deep.RegionLaw
import Derived.Deep.RegionHeld3
import Derived.BigQuiet
namespace Go.Proofs.YtobbmhboahognaaDoor
open Go.RowKit
set_option linter.unusedVariables false

set_option maxHeartbeats 1000000 in
set_option maxRecDepth 100000 in
theorem clkNow {W : World} {F : List Nat} {b : Nat} {now : Int} {S : List Itm} {last m : Nat} (h : ClockAt W F b now S last m) :
    Calls Tryd.prog 31 #[.pointer (some ⟨b, 0, none⟩)] W fun e w' => e = .returned (.int .u64 now) ∧ W = w' := by
  obtain ⟨qb, mb, N, mc, v, c, cc, k, rfl, hP, _⟩ := h
  have c0 := hP.c0
  clear hP
  go_enter Tryd.func31, Tryd.ntmps31
  go_wp2
  go_ret
  exact ⟨rfl, rfl⟩
set_option maxHeartbeats 1000000 in
set_option maxRecDepth 100000 in
theorem clkArmed {W : World} {F : List Nat} {b : Nat} {now : Int} {S : List Itm} {last m : Nat} (h : ClockAt W F b now S last m) :
    Calls Tryd.prog 32 #[.pointer (some ⟨b, 0, none⟩)] W fun e w' => e = .returned (.int .i64 S.length) ∧ W = w' := by
  obtain ⟨qb, mb, N, mc, v, c, cc, k, rfl, hP, _⟩ := h
  have c2 := hP.c2
  have HL := Lib.hid hP.al
  clear hP
  go_enter Tryd.func32, Tryd.ntmps32
  go_wp2_with (at_len; refine wpList_len_al rfl _ rfl rfl HL.out ?_)
  go_ret
  exact ⟨rfl, rfl⟩
set_option maxHeartbeats 1000000 in
set_option maxRecDepth 100000 in
theorem clkNew (w0 : World) (B0 : Nat) (W : World) (hb : Below B0 w0 W) (hB : B0 ≤ W.heap.size) : Calls Tryd.prog 21 #[] W fun e w' => ∃ b F, e = .returned (.pointer (some ⟨b, 0, none⟩)) ∧ ClkSince w0 B0 w' F b 0 [] 0 0 := by
  have NW := Lib.hid (newS W)
  have hmm := @run_makeMap Tryd.prog
  go_enter Tryd.func21, Tryd.ntmps21
  go_wp2_with fail
  go_at_call 54
  refine NW.out.mono ?_
  rintro e w1 ⟨rfl, h1, hb1⟩
  have hs1 := hb1.size
  have hlt := h1.lts
  have FIN := Lib.hid (show ClkSince w0 B0 ((w1.alloc (.map #[] 0)).alloc (.cells #[.int .u64 0, .pointer (some ⟨W.heap.size + 1, 0, none⟩), .map (some w1.heap.size)] 122)) (clkF (w1.heap.size + 1) (W.heap.size + 1) W.heap.size w1.heap.size (.slice none 0 0)) (w1.heap.size + 1) 0 [] 0 0 by
    have ha : Below w1.heap.size w1 ((w1.alloc (.map #[] 0)).alloc (.cells #[.int .u64 0, .pointer (some ⟨W.heap.size + 1, 0, none⟩), .map (some w1.heap.size)] 122)) := ((Below.refl _ _).alloc (Nat.le_refl _) _).alloc (by simp) _
    have H1 : Row ((w1.alloc (.map #[] 0)).alloc (.cells #[.int .u64 0, .pointer (some ⟨W.heap.size + 1, 0, none⟩), .map (some w1.heap.size)] 122)) (w1.heap.size + 1) [.int .u64 0, .pointer (some ⟨W.heap.size + 1, 0, none⟩), .map (some w1.heap.size)] := by
      have := Row.new (w1.alloc (.map #[] 0)) [.int .u64 0, .pointer (some ⟨W.heap.size + 1, 0, none⟩), .map (some w1.heap.size)] 122
      rwa [World.size_alloc] at this
    have H2 : AlIs ((w1.alloc (.map #[] 0)).alloc (.cells #[.int .u64 0, .pointer (some ⟨W.heap.size + 1, 0, none⟩), .map (some w1.heap.size)] 122)) w1.heap.size 0 0 (fOf []) := (AlIs.made w1).block (Below.heap_alloc _ _ _ (by simp))
    refine ⟨⟨W.heap.size + 1, W.heap.size, W.heap.size + 2, w1.heap.size, .slice none 0 0, 0, 0, 0, rfl, ⟨H1, h1.below ha, H2, ⟨by omega, by omega, by omega, by omega, by omega⟩, fun k hk => by cases hk⟩, List.Pairwise.nil, by simp, by simp, by simp, by simp, by simp⟩, ?_, (hb.trans (hb1.mono hB)).trans (ha.mono (by omega)), by have := ha.size; omega⟩
    intro k hk
    simp [clkF] at hk
    rcases hk with rfl | rfl | rfl | rfl | hk
    · omega
    · omega
    · omega
    · omega
    · cases hk)
  clear h1 hb1
  go_wp2_with fail
  go_ret
  exact ⟨_, _, rfl, FIN.out⟩
end Go.Proofs.YtobbmhboahognaaDoor
