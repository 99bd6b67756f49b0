/- The walk of MemWins: it returns true; of what was there nothing has turned. -/
import Derived.Test.YtdnamjlknmcdjaaMemAwake
import Derived.Test.YtdnamjlknmcdjaaLawClose
namespace Go.Proofs.Ytdnamjlknmcdjaa
open Go.RowKit
set_option linter.unusedVariables false

/-- Two wide cells, the first holds s; n accesses. -/
def Wn (s n : Int) : Cells := { ws := [64, 64], hs := [s, 0], n := n }
theorem wn_good (s n : Int) (h0 : 0 ≤ s) (h1 : s ≤ 18446744073709551615) : Good (Wn s n) := by
  have g := (Good.fresh 2 (by omega)).fill (a := 0) (c := 2) (N := n) (by simp) (Or.inr (Or.inr (rfl : (64 : Int) = 64)))
  have := g.acc (i := 0) (by simp [fillIn_length]) (y := s) (N := n) h0 h1 (by show cut (widthAt (fillIn 64 (List.replicate 2 0) 0 2) 0) s = s; exact cut64 s)
  exact this
theorem wn_store {W : World} {b bc : Nat} (v : Int) (v0 : 0 ≤ v) (v1 : v ≤ 18446744073709551615) (h : MemAt W b bc (Wn 0 0) 2) :
    Calls Try.prog 7 #[.pointer (some ⟨b, 0, none⟩), .int .u64 0, .int .u64 v] W fun e w' => e = .returned .nilIface ∧ MemAt w' b bc (Wn v 1) 2 ∧ Only [b, bc] W w' := by
  have := memStore h (wn_good 0 0 (by omega) (by omega)) (by show (0 : Int) ≤ 0; omega) (by show (0 : Int) < _; omega) 0 v v0 v1 (by show (64 : Int) ≠ 0; omega)
  rw [show cut (widthAt (Wn 0 0).ws 0) v = v from cut64 v] at this
  exact this
theorem wn_cas {W : World} {b bc : Nat} (s n old v : Int) (h0 : 0 ≤ s) (h1 : s ≤ 18446744073709551615) (hn : 0 ≤ n) (hn1 : n ≤ 1000) (o0 : 0 ≤ old) (o1 : old ≤ 18446744073709551615) (v0 : 0 ≤ v) (v1 : v ≤ 18446744073709551615) (h : MemAt W b bc (Wn s n) 2) :
    Calls Try.prog 12 #[.pointer (some ⟨b, 0, none⟩), .int .u64 0, .int .u64 old, .int .u64 v] W fun e w' => e = .returned (.tuple #[.int .u64 s, .nilIface]) ∧ MemAt w' b bc (Wn (if s = old then v else s) (n + 1)) 2 ∧ Only [b, bc] W w' := by
  have := memCas h (wn_good s n h0 h1) hn (by show n < _; omega) 0 old o0 o1 v v0 v1 (by show (64 : Int) ≠ 0; omega)
  rw [show casVal (widthAt (Wn s n).ws 0) ((Wn s n).hs.getD 0 0) old v = if s = old then v else s by
    show casVal 64 s old v = _
    unfold casVal; rw [cut64, cut64]] at this
  exact this
theorem wn_load {W : World} {b bc : Nat} (s n : Int) (h0 : 0 ≤ s) (h1 : s ≤ 18446744073709551615) (hn : 0 ≤ n) (hn1 : n ≤ 1000) (h : MemAt W b bc (Wn s n) 2) :
    Calls Try.prog 9 #[.pointer (some ⟨b, 0, none⟩), .int .u64 0] W fun e w' => e = .returned (.tuple #[.int .u64 s, .nilIface]) ∧ MemAt w' b bc (Wn s (n + 1)) 2 ∧ Only [b, bc] W w' := by
  have := memLoad h (wn_good s n h0 h1) hn (by show n < _; omega) 0 (by show (64 : Int) ≠ 0; omega)
  exact this

set_option maxHeartbeats 4000000 in
set_option maxRecDepth 100000 in
theorem memWins_none (a0 : Int) (w : World) (A : Option Addr) (cap : Nat) (zs : List Int) (hl : zs.length ≤ maxLen) (h1 : zs.length = 0) :
    Calls Try.prog 5 #[.int .u64 a0, .slice A zs.length cap] w fun e w' => e = .returned (.bool true) ∧ Below w.heap.size w w' := by
  have NW := Lib.hid (full_any 2 (by omega) (by omega) w)
  have AW := Lib.hid awake_any
  rw [h1]
  clear h1 hl
  go_enter Try.func5, Try.ntmps5
  go_wp2_with fail
  go_at_call 6
  refine NW.out.mono ?_
  rintro e w1 ⟨b, bc, rfl, hm, hb, hb1, hb2⟩
  clear hm
  go_wp2_with fail
  go_at_call 13
  refine (AW.out _).mono ?_
  rintro e w4 ⟨rfl, hb6⟩
  go_wp2_with fail
  go_ret
  exact ⟨rfl, hb.trans (hb6.mono hb.size)⟩

set_option maxHeartbeats 4000000 in
set_option maxRecDepth 100000 in
theorem memWins_long (a0 : Int) (w : World) (A : Option Addr) (cap : Nat) (zs : List Int) (hl : zs.length ≤ maxLen) (h1 : 100 < zs.length) :
    Calls Try.prog 5 #[.int .u64 a0, .slice A zs.length cap] w fun e w' => e = .returned (.bool true) ∧ Below w.heap.size w w' := by
  have NW := Lib.hid (full_any 2 (by omega) (by omega) w)
  have AW := Lib.hid awake_any
  obtain ⟨L, hL⟩ : ∃ L, L = zs.length := ⟨_, rfl⟩
  rw [← hL] at hl h1 ⊢
  unfold maxLen at hl
  clear hL
  go_enter Try.func5, Try.ntmps5
  go_wp2_with fail
  go_at_call 6
  refine NW.out.mono ?_
  rintro e w1 ⟨b, bc, rfl, hm, hb, hb1, hb2⟩
  clear hm
  go_wp2_with fail
  go_at_call 13
  refine (AW.out _).mono ?_
  rintro e w4 ⟨rfl, hb6⟩
  go_wp2_with fail
  go_ret
  exact ⟨rfl, hb.trans (hb6.mono hb.size)⟩

set_option maxHeartbeats 4000000 in
set_option maxRecDepth 100000 in
theorem memWins_same (a0 : Int) (w : World) (A : Option Addr) (cap : Nat) (zs : List Int) (hl : zs.length ≤ maxLen) (h1 : 0 < zs.length) (h2 : zs.length ≤ 100) (hs : IntsIn w .u64 A zs) (he : zs.getD 0 0 = a0) :
    Calls Try.prog 5 #[.int .u64 a0, .slice A zs.length cap] w fun e w' => e = .returned (.bool true) ∧ Below w.heap.size w w' := by
  have NW := Lib.hid (full_any 2 (by omega) (by omega) w)
  have AW := Lib.hid awake_any
  obtain ⟨a, rfl, hal, hac⟩ := hs 0 h1
  have hc1 : w.cell? a = some (.int .u64 (zs.getD 0 0)) := hac
  rw [he] at hac hc1
  obtain ⟨L, hL⟩ : ∃ L, L = zs.length := ⟨_, rfl⟩
  rw [← hL] at h1 h2 ⊢
  clear hL he hl hs hac
  go_enter Try.func5, Try.ntmps5
  go_wp2_with fail
  go_at_call 6
  refine NW.out.mono ?_
  rintro e w1 ⟨b, bc, rfl, hm, hb, hb1, hb2⟩
  clear hm
  have hc2 : w1.cell? a = some (.int .u64 a0) := by rw [hb.cell (p := a) hal]; exact hc1
  clear hc1
  go_wp2_with fail
  go_at_call 13
  refine (AW.out _).mono ?_
  rintro e w4 ⟨rfl, hb6⟩
  go_wp2_with fail
  go_ret
  exact ⟨rfl, hb.trans (hb6.mono hb.size)⟩

set_option maxHeartbeats 4000000 in
set_option maxRecDepth 100000 in
theorem memWins_main (a0 : Int) (g0 : 0 ≤ a0) (g1 : a0 ≤ 18446744073709551615) (w : World) (A : Option Addr) (cap : Nat) (zs : List Int) (h1 : 0 < zs.length) (h2 : zs.length ≤ 100) (hs : IntsIn w .u64 A zs) (hw : ∀ z ∈ zs, (Lit.int .u64 z).wf = true) (he : zs.getD 0 0 ≠ a0) :
    Calls Try.prog 5 #[.int .u64 a0, .slice A zs.length cap] w fun e w' => e = .returned (.bool true) ∧ Below w.heap.size w w' := by
  have NW := Lib.hid (full_any 2 (by omega) (by omega) w)
  have AW := Lib.hid awake_any
  have U := Lib.hid (fun i h => u64_mem hw i h)
  obtain ⟨a, rfl, hal, hac⟩ := hs 0 h1
  have S : Hid (∀ i, i < zs.length → w.cell? (a.add i) = some (.int .u64 (zs.getD i 0))) := fun i hi => by
    obtain ⟨a', e, _, hc⟩ := hs i hi
    cases e; exact hc
  obtain ⟨z0, ez0⟩ : ∃ z, z = zs.getD 0 0 := ⟨_, rfl⟩
  have hr0 := U.out 0 h1
  rw [← ez0] at hac he hr0
  have hc1 : w.cell? a = some (.int .u64 z0) := hac
  have E0 := Lib.hid ez0
  have tne : (z0 == a0) = false := beq_eq_false_iff_ne.2 he
  have HE := Lib.hid he
  obtain ⟨L, hL⟩ : ∃ L, L = zs.length := ⟨_, rfl⟩
  rw [← hL] at h1 h2 ⊢
  have HL := Lib.hid hL
  have tL : ((L : Int) == 0) = false := beq_eq_false_iff_ne.2 (by omega)
  clear hL hs hw ez0 hac he
  obtain ⟨r0, r1⟩ := hr0
  go_enter Try.func5, Try.ntmps5
  go_wp2_with fail
  go_at_call 6
  refine NW.out.mono ?_
  rintro e w1 ⟨b, bc, rfl, hm, hb, hb1, hb2⟩
  have M := Lib.hid (show MemAt w1 b bc (Wn 0 0) 2 from hm)
  have hc2 : w1.cell? a = some (.int .u64 z0) := by rw [hb.cell (p := a) hal]; exact hc1
  clear hm
  go_wp2_with fail
  go_at_call 7
  refine (wn_store a0 g0 g1 M.out).mono ?_
  rintro e w2 ⟨rfl, hm, ho⟩
  have M2 := Lib.hid hm
  have hbo : Below w.heap.size w w2 := hb.trans (ho.below (by simp; omega) hb.size)
  clear hm M ho hc2
  go_wp2_with fail
  go_loopw [6] (fun vi wr => ∃ i : Nat, i ≤ L ∧ vi = .int .i64 i ∧ (∃ s : Int, Hid (s = if i = 0 then a0 else z0) ∧ MemAt wr b bc (Wn s (i + 1)) 2) ∧ Below w.heap.size w wr) (fun vi _ => L - (intOf vi).toNat)
  case atStart => exact ⟨0, by omega, rfl, ⟨a0, Lib.hid (by rw [if_pos rfl]), M2.out⟩, hbo⟩
  case round =>
    obtain ⟨i, hi, rfl, ⟨s, hS, hm⟩, hbr⟩ := hrel
    have hsr : 0 ≤ s ∧ s ≤ 18446744073709551615 := by
      rw [hS.out]; split
      · exact ⟨g0, g1⟩
      · exact ⟨r0, r1⟩
    obtain ⟨s0, s1⟩ := hsr
    by_cases hlt : i < L
    · have hlz : i < zs.length := by rw [← HL.out]; exact hlt
      have hz := U.out i hlz
      have hac : wr.cell? (a.add i) = some (.int .u64 (zs.getD i 0)) := by rw [hbr.cell (p := a.add i) (by rw [ChangeShapes.block_add]; exact hal)]; exact S.out i hlz
      obtain ⟨z, ez⟩ : ∃ z, z = zs.getD i 0 := ⟨_, rfl⟩
      rw [← ez] at hz hac
      obtain ⟨y0, y1⟩ := hz
      have CA := Lib.hid (wn_cas s (i + 1) a0 z s0 s1 (by omega) (by omega) g0 g1 y0 y1 hm)
      have EZ := Lib.hid ez
      clear ez hm
      by_cases hi0 : i = 0
      · subst hi0
        obtain rfl : s = a0 := by rw [hS.out, if_pos rfl]
        obtain rfl : z = z0 := by rw [EZ.out, E0.out]
        have hac' : wr.cell? a = some (.int .u64 z) := hac
        clear hS EZ
        go_wp2_with fail
        go_at_call 12
        refine CA.out.mono ?_
        rintro e w3 ⟨rfl, hm3, ho3⟩
        rw [if_pos trivial] at hm3
        have M3 := Lib.hid hm3
        have hb3 : Below w.heap.size w w3 := hbr.trans (ho3.below (by simp; omega) hbr.size)
        clear hm3 ho3
        go_wp2_with fail
        go_roundw
        case rel => exact ⟨1, by omega, rfl, ⟨z, Lib.hid (by rw [if_neg (by omega)]), M3.out⟩, hb3⟩
        case measure => simp [intOf]; omega
      · obtain rfl : s = z0 := by rw [hS.out, if_neg hi0]
        have ti : ((i : Int) == 0) = false := beq_eq_false_iff_ne.2 (by omega)
        clear hS EZ
        go_wp2_with fail
        go_at_call 12
        refine CA.out.mono ?_
        rintro e w3 ⟨rfl, hm3, ho3⟩
        rw [if_neg HE.out] at hm3
        have M3 := Lib.hid hm3
        have hb3 : Below w.heap.size w w3 := hbr.trans (ho3.below (by simp; omega) hbr.size)
        clear hm3 ho3
        go_wp2_with fail
        go_roundw
        case rel => exact ⟨i + 1, by omega, by go_num, ⟨s, Lib.hid (by rw [if_neg (by omega)]), M3.out⟩, hb3⟩
        case measure => simp [intOf]; omega
    · obtain rfl : i = L := by omega
      obtain rfl : s = z0 := by rw [hS.out, if_neg (by omega)]
      have LD := Lib.hid (wn_load s (i + 1) s0 s1 (by omega) (by omega) hm)
      clear hS hm
      go_wp2_with fail
      go_at_call 9
      refine LD.out.mono ?_
      rintro e w3 ⟨rfl, hm3, ho3⟩
      have hb3 : Below w.heap.size w w3 := hbr.trans (ho3.below (by simp; omega) hbr.size)
      have hc3 : w3.cell? a = some (.int .u64 s) := by rw [hb3.cell (p := a) hal]; exact hc1
      clear hm3 ho3
      go_wp2_with fail
      go_at_call 13
      refine (AW.out _).mono ?_
      rintro e w4 ⟨rfl, hb6⟩
      go_wp2_with fail
      go_ret
      exact ⟨rfl, hb3.trans (hb6.mono hb3.size)⟩

theorem memWins_walk (a0 : Int) (w0 : (Lit.int .u64 a0).wf = true) (w : World) (A : Option Addr) (cap : Nat) (zs : List Int) (hl : zs.length ≤ maxLen) (hs : IntsIn w .u64 A zs) (hw : ∀ z ∈ zs, (Lit.int .u64 z).wf = true) :
    Calls Try.prog 5 #[.int .u64 a0, .slice A zs.length cap] w fun e w' => e = .returned (.bool true) ∧ Below w.heap.size w w' := by
  have hr : 0 ≤ a0 ∧ a0 ≤ 18446744073709551615 := by
    simp [Lit.wf, IntKind.min, IntKind.max, IntKind.signed, IntKind.bits] at w0
    exact ⟨by omega, by omega⟩
  by_cases h0 : zs.length = 0
  · exact memWins_none a0 w A cap zs hl h0
  · by_cases h : 100 < zs.length
    · exact memWins_long a0 w A cap zs hl h
    · by_cases he : zs.getD 0 0 = a0
      · exact memWins_same a0 w A cap zs hl (by omega) (by omega) hs he
      · exact memWins_main a0 hr.1 hr.2 w A cap zs (by omega) (by omega) hs hw he
end Go.Proofs.Ytdnamjlknmcdjaa
