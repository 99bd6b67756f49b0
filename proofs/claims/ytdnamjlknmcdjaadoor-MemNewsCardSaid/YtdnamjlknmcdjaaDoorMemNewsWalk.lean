/- The walk of MemNews: it returns true; of what was there nothing has turned. The condition: the library's variable errors.errorType holds the type error. -/
import Derived.Test.YtdnamjlknmcdjaaDoorMemAwake
import Derived.Test.YtdnamjlknmcdjaaDoorMemUnmap
import Derived.Test.YtdnamjlknmcdjaaDoorSameAt
namespace Go.Proofs.YtdnamjlknmcdjaaDoor
open Go.RowKit
set_option linter.unusedVariables false

/-- One cell, the last, is mapped. -/
def OneIn (c : Nat) : Cells := { ws := fillIn 32 (List.replicate c 0) (c - 1) 1, hs := fillIn 0 (List.replicate c 0) (c - 1) 1, n := 0 }
theorem oneIn_len (c : Nat) : (OneIn c).ws.length = c := by simp [OneIn, fillIn_length]
theorem oneIn_width (c : Nat) (h : 1 ≤ c) : widthAt (OneIn c).ws (c - 1) = 32 := by
  show (fillIn 32 (List.replicate c 0) (c - 1) 1).getD (c - 1) 0 = 32
  rw [fillIn_getD _ _ _ _ _ (by simp; omega), if_pos (by omega)]
theorem news_map {W : World} {b bc : Nat} (c : Nat) (h1 : 1 ≤ c) (h2 : c ≤ 65536) (h : MemAt W b bc { ws := List.replicate c 0, hs := List.replicate c 0, n := 0 } 0) (x : Int) (hx : x = (c : Int) - 1) :
    Calls Tryd.prog 17 #[.pointer (some ⟨b, 0, none⟩), .int .i64 x, .int .i64 1, .int .i64 32] W fun e w' => e = .returned .nilIface ∧ MemAt w' b bc (OneIn c) 1 ∧ Only [b, bc] W w' := by
  have := memMap_done h (by simp; omega) (c - 1) 1 32 (by omega) (by simp; omega) (Or.inr rfl) (firstNZ_of _ _ _ fun j _ _ => getD_rep c j) (by omega) (by omega)
  rw [hx, show (c : Int) - 1 = ((c - 1 : Nat) : Int) by omega]
  exact this

set_option maxHeartbeats 4000000 in
set_option maxRecDepth 100000 in
theorem memNews_bad (a0 : Int) (hr : a0 < 1 ∨ (1 ≤ a0 ∧ 65536 < a0)) (w : World) (hg : ErrType w) :
    Calls Tryd.prog 4 #[.int .i64 a0] w fun e w' => e = .returned (.bool true) ∧ Below w.heap.size w w' := by
  have NB := Lib.hid (memNew_bad a0 (by omega) w)
  have AW := Lib.hid awake_any
  have NN := Lib.hid (fun W => no_any memS 0 1 W)
  have SA := Lib.hid (same_new memS 0 1 (by omega) (by omega) w hg)
  rcases hr with hr | ⟨hr, hr2⟩
  all_goals (
    go_enter Tryd.func4, Tryd.ntmps4
    go_wp2_with fail
    go_at_call 8
    refine NB.out.mono ?_
    rintro e w' ⟨rfl, rfl⟩
    go_wp2_with fail
    go_at_call 14
    refine (NN.out _).mono ?_
    rintro e w' ⟨rfl, rfl⟩
    go_wp2_with fail
    go_at_call 13
    refine SA.out.mono ?_
    rintro e w2 ⟨rfl, hb2⟩
    go_wp2_with fail
    go_at_call 12
    refine (AW.out _).mono ?_
    rintro e w3 ⟨rfl, hb3⟩
    go_wp2_with fail
    go_ret
    exact ⟨rfl, hb2.trans (hb3.mono hb2.size)⟩)

set_option maxHeartbeats 4000000 in
set_option maxRecDepth 100000 in
theorem memNews_good (c : Nat) (h1 : 1 ≤ c) (h2 : c ≤ 65536) (w : World) (hg : ErrType w) :
    Calls Tryd.prog 4 #[.int .i64 c] w fun e w' => e = .returned (.bool true) ∧ Below w.heap.size w w' := by
  have hgl : 0 < w.heap.size := cell_lt hg
  have NW := Lib.hid (memNew c h1 h2 w)
  have AW := Lib.hid awake_any
  have NN := Lib.hid (fun W => no_any memS c 2 W)
  go_enter Tryd.func4, Tryd.ntmps4
  go_wp2_with fail
  go_at_call 8
  refine NW.out.mono ?_
  rintro e w1 ⟨b, bc, rfl, hm, hb, hb1, hb2⟩
  have M := Lib.hid hm
  have T1 := Lib.hid (memThere hm)
  have C1 := Lib.hid (memCount hm)
  clear hm
  go_wp2_with (first | (go_at_call 15; refine T1.out.mono ?_; rintro e w' ⟨rfl, rfl⟩) | (go_at_call 16; refine C1.out.mono ?_; rintro e w' ⟨rfl, rfl⟩))
  go_at_call 17
  refine (news_map c h1 h2 M.out _ ?_).mono ?_
  · omega
  rintro e w2 ⟨rfl, hm, ho⟩
  have hbo : Below w.heap.size w w2 := hb.trans (ho.below (by simp; omega) hb.size)
  have MA := Lib.hid (memMap_addr hm (by rw [oneIn_len]; omega) c 1 32 (by omega) (by omega) (by omega) (Or.inr rfl) (by right; rw [oneIn_len]; omega))
  have M2 := Lib.hid hm
  have SA := Lib.hid (same_new memS c 2 (by omega) (by omega) w2 (errType_below hbo hg hgl))
  have HBO := Lib.hid hbo
  clear hm M hbo
  go_wp2_with fail
  go_at_call 17
  refine MA.out.mono ?_
  rintro e w' ⟨rfl, rfl⟩
  go_wp2_with fail
  go_at_call 14
  refine (NN.out _).mono ?_
  rintro e w' ⟨rfl, rfl⟩
  go_wp2_with fail
  go_at_call 13
  refine SA.out.mono ?_
  rintro e w3 ⟨rfl, hb3⟩
  have hm3 : MemAt w3 b bc (OneIn c) 1 := M2.out.only (F := []) (Only.of_below hb3) (by simp) (by simp)
  have WD := Lib.hid (memWidth hm3 (by rw [oneIn_len]; omega) (c - 1))
  rw [oneIn_width c h1, show ((c - 1 : Nat) : Int) = (c : Int) - 1 by omega] at WD
  have T3 := Lib.hid (memThere hm3)
  have HB5 := Lib.hid (HBO.out.trans (hb3.mono HBO.out.size))
  clear hm3 SA hb3
  go_wp2_with (first | (go_at_call 18; refine WD.out.mono ?_; rintro e w' ⟨rfl, rfl⟩) | (go_at_call 15; refine T3.out.mono ?_; rintro e w' ⟨rfl, rfl⟩))
  go_at_call 12
  refine (AW.out _).mono ?_
  rintro e w4 ⟨rfl, hb6⟩
  go_wp2_with fail
  go_ret
  exact ⟨rfl, HB5.out.trans (hb6.mono HB5.out.size)⟩

theorem memNews_walk (a0 : Int) (_w0 : (Lit.int .i64 a0).wf = true) (w : World) (hg : ErrType w) :
    Calls Tryd.prog 4 #[.int .i64 a0] w fun e w' => e = .returned (.bool true) ∧ Below w.heap.size w w' := by
  by_cases h1 : a0 < 1
  · exact memNews_bad a0 (Or.inl h1) w hg
  · by_cases h2 : 65536 < a0
    · exact memNews_bad a0 (Or.inr ⟨by omega, h2⟩) w hg
    · obtain ⟨c, rfl⟩ : ∃ c : Nat, a0 = c := ⟨a0.toNat, by omega⟩
      exact memNews_good c (by omega) (by omega) w hg
end Go.Proofs.YtdnamjlknmcdjaaDoor
