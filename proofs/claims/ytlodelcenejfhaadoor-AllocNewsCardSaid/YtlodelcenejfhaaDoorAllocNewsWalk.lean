/- Between which cells there is an allocator: the walk of AllocNews. The condition: the library's variable errors.errorType holds the type error. -/
import Derived.Test.YtlodelcenejfhaaDoorAllocTold
import Derived.Test.YtlodelcenejfhaaDoorLawClose
namespace Go.Proofs.YtlodelcenejfhaaDoor
open Go.RowKit Go.Shelf
set_option linter.unusedVariables false

/-- What New leaves where it refuses. -/
def NewBad (w : World) (e : Ending) (w' : World) : Prop := e = .returned (.tuple #[.pointer none, .iface 89 (.pointer (some ⟨w.heap.size, 0, none⟩))]) ∧ w' = w.alloc (.cells #[.string allocS, .int .i64 0, .iface 57 (.int .i64 1)] 93)
set_option maxHeartbeats 1000000 in
theorem allocNew_nil (frm e : Int) (w : World) : Calls Tryd.prog 13 #[.pointer none, .int .i64 frm, .int .i64 e] w (NewBad w) := by
  have FA := Lib.hid (fun W => afault_any 0 57 (.int .i64 1) W)
  go_enter Tryd.func13, Tryd.ntmps13
  go_wp2_with (go_at_call 35; refine (FA.out _).mono ?_; rintro e w' ⟨rfl, rfl⟩)
  go_ret2
  exact ⟨rfl, rfl⟩
set_option maxHeartbeats 1000000 in
theorem allocNew_bad (mb : Nat) (frm e : Int) (h : frm < 0 ∨ e < frm) (w : World) : Calls Tryd.prog 13 #[.pointer (some ⟨mb, 0, none⟩), .int .i64 frm, .int .i64 e] w (NewBad w) := by
  have FA := Lib.hid (fun W => afault_any 0 57 (.int .i64 1) W)
  by_cases h1 : frm < 0
  · clear h
    go_enter Tryd.func13, Tryd.ntmps13
    go_wp2_with (go_at_call 35; refine (FA.out _).mono ?_; rintro e w' ⟨rfl, rfl⟩)
    go_ret2
    exact ⟨rfl, rfl⟩
  · have h2 : e < frm := by omega
    clear h
    go_enter Tryd.func13, Tryd.ntmps13
    go_wp2_with (go_at_call 35; refine (FA.out _).mono ?_; rintro e w' ⟨rfl, rfl⟩)
    go_ret2
    exact ⟨rfl, rfl⟩

/-- The last line of a refusal. -/
structure Ref (w0 W : World) (x : Nat) : Prop where
  b : Below w0.heap.size w0 W
  x : ErrBlk W x allocS 0 1
  e : ErrType W
theorem Ref.below {w0 W W' : World} {x : Nat} (h : Ref w0 W x) (hb : Below W.heap.size W W') : Ref w0 W' x := ⟨h.b.trans (hb.mono h.b.size), h.x.only (F := []) (Only.of_below hb) (by simp), errType_below hb h.e (cell_lt h.e)⟩
theorem Ref.no {w0 W : World} {x : Nat} (h : Ref w0 W x) : Calls Tryd.prog 28 #[.string allocS, .int .i64 0, .int .i64 1] W fun e w' => ∃ z, e = .returned (.pointer (some ⟨z + 1 + 1, 0, none⟩)) ∧ Ref w0 w' x ∧ FailBlk w' z allocS 0 1 := by
  refine (no_any allocS 0 1 W).mono ?_
  rintro e w' ⟨rfl, hw⟩
  refine ⟨_, rfl, h.below ?_, ?_⟩
  · rw [hw]; exact (((Below.refl _ _).alloc (Nat.le_refl _) _).alloc (by simp) _).alloc (by simp; omega) _
  · rw [hw]; exact FailBlk.new W allocS 0 1
theorem Ref.same {w0 W : World} {x : Nat} (h : Ref w0 W x) (z : Nat) (hz : FailBlk W z allocS 0 1) : Calls Tryd.prog 15 #[.iface 89 (.pointer (some ⟨x, 0, none⟩)), .pointer (some ⟨z + 1 + 1, 0, none⟩)] W fun e w' => e = .returned (.bool true) ∧ Ref w0 w' x :=
  (same_blk h.x hz (by omega) (by omega) h.e).mono fun e w' ⟨h1, h2⟩ => ⟨h1, h.below h2⟩
theorem Ref.awake {w0 W : World} {x : Nat} (h : Ref w0 W x) : Calls Tryd.prog 27 #[] W fun e w' => e = .returned (.bool true) ∧ Ref w0 w' x := (awake_any W h.e).mono fun e w' ⟨h1, h2⟩ => ⟨h1, h.below h2⟩
theorem ref_new {w0 W W' : World} {e : Ending} (hb : Below w0.heap.size w0 W) (hE : ErrType w0) (hn : NewBad W e W') : e = .returned (.tuple #[.pointer none, .iface 89 (.pointer (some ⟨W.heap.size, 0, none⟩))]) ∧ Ref w0 W' W.heap.size := by
  obtain ⟨rfl, rfl⟩ := hn
  have hb2 := hb.alloc hb.size (.cells #[.string allocS, .int .i64 0, .iface 57 (.int .i64 1)] 93)
  exact ⟨rfl, hb2, ErrBlk.new _ _ _ _, errType_below hb2 hE (cell_lt hE)⟩

/-- The last line where there is one. -/
structure Emp (w0 W : World) (a mb : Nat) (frm e : Int) : Prop where
  b : Below w0.heap.size w0 W
  al : AllocAt W a mb 0 frm e (.slice none 0 0) []
  e : ErrType W
section
variable {w0 W : World} {a mb : Nat} {frm e : Int}
theorem Emp.below {W' : World} (h : Emp w0 W a mb frm e) (hb : Below W.heap.size W W') : Emp w0 W' a mb frm e := ⟨h.b.trans (hb.mono h.b.size), h.al.below hb, errType_below hb h.e (cell_lt h.e)⟩
theorem Emp.used (h : Emp w0 W a mb frm e) (h0 : 0 ≤ frm) (h1 : frm ≤ e) (he : e ≤ 9223372036854775807) : Calls Tryd.prog 29 #[.pointer (some ⟨a, 0, none⟩)] W fun en w' => en = .returned (.int .i64 0) ∧ Emp w0 w' a mb frm e :=
  (used_any a mb 0 frm e _ [] h0 he h1 (by simp) W h.al).mono fun en w' ⟨h1, h2⟩ => ⟨h1, h.below h2⟩
theorem Emp.widest (h : Emp w0 W a mb frm e) (h0 : 0 ≤ frm) (h1 : frm ≤ e) (he : e ≤ 9223372036854775807) : Calls Tryd.prog 30 #[.pointer (some ⟨a, 0, none⟩)] W fun en w' => en = .returned (.int .i64 (e - frm)) ∧ Emp w0 w' a mb frm e :=
  (widest_any a mb 0 frm e _ [] h0 he h1 (by simp) W h.al).mono fun en w' ⟨g1, h2⟩ => ⟨by rw [g1]; simp [longest, gaps]; omega, h.below h2⟩
theorem Emp.told (h : Emp w0 W a mb frm e) : Calls Tryd.prog 31 #[.pointer (some ⟨a, 0, none⟩), .int .i64 3] W fun en w' => (∃ ad c, en = .returned (.slice ad 0 c)) ∧ Emp w0 w' a mb frm e :=
  (told_any h.al (by simp) 3 (by omega)).mono fun en w' ⟨v', g1, g2, g3⟩ => by
    refine ⟨?_, h.below g3⟩
    rcases g2.2 with ⟨rfl, _⟩ | ⟨g, cap, cur, rfl, _⟩
    · exact ⟨_, _, g1⟩
    · exact ⟨_, _, g1⟩
theorem Emp.awake (h : Emp w0 W a mb frm e) : Calls Tryd.prog 27 #[] W fun en w' => en = .returned (.bool true) ∧ Emp w0 w' a mb frm e := (awake_any W h.e).mono fun e w' ⟨h1, h2⟩ => ⟨h1, h.below h2⟩
end

set_option maxHeartbeats 4000000 in
set_option maxRecDepth 100000 in
theorem allocNews_walk (frm e : Int) (none' : Bool) (hz : (Lit.int .i64 frm).wf = true) (hz2 : (Lit.int .i64 e).wf = true) (w : World) (hE : ErrType w) :
    Calls Tryd.prog 4 #[.int .i64 frm, .int .i64 e, .bool none'] w fun en w' => en = .returned (.bool true) ∧ Below w.heap.size w w' := by
  have r1 := i64_wf hz
  have r2 := i64_wf hz2
  clear hz hz2
  have hel := cell_lt hE
  have NW := Lib.hid (memNew 10 (by omega) (by omega) w)
  cases none' with
  | true =>
    go_enter Tryd.func4, Tryd.ntmps4
    go_wp2_with fail
    go_at_call 11
    refine NW.out.mono ?_
    rintro e0 w1 ⟨mb, mc, rfl, hm, hb, hx1, hx2⟩
    have AN := Lib.hid ((allocNew_nil frm e w1).mono fun en w' hn => ref_new hb hE hn)
    clear hm hb hx1 hx2
    go_wp2_with fail
    go_at_call 13
    refine AN.out.mono ?_
    rintro e0 w2 ⟨rfl, t2⟩
    go_wp2_with (first | (go_at_call 28; refine t2.no.mono ?_; rintro e w3 ⟨z1, rfl, t3, f3⟩) | (go_at_call 15; refine (t3.same z1 f3).mono ?_; rintro e w4 ⟨rfl, t4⟩) | (go_at_call 27; refine t4.awake.mono ?_; rintro e w7 ⟨rfl, t7⟩))
    go_ret
    exact ⟨rfl, t7.b⟩
  | false =>
    by_cases hbad : frm < 0 ∨ e < frm
    · have hcond : (decide (frm < 0) || decide (e < frm)) = true := by simpa using hbad
      by_cases h1 : frm < 0
      · go_enter Tryd.func4, Tryd.ntmps4
        go_wp2_with fail
        go_at_call 11
        refine NW.out.mono ?_
        rintro e0 w1 ⟨mb, mc, rfl, hm, hb, hx1, hx2⟩
        have AN := Lib.hid ((allocNew_bad mb frm e hbad w1).mono fun en w' hn => ref_new hb hE hn)
        clear hm hb hx1 hx2 hbad hcond
        go_wp2_with fail
        go_at_call 13
        refine AN.out.mono ?_
        rintro e0 w2 ⟨rfl, t2⟩
        go_wp2_with (first | (go_at_call 28; refine t2.no.mono ?_; rintro e w3 ⟨z1, rfl, t3, f3⟩) | (go_at_call 15; refine (t3.same z1 f3).mono ?_; rintro e w4 ⟨rfl, t4⟩) | (go_at_call 27; refine t4.awake.mono ?_; rintro e w7 ⟨rfl, t7⟩))
        go_ret
        exact ⟨rfl, t7.b⟩
      · have h2 : e < frm := by omega
        go_enter Tryd.func4, Tryd.ntmps4
        go_wp2_with fail
        go_at_call 11
        refine NW.out.mono ?_
        rintro e0 w1 ⟨mb, mc, rfl, hm, hb, hx1, hx2⟩
        have AN := Lib.hid ((allocNew_bad mb frm e hbad w1).mono fun en w' hn => ref_new hb hE hn)
        clear hm hb hx1 hx2 hbad hcond
        go_wp2_with fail
        go_at_call 13
        refine AN.out.mono ?_
        rintro e0 w2 ⟨rfl, t2⟩
        go_wp2_with (first | (go_at_call 28; refine t2.no.mono ?_; rintro e w3 ⟨z1, rfl, t3, f3⟩) | (go_at_call 15; refine (t3.same z1 f3).mono ?_; rintro e w4 ⟨rfl, t4⟩) | (go_at_call 27; refine t4.awake.mono ?_; rintro e w7 ⟨rfl, t7⟩))
        go_ret
        exact ⟨rfl, t7.b⟩
    · have h1 : 0 ≤ frm := by omega
      have h2 : frm ≤ e := by omega
      have h3 : e ≤ 9223372036854775807 := r2.2
      go_enter Tryd.func4, Tryd.ntmps4
      go_wp2_with fail
      go_at_call 11
      refine NW.out.mono ?_
      rintro e0 w1 ⟨mb, mc, rfl, hm, hb, hx1, hx2⟩
      have AN := Lib.hid ((allocNew mb frm e h1 h2 w1).mono fun en w' hn => show en = .returned (.tuple #[.pointer (some ⟨w1.heap.size, 0, none⟩), .nilIface]) ∧ Emp w w' w1.heap.size mb frm e from ⟨hn.1, by
        have hb2 : Below w.heap.size w w' := by rw [hn.2]; exact hb.alloc hb.size _
        exact ⟨hb2, by rw [hn.2]; exact AllocAt.new w1 mb 0 frm e, errType_below hb2 hE hel⟩⟩)
      clear hm hb hx1 hx2 hbad
      go_wp2_with fail
      go_at_call 13
      refine AN.out.mono ?_
      rintro e0 w2 ⟨rfl, t2⟩
      go_wp2_with (first | (go_at_call 29; refine (t2.used h1 h2 h3).mono ?_; rintro e w3 ⟨rfl, t3⟩) | (go_at_call 30; refine (t3.widest h1 h2 h3).mono ?_; rintro e w4 ⟨rfl, t4⟩) | (go_at_call 31; refine t4.told.mono ?_; rintro e w5 ⟨⟨ad, c, rfl⟩, t5⟩) | (go_at_call 27; refine t5.awake.mono ?_; rintro e w7 ⟨rfl, t7⟩))
      go_ret
      exact ⟨rfl, t7.b⟩
end Go.Proofs.YtlodelcenejfhaaDoor
