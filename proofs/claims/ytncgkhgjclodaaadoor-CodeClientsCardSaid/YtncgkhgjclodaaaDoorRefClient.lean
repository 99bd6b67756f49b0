/- The document's word on a client's program (layer 4): the contract of Client. The conditions: the instructions lie there, fewer than 2^62. -/
import Derived.Test.YtncgkhgjclodaaaDoorRefCheck
namespace Go.Proofs.YtncgkhgjclodaaaDoor
open Go.RowKit
set_option linter.unusedVariables false

section
variable (A : Option Addr) (cap N : Nat) (en wi na : Int) (w : World)
abbrev progV : Value := .agg #[.slice A N cap, .int .i64 en, .int .i64 wi, .int .i64 na]

set_option maxHeartbeats 1000000 in
theorem client_bad0  (h : wi < 0) (hN : N < 4611686018427387904) : Calls Tryd.prog 19 #[progV A cap N en wi na] w (FPost (some ([(codeS, 0)], 1)) w) := by
  have NN := Lib.hid (fun W => no_any codeS 0 1 W)
  have FIN := Lib.hid (f_no 0 1 ((Below.refl w.heap.size w).alloc (Nat.le_refl _) (.cells #[.slice A N cap, .int .i64 en, .int .i64 wi, .int .i64 na] 34)))
  go_enter Tryd.func19, Tryd.ntmps19
  go_wp2_with (go_at_call 26; refine (NN.out _).mono ?_; rintro e w' ⟨rfl, rfl⟩)
  go_ret
  simpa using FIN.out

set_option maxHeartbeats 1000000 in
theorem client_bad1 (n0 : ¬ wi < 0) (h : na < 0) (hN : N < 4611686018427387904) : Calls Tryd.prog 19 #[progV A cap N en wi na] w (FPost (some ([(codeS, 0)], 1)) w) := by
  have NN := Lib.hid (fun W => no_any codeS 0 1 W)
  have FIN := Lib.hid (f_no 0 1 ((Below.refl w.heap.size w).alloc (Nat.le_refl _) (.cells #[.slice A N cap, .int .i64 en, .int .i64 wi, .int .i64 na] 34)))
  go_enter Tryd.func19, Tryd.ntmps19
  go_wp2_with (go_at_call 26; refine (NN.out _).mono ?_; rintro e w' ⟨rfl, rfl⟩)
  go_ret
  simpa using FIN.out

set_option maxHeartbeats 1000000 in
theorem client_bad2 (n0 : ¬ wi < 0) (n1 : ¬ na < 0) (h : 256 < wi) (hN : N < 4611686018427387904) : Calls Tryd.prog 19 #[progV A cap N en wi na] w (FPost (some ([(codeS, 0)], 1)) w) := by
  have NN := Lib.hid (fun W => no_any codeS 0 1 W)
  have FIN := Lib.hid (f_no 0 1 ((Below.refl w.heap.size w).alloc (Nat.le_refl _) (.cells #[.slice A N cap, .int .i64 en, .int .i64 wi, .int .i64 na] 34)))
  go_enter Tryd.func19, Tryd.ntmps19
  go_wp2_with (go_at_call 26; refine (NN.out _).mono ?_; rintro e w' ⟨rfl, rfl⟩)
  go_ret
  simpa using FIN.out

set_option maxHeartbeats 1000000 in
theorem client_bad3 (n0 : ¬ wi < 0) (n1 : ¬ na < 0) (n2 : ¬ 256 < wi) (h : 256 - wi < na) (hN : N < 4611686018427387904) : Calls Tryd.prog 19 #[progV A cap N en wi na] w (FPost (some ([(codeS, 0)], 1)) w) := by
  have NN := Lib.hid (fun W => no_any codeS 0 1 W)
  have FIN := Lib.hid (f_no 0 1 ((Below.refl w.heap.size w).alloc (Nat.le_refl _) (.cells #[.slice A N cap, .int .i64 en, .int .i64 wi, .int .i64 na] 34)))
  have v1 : IntKind.i64.wrap (256 - wi) = 256 - wi := by rw [IntKind.wrap_i64]; omega
  go_enter Tryd.func19, Tryd.ntmps19
  go_wp2_with (go_at_call 26; refine (NN.out _).mono ?_; rintro e w' ⟨rfl, rfl⟩)
  go_ret
  simpa using FIN.out

set_option maxHeartbeats 1000000 in
theorem client_bad4 (n0 : ¬ wi < 0) (n1 : ¬ na < 0) (n2 : ¬ 256 < wi) (n3 : ¬ 256 - wi < na) (h : N = 0) (hN : N < 4611686018427387904) : Calls Tryd.prog 19 #[progV A cap N en wi na] w (FPost (some ([(codeS, 0)], 1)) w) := by
  have NN := Lib.hid (fun W => no_any codeS 0 1 W)
  have FIN := Lib.hid (f_no 0 1 ((Below.refl w.heap.size w).alloc (Nat.le_refl _) (.cells #[.slice A N cap, .int .i64 en, .int .i64 wi, .int .i64 na] 34)))
  have v1 : IntKind.i64.wrap (256 - wi) = 256 - wi := by rw [IntKind.wrap_i64]; omega
  subst h
  go_enter Tryd.func19, Tryd.ntmps19
  go_wp2_with (go_at_call 26; refine (NN.out _).mono ?_; rintro e w' ⟨rfl, rfl⟩)
  go_ret
  simpa using FIN.out
end

set_option maxHeartbeats 2000000 in
set_option maxRecDepth 100000 in
theorem refClient_any (A : Option Addr) (cap : Nat) (l : List Inst) (en wi na : Int) (w : World) (hl : l.length < 4611686018427387904) (hI : InsIn w A l) :
    Calls Tryd.prog 19 #[.agg #[.slice A l.length cap, .int .i64 en, .int .i64 wi, .int .i64 na]] w (FPost (clientRes l en wi na) w) := by
  by_cases hbad : wi < 0 ∨ na < 0 ∨ 256 < wi ∨ 256 - wi < na ∨ l.length = 0
  · rw [show clientRes l en wi na = some ([(codeS, 0)], 1) by unfold clientRes; rw [if_pos hbad]]
    by_cases h0 : wi < 0
    · exact client_bad0 A cap l.length en wi na w h0 hl
    by_cases h1 : na < 0
    · exact client_bad1 A cap l.length en wi na w h0 h1 hl
    by_cases h2 : 256 < wi
    · exact client_bad2 A cap l.length en wi na w h0 h1 h2 hl
    by_cases h3 : 256 - wi < na
    · exact client_bad3 A cap l.length en wi na w h0 h1 h2 h3 hl
    exact client_bad4 A cap l.length en wi na w h0 h1 h2 h3 (by omega) hl
  · obtain ⟨R, hR⟩ : ∃ R, R = clientRes l en wi na := ⟨_, rfl⟩
    have hR2 := hR
    unfold clientRes at hR2
    rw [if_neg hbad] at hR2
    rw [← hR]
    have hbx : Below w.heap.size w (w.alloc (.cells #[.slice A l.length cap, .int .i64 en, .int .i64 wi, .int .i64 na] 34)) := (Below.refl _ _).alloc (Nat.le_refl _) _
    have AG := refAgain_any A cap l false _ hl (hI.below hbx)
    have rx := Row.new w [.slice A l.length cap, .int .i64 en, .int .i64 wi, .int .i64 na] 34
    have v1 : IntKind.i64.wrap (256 - wi) = 256 - wi := by rw [IntKind.wrap_i64]; omega
    have n0 : ¬ wi < 0 := by omega
    have n1 : ¬ na < 0 := by omega
    have n2 : ¬ 256 < wi := by omega
    have n3 : ¬ 256 - wi < na := by omega
    have n4 : ¬ l.length = 0 := by omega
    cases hr : checkRes l false with
    | some x =>
      obtain ⟨n, k⟩ := x
      rw [hr] at AG hR2
      have AG2 := Lib.hid (show Calls Tryd.prog 34 #[.slice A l.length cap, .bool false] (w.alloc (.cells #[.slice A l.length cap, .int .i64 en, .int .i64 wi, .int .i64 na] 34)) fun e w' => ∃ z, e = .returned (.pointer (some ⟨z, 0, none⟩)) ∧ FailAt w' (.pointer (some ⟨z, 0, none⟩)) [(codeS, n), (codeS, n)] k ∧ Below (w.alloc (.cells #[.slice A l.length cap, .int .i64 en, .int .i64 wi, .int .i64 na] 34)).heap.size (w.alloc (.cells #[.slice A l.length cap, .int .i64 en, .int .i64 wi, .int .i64 na] 34)) w' from AG)
      have HR := Lib.hid (show R = some ([(codeS, n), (codeS, n)], k) from hR2)
      obtain ⟨N, hN⟩ : ∃ N, N = l.length := ⟨_, rfl⟩
      rw [← hN] at AG2 hl n4 hbx ⊢
      have HBX := Lib.hid hbx
      clear hbad hR hR2 AG rx hr hI hN hbx
      go_enter Tryd.func19, Tryd.ntmps19
      go_wp2_with fail
      go_at_call 34
      refine AG2.out.mono ?_
      rintro e w1 ⟨z, rfl, hF, hb⟩
      have FIN := Lib.hid (show FPost R w (.returned (.pointer (some ⟨z, 0, none⟩))) w1 from by rw [HR.out]; exact ⟨_, rfl, hF, HBX.out.trans (hb.mono HBX.out.size)⟩)
      clear hF hb
      go_wp2_with fail
      go_ret
      exact FIN.out
    | none =>
      rw [hr] at AG hR2
      have AG2 := Lib.hid (show Calls Tryd.prog 34 #[.slice A l.length cap, .bool false] (w.alloc (.cells #[.slice A l.length cap, .int .i64 en, .int .i64 wi, .int .i64 na] 34)) fun e w' => e = .returned (.pointer none) ∧ Below (w.alloc (.cells #[.slice A l.length cap, .int .i64 en, .int .i64 wi, .int .i64 na] 34)).heap.size (w.alloc (.cells #[.slice A l.length cap, .int .i64 en, .int .i64 wi, .int .i64 na] 34)) w' from AG)
      have HR := Lib.hid (show R = if en < 0 ∨ (l.length : Int) ≤ en then some ([(codeS, max en 0)], 5) else none from hR2)
      obtain ⟨N, hN⟩ : ∃ N, N = l.length := ⟨_, rfl⟩
      rw [← hN] at AG2 hl n4 hbx rx HR ⊢
      have HBX := Lib.hid hbx
      have RX := Lib.hid rx
      clear hbad hR hR2 AG rx hr hI hN hbx
      by_cases hneg : en < 0
      · have hres : R = some ([(codeS, 0)], 5) := by rw [HR.out, if_pos (.inl hneg), Int.max_eq_right (by omega)]
        have hm : max en 0 = 0 := Int.max_eq_right (by omega)
        have NN := Lib.hid (fun W => no_any codeS 0 5 W)
        have HRES := Lib.hid hres
        clear hres hm
        go_enter Tryd.func19, Tryd.ntmps19
        go_wp2_with fail
        go_at_call 34
        refine AG2.out.mono ?_
        rintro e w1 ⟨rfl, hb⟩
        have r1 := RX.out.below hb (by simp)
        have x0 := r1.cell 0 (by simp)
        have x1 := r1.cell 1 (by simp)
        simp only [List.getElem_cons_zero, List.getElem_cons_succ] at x0 x1
        have FIN := Lib.hid (f_no 0 5 (HBX.out.trans (hb.mono HBX.out.size)))
        clear r1 hb
        go_wp2_with (go_at_call 26; refine (NN.out _).mono ?_; rintro e w' ⟨rfl, rfl⟩)
        all_goals first
          | (exfalso; omega)
          | (go_ret
             rw [HRES.out]
             exact FIN.out)
      · by_cases hge : (N : Int) ≤ en
        · have hres : R = some ([(codeS, en)], 5) := by rw [HR.out, if_pos (.inr hge), Int.max_eq_left (by omega)]
          have NN := Lib.hid (fun W => no_any codeS en 5 W)
          have HRES := Lib.hid hres
          clear hres
          go_enter Tryd.func19, Tryd.ntmps19
          go_wp2_with fail
          go_at_call 34
          refine AG2.out.mono ?_
          rintro e w1 ⟨rfl, hb⟩
          have r1 := RX.out.below hb (by simp)
          have x0 := r1.cell 0 (by simp)
          have x1 := r1.cell 1 (by simp)
          simp only [List.getElem_cons_zero, List.getElem_cons_succ] at x0 x1
          have FIN := Lib.hid (f_no en 5 (HBX.out.trans (hb.mono HBX.out.size)))
          clear r1 hb
          go_wp2_with (go_at_call 26; refine (NN.out _).mono ?_; rintro e w' ⟨rfl, rfl⟩)
          all_goals first
            | (exfalso; omega)
            | (go_ret
               rw [HRES.out]
               exact FIN.out)
        · have hres : R = none := by rw [HR.out, if_neg (by omega)]
          have HRES := Lib.hid hres
          clear hres
          go_enter Tryd.func19, Tryd.ntmps19
          go_wp2_with fail
          go_at_call 34
          refine AG2.out.mono ?_
          rintro e w1 ⟨rfl, hb⟩
          have r1 := RX.out.below hb (by simp)
          have x0 := r1.cell 0 (by simp)
          have x1 := r1.cell 1 (by simp)
          simp only [List.getElem_cons_zero, List.getElem_cons_succ] at x0 x1
          have BL := Lib.hid (HBX.out.trans (hb.mono HBX.out.size))
          clear r1 hb
          go_wp2_with fail
          go_ret
          rw [HRES.out]
          exact ⟨rfl, BL.out⟩
end Go.Proofs.YtncgkhgjclodaaaDoor
