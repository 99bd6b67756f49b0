/- The program's word on a client's program (layer 4): the contract of Client. The conditions: the instructions lie there, fewer than 2^62, their numbers are words; the library's variable errors.errorType holds the type error. -/
import Derived.Test.YtncgkhgjclodaaaDoorCodeFrom
import Derived.Test.YtncgkhgjclodaaaDoorRefPost
namespace Go.Proofs.YtncgkhgjclodaaaDoor
open Go.RowKit
set_option linter.unusedVariables false

theorem EPost.ret {r : Option (List (ByteArray × Int) × Int)} {w w' : World} {e : Ending} (h : EPost r w e w') : ∃ v, e = .returned v ∧ EPost r w (.returned v) w' := by
  cases r with
  | none => obtain ⟨rfl, hb⟩ := h; exact ⟨_, rfl, rfl, hb⟩
  | some p => obtain ⟨l, k⟩ := p; obtain ⟨x, rfl, h⟩ := h; exact ⟨_, rfl, x, rfl, h⟩
theorem EPost.from_ {r : Option (List (ByteArray × Int) × Int)} {w w0 w' : World} {e : Ending} (h : EPost r w0 e w') (hb : Below w.heap.size w w0) : EPost r w e w' := by
  cases r with
  | none => exact ⟨h.1, hb.trans (h.2.mono hb.size)⟩
  | some p => obtain ⟨l, k⟩ := p; obtain ⟨x, he, hE, h⟩ := h; exact ⟨x, he, hE, hb.trans (h.mono hb.size)⟩

set_option maxHeartbeats 1000000 in
set_option maxRecDepth 100000 in
theorem client_any (A : Option Addr) (cap : Nat) (l : List Inst) (en wi na : Int) (w : World) (hl : l.length < 4611686018427387904) (hI : InsIn w A l) (hO : ∀ i, i < l.length → InsOk (l.getD i inst0)) (hna : na ≤ 9223372036854775807) (hE : ErrType w) :
    Calls Tryd.prog 18 #[.agg #[.slice A l.length cap, .int .i64 en, .int .i64 wi, .int .i64 na]] w (EPost (clientRes l en wi na) w) := by
  have hbx : Below w.heap.size w (w.alloc (.cells #[.slice A l.length cap, .int .i64 en, .int .i64 wi, .int .i64 na] 34)) := (Below.refl _ _).alloc (Nat.le_refl _) _
  have FR := from_any A cap l en false _ hl (hI.below hbx) hO (errType_below hbx hE (cell_lt hE))
  obtain ⟨R, hR⟩ : ∃ R, R = clientRes l en wi na := ⟨_, rfl⟩
  have hR2 := hR
  unfold clientRes at hR2
  rw [← hR]
  by_cases hbad : wi < 0 ∨ na < 0 ∨ 256 - na < wi
  · rw [if_pos (by omega)] at hR2
    have FA := Lib.hid (fun W => cfault_any 0 57 (.int .i64 1) W)
    have FIN := Lib.hid (e_no 0 1 hbx)
    rw [← hR2] at FIN
    obtain ⟨N, hN⟩ : ∃ N, N = l.length := ⟨_, rfl⟩
    rw [← hN] at FIN hl ⊢
    clear hR hR2 FR hI hO hbx hN hE
    by_cases h0 : wi < 0
    · clear hbad
      go_enter Tryd.func18, Tryd.ntmps18
      go_wp2_with (go_at_call 30; refine (FA.out _).mono ?_; rintro e w' ⟨rfl, rfl⟩)
      go_ret
      simpa using FIN.out
    · by_cases h1 : na < 0
      · clear hbad
        go_enter Tryd.func18, Tryd.ntmps18
        go_wp2_with (go_at_call 30; refine (FA.out _).mono ?_; rintro e w' ⟨rfl, rfl⟩)
        go_ret
        simpa using FIN.out
      · have h2 : 256 - na < wi := by omega
        have v1 : IntKind.i64.wrap (256 - na) = 256 - na := by rw [IntKind.wrap_i64]; omega
        clear hbad
        go_enter Tryd.func18, Tryd.ntmps18
        go_wp2_with (go_at_call 30; refine (FA.out _).mono ?_; rintro e w' ⟨rfl, rfl⟩)
        go_ret
        simpa using FIN.out
  · have hres : fromRes l en false = R := by
      rw [hR2]
      unfold fromRes
      by_cases h0 : l.length = 0
      · rw [if_pos h0, if_pos (by omega)]
      · rw [if_neg h0, if_neg (show ¬ (wi < 0 ∨ na < 0 ∨ 256 < wi ∨ 256 - wi < na ∨ l.length = 0) by omega)]
        cases checkRes l false <;> rfl
    have v1 : IntKind.i64.wrap (256 - na) = 256 - na := by rw [IntKind.wrap_i64]; omega
    have h0 : ¬ wi < 0 := by omega
    have h1 : ¬ na < 0 := by omega
    have h2 : ¬ 256 - na < wi := by omega
    rw [hres] at FR
    have FR2 := Lib.hid (FR.mono fun e w' h => And.intro h.ret (h.from_ hbx))
    obtain ⟨N, hN⟩ : ∃ N, N = l.length := ⟨_, rfl⟩
    rw [← hN] at FR2 hl ⊢
    clear hR hR2 FR hI hO hbx hN hE hres hbad
    go_enter Tryd.func18, Tryd.ntmps18
    go_wp2_with fail
    go_at_call 33
    refine FR2.out.mono ?_
    rintro e w' ⟨⟨v, rfl, _⟩, hp⟩
    have HP := Lib.hid hp
    clear hp
    go_wp2_with fail
    go_ret
    exact HP.out
end Go.Proofs.YtncgkhgjclodaaaDoor
