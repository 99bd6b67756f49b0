/- Any library: the walk of CodeLibraries. The conditions: the instructions and the rows lie there and fit the reach of memory; the library's variable errors.errorType holds the type error. -/
import Derived.Test.YtncgkhgjclodaaaDoorCodeAwake
import Derived.Test.YtncgkhgjclodaaaDoorCodeLib
import Derived.Test.YtncgkhgjclodaaaDoorKeepLib
import Derived.Deep.RegionHeld3
namespace Go.Proofs.YtncgkhgjclodaaaDoor
open Go.RowKit
set_option linter.unusedVariables false

/-- The box of a library, its slices, in a world of which nothing old has turned. -/
structure One (w W : World) (X : Nat) (xs : List Value) (A : Option Addr) (l : List Inst) (B : Option Addr) (r : List CallRow) : Prop where
  b : Below w.heap.size w W
  x : Row W X xs
  i : InsIn W A l
  c : CallsIn W B r
  e : ErrType W
theorem One.below {w W W' : World} {X : Nat} {xs : List Value} {A : Option Addr} {l : List Inst} {B : Option Addr} {r : List CallRow} (h : One w W X xs A l B r) (hb : Below W.heap.size W W') : One w W' X xs A l B r :=
  ⟨h.b.trans (hb.mono h.b.size), h.x.below hb h.x.lt, h.i.below hb, h.c.below hb, errType_below hb h.e (cell_lt h.e)⟩
theorem told_lib (l : List Inst) (lo : Int) (r : List CallRow) : Told (libRes l lo r) := by
  intro ps k h
  unfold libRes at h
  split at h
  · simp at h; obtain ⟨rfl, rfl⟩ := h; simp
  · have hc := told_check l true
    revert h
    cases hr : checkRes l true with
    | some x =>
      intro h
      cases h
      have h2 := hc [(codeS, x.1)] x.2 (by rw [hr]; rfl)
      exact ⟨h2.1, h2.2.1, by simp⟩
    | none =>
      intro h
      simp only at h
      split at h
      · cases h; simp
      · revert h
        cases firstRow r l.length r.length 0 with
        | none => intro h; cases h
        | some i => intro h; cases h; simp
section
variable {w W : World} {X : Nat} {A B : Option Addr} {cap capB : Nat} {l : List Inst} {r : List CallRow} {lo : Int} {xs : List Value}
/-- The five calls, one behind the other. -/
theorem libraries_chain (T : One w W X xs A l B r) (hg : l.length * 56 ≤ 140737488355328) (hO : ∀ i, i < l.length → InsOk (l.getD i inst0)) (hr : r.length * 48 ≤ 140737488355328) :
    Calls Tryd.prog 21 #[.agg #[.slice A l.length cap, .int .i64 lo, .slice B r.length capB]] W fun e w1 => ∃ QV, e = .returned QV ∧ One w w1 X xs A l B r ∧ Hid (
    Calls Tryd.prog 20 #[QV] w1 fun e w2 => ∃ EV, e = .returned EV ∧ One w w2 X xs A l B r ∧ Hid (
    Calls Tryd.prog 22 #[.agg #[.slice A l.length cap, .int .i64 lo, .slice B r.length capB]] w2 fun e w3 => ∃ FV, e = .returned FV ∧ One w w3 X xs A l B r ∧ Hid (
    Calls Tryd.prog 12 #[EV, FV] w3 fun e w4 => e = .returned (.bool true) ∧ One w w4 X xs A l B r ∧ Hid (
    Calls Tryd.prog 16 #[] w4 fun e w5 => e = .returned (.bool true) ∧ One w w5 X xs A l B r)))) := by
  refine (copyLib_any A cap l lo B capB r W T.i hg T.c hr).mono ?_
  rintro e w1 ⟨A', c, B', d, rfl, hA, hB, hd, b1⟩
  have T1 := T.below b1
  refine ⟨_, rfl, T1, Lib.hid ((library_any A' c l lo B' d r w1 (by omega) hA hO (by omega) hB hd T1.e).mono ?_)⟩
  intro e w2 h2
  obtain ⟨EV, rfl, h2, b2⟩ := h2.returned
  have T2 := T1.below b2
  refine ⟨EV, rfl, T2, Lib.hid ((refLibrary_any A cap l lo B capB r w2 (by omega) T2.i (by omega) T2.c).mono ?_)⟩
  intro e w3 h3
  obtain ⟨FV, rfl, h3, b3⟩ := h3.returned
  have T3 := T2.below b3
  refine ⟨FV, rfl, T3, Lib.hid ((same_ef (told_lib l lo r) h2 h3 T3.e).mono ?_)⟩
  rintro e w4 ⟨rfl, b4⟩
  have T4 := T3.below b4
  refine ⟨rfl, T4, Lib.hid ((awake_any w4 T4.e).mono ?_)⟩
  rintro e w5 ⟨rfl, b5⟩
  exact ⟨rfl, T4.below b5⟩
end
theorem three_cells {W : World} {X : Nat} {v0 v1 v2 : Value} (h : Row W X [v0, v1, v2]) : W.cell? ⟨X, 0, none⟩ = some v0 ∧ W.cell? ⟨X, 1, none⟩ = some v1 ∧ W.cell? ⟨X, 2, none⟩ = some v2 :=
  ⟨h.cell 0 (by simp), h.cell 1 (by simp), h.cell 2 (by simp)⟩

set_option maxHeartbeats 4000000 in
set_option maxRecDepth 100000 in
theorem codeLibraries_walk (w : World) (A : Option Addr) (cap : Nat) (l : List Inst) (lo : Int) (B : Option Addr) (capB : Nat) (r : List CallRow) (hg : l.length * 56 ≤ 140737488355328 ∧ r.length * 48 ≤ 140737488355328) (hI : InsIn w A l) (hO : ∀ i, i < l.length → InsOk (l.getD i inst0))
    (wl : (Lit.int .i64 lo).wf = true) (hC : CallsIn w B r) (hE : ErrType w) :
    Calls Tryd.prog 5 #[.agg #[.slice A l.length cap, .int .i64 lo, .slice B r.length capB]] w fun e w' => e = .returned (.bool true) ∧ Below w.heap.size w w' := by
  obtain ⟨hg, hr⟩ := hg
  obtain ⟨W, hW⟩ : ∃ W, W = w.alloc (.cells #[.slice A l.length cap, .int .i64 lo, .slice B r.length capB] 41) := ⟨_, rfl⟩
  obtain ⟨X, hX⟩ : ∃ X, X = w.heap.size := ⟨_, rfl⟩
  have hb0 : Below w.heap.size w W := by rw [hW]; exact (Below.refl _ _).alloc (Nat.le_refl _) _
  have r0 : Row W X [.slice A l.length cap, .int .i64 lo, .slice B r.length capB] := by rw [hW, hX]; exact Row.new w _ _
  have T0 : One w W X [.slice A l.length cap, .int .i64 lo, .slice B r.length capB] A l B r := ⟨hb0, r0, hI.below hb0, hC.below hb0, errType_below hb0 hE (cell_lt hE)⟩
  have hd : Below W.heap.size W W.drew := ⟨rfl, rfl, rfl, Nat.le_refl _, fun _ _ => rfl⟩
  have C0 := libraries_chain (cap := cap) (capB := capB) (lo := lo) (T0.below hd) hg hO hr
  have AW := Lib.hid (awake_any W T0.e)
  obtain ⟨N, hN⟩ : ∃ N, N = l.length := ⟨_, rfl⟩
  obtain ⟨M, hM⟩ : ∃ M, M = r.length := ⟨_, rfl⟩
  have hNl : N < 4611686018427387904 := by omega
  have hMl : M < 4611686018427387904 := by omega
  rw [← hN, ← hM] at T0 C0 hW
  rw [← hN, ← hM]
  have HT0 := Lib.hid T0
  have C1 := Lib.hid C0
  obtain ⟨x0, x1, x2⟩ := three_cells HT0.out.x
  clear hN hM hg hr hI hO wl hC hE hb0 r0 T0 hd C0
  by_cases hbig : 2000 < M
  · go_enter Tryd.func5, Tryd.ntmps5
    go_upto_region 1 with fail
    rw [← hW, ← hX]
    clear hW hX
    go_wp2_with fail
    go_at_call 16
    refine AW.out.mono ?_
    rintro e w6 ⟨rfl, hb6⟩
    have B6 := Lib.hid (HT0.out.b.trans (hb6.mono HT0.out.b.size))
    clear hb6
    go_wp2_with fail
    go_ret
    exact ⟨rfl, B6.out⟩
  · have hs : decide ((2000 : Int) < (M : Int)) = false := by simp; omega
    go_enter Tryd.func5, Tryd.ntmps5
    go_upto_region 1 with fail
    rw [← hW, ← hX]
    clear hW hX AW
    go_upto_region 3 with fail
    go_region_held3 (fun w' => w'.cell? ⟨X, 0, none⟩ = some (.slice A N cap) ∧ w'.cell? ⟨X, 1, none⟩ = some (.int .i64 lo) ∧ w'.cell? ⟨X, 2, none⟩ = some (.slice B M capB)) (go_keep)
      (first
        | (go_at_call 21; ((with_reducible refine C1.out.mono ?_); rintro e w1 ⟨QV, rfl, T1, C2⟩; obtain ⟨x0, x1, x2⟩ := three_cells T1.x))
        | (go_at_call 20; ((with_reducible refine C2.out.mono ?_); rintro e w1 ⟨EV, rfl, T2, C3⟩; obtain ⟨x0, x1, x2⟩ := three_cells T2.x))
        | (go_at_call 22; ((with_reducible refine C3.out.mono ?_); rintro e w1 ⟨FV, rfl, T3, C4⟩; obtain ⟨x0, x1, x2⟩ := three_cells T3.x))
        | (go_at_call 12; ((with_reducible refine C4.out.mono ?_); rintro e w1 ⟨rfl, T4, C5⟩; obtain ⟨x0, x1, x2⟩ := three_cells T4.x))
        | (go_at_call 16; ((with_reducible refine C5.out.mono ?_); rintro e w1 ⟨rfl, T5⟩; obtain ⟨x0, x1, x2⟩ := three_cells T5.x)))
    all_goals (
      go_wp2_with fail
      go_ret
      exact ⟨rfl, T5.b⟩)
end Go.Proofs.YtncgkhgjclodaaaDoor
