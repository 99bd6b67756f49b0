/- Any program of a client's: the walk of CodeClients. The conditions: the instructions lie there and fit the reach of memory; the library's variable errors.errorType holds the type error. -/
import Derived.Test.YtncgkhgjclodaaaDoorCodeAwake
import Derived.Test.YtncgkhgjclodaaaDoorCodeClient
import Derived.Test.YtncgkhgjclodaaaDoorRefClient
import Derived.Test.YtncgkhgjclodaaaDoorKeepCode
import Derived.Deep.RegionHeld3
namespace Go.Proofs.YtncgkhgjclodaaaDoor
open Go.RowKit
set_option linter.unusedVariables false

/-- Two boxes and two slices of the same instructions, in a world of which nothing old has turned. -/
structure Two (w W : World) (X Y : Nat) (xs ys : List Value) (A B : Option Addr) (l : List Inst) : Prop where
  b : Below w.heap.size w W
  x : Row W X xs
  y : Row W Y ys
  ia : InsIn W A l
  ib : InsIn W B l
  e : ErrType W
theorem Two.below {w W W' : World} {X Y : Nat} {xs ys : List Value} {A B : Option Addr} {l : List Inst} (h : Two w W X Y xs ys A B l) (hb : Below W.heap.size W W') : Two w W' X Y xs ys A B l :=
  ⟨h.b.trans (hb.mono h.b.size), h.x.below hb h.x.lt, h.y.below hb h.y.lt, h.ia.below hb, h.ib.below hb, errType_below hb h.e (cell_lt h.e)⟩
theorem told_client (l : List Inst) (en wi na : Int) : Told (clientRes l en wi na) := by
  intro ps k h
  unfold clientRes at h
  split at h
  · simp at h; obtain ⟨rfl, rfl⟩ := h; simp
  · have hc := told_check l false
    revert h
    cases hr : checkRes l false with
    | some x =>
      intro h
      cases h
      have h2 := hc [(codeS, x.1)] x.2 (by rw [hr]; rfl)
      exact ⟨h2.1, h2.2.1, by simp⟩
    | none =>
      intro h
      simp only at h
      split at h
      · cases h; simp
      · cases h
section
variable {w W : World} {X Y : Nat} {A B : Option Addr} {cap c : Nat} {l : List Inst} {en wi na : Int} {xs ys : List Value}
/-- The five calls, one behind the other. -/
theorem clients_chain (T : Two w W X Y xs ys A B l) (hl : l.length < 4611686018427387904) (hO : ∀ i, i < l.length → InsOk (l.getD i inst0)) (hna : na ≤ 9223372036854775807) :
    Calls Tryd.prog 18 #[.agg #[.slice B l.length c, .int .i64 en, .int .i64 wi, .int .i64 na]] W fun e w1 => ∃ EV, e = .returned EV ∧ Two w w1 X Y xs ys A B l ∧ Hid (
    Calls Tryd.prog 19 #[.agg #[.slice A l.length cap, .int .i64 en, .int .i64 wi, .int .i64 na]] w1 fun e w2 => ∃ FV, e = .returned FV ∧ Two w w2 X Y xs ys A B l ∧ Hid (
    Calls Tryd.prog 12 #[EV, FV] w2 fun e w3 => e = .returned (.bool true) ∧ Two w w3 X Y xs ys A B l ∧ Hid (
    Calls Tryd.prog 15 #[.slice A l.length cap, .slice B l.length c] w3 fun e w4 => e = .returned (.bool true) ∧ Two w w4 X Y xs ys A B l ∧ Hid (
    Calls Tryd.prog 16 #[] w4 fun e w5 => e = .returned (.bool true) ∧ Two w w5 X Y xs ys A B l)))) := by
  refine (client_any B c l en wi na W hl T.ib hO hna T.e).mono ?_
  intro e w1 h1
  obtain ⟨EV, rfl, h1, b1⟩ := h1.returned
  have T1 := T.below b1
  refine ⟨EV, rfl, T1, Lib.hid ((refClient_any A cap l en wi na w1 hl T1.ia).mono ?_)⟩
  intro e w2 h2
  obtain ⟨FV, rfl, h2, b2⟩ := h2.returned
  have T2 := T1.below b2
  refine ⟨FV, rfl, T2, Lib.hid ((same_ef (told_client l en wi na) h1 h2 T2.e).mono ?_)⟩
  rintro e w3 ⟨rfl, b3⟩
  have T3 := T2.below b3
  refine ⟨rfl, T3, Lib.hid ((code_same A B cap c l w3 hl T3.ia T3.ib).mono ?_)⟩
  rintro e w4 ⟨rfl, b4⟩
  have T4 := T3.below b4
  refine ⟨rfl, T4, Lib.hid ((awake_any w4 T4.e).mono ?_)⟩
  rintro e w5 ⟨rfl, b5⟩
  exact ⟨rfl, T4.below b5⟩
end
theorem four_cells {W : World} {X : Nat} {v0 v1 v2 v3 : Value} (h : Row W X [v0, v1, v2, v3]) : W.cell? ⟨X, 0, none⟩ = some v0 ∧ W.cell? ⟨X, 1, none⟩ = some v1 ∧ W.cell? ⟨X, 2, none⟩ = some v2 ∧ W.cell? ⟨X, 3, none⟩ = some v3 :=
  ⟨h.cell 0 (by simp), h.cell 1 (by simp), h.cell 2 (by simp), h.cell 3 (by simp)⟩

set_option maxHeartbeats 4000000 in
set_option maxRecDepth 100000 in
theorem codeClients_walk (w : World) (A : Option Addr) (cap : Nat) (l : List Inst) (en wi na : Int) (hg : l.length * 56 ≤ 140737488355328) (hI : InsIn w A l) (hO : ∀ i, i < l.length → InsOk (l.getD i inst0))
    (we : (Lit.int .i64 en).wf = true) (ww : (Lit.int .i64 wi).wf = true) (wn : (Lit.int .i64 na).wf = true) (hE : ErrType w) :
    Calls Tryd.prog 4 #[.agg #[.slice A l.length cap, .int .i64 en, .int .i64 wi, .int .i64 na]] w fun e w' => e = .returned (.bool true) ∧ Below w.heap.size w w' := by
  have hl : l.length < 4611686018427387904 := by omega
  have hna := (i64_wf wn).2
  have hb0 : Below w.heap.size w (w.alloc (.cells #[.slice A l.length cap, .int .i64 en, .int .i64 wi, .int .i64 na] 34)) := (Below.refl _ _).alloc (Nat.le_refl _) _
  have r0 := Row.new w [.slice A l.length cap, .int .i64 en, .int .i64 wi, .int .i64 na] 34
  have CP := Lib.hid (copyProg_any A cap l en wi na _ (hI.below hb0) hg)
  have CH := Lib.hid (fun (W : World) (X Y : Nat) (B : Option Addr) (c : Nat) (xs ys : List Value) (T : Two w W X Y xs ys A B l) => clients_chain (cap := cap) (c := c) (en := en) (wi := wi) (na := na) T hl hO hna)
  have HI := Lib.hid hI
  have HE := Lib.hid hE
  obtain ⟨N, hN⟩ : ∃ N, N = l.length := ⟨_, rfl⟩
  rw [← hN] at CP CH hb0 r0 hl ⊢
  have HB0 := Lib.hid hb0
  have R0 := Lib.hid r0
  clear hN hg hI hO hE we ww wn hna hb0 r0
  go_enter Tryd.func4, Tryd.ntmps4
  go_wp2_with fail
  go_at_call 17
  refine CP.out.mono ?_
  rintro e w1 ⟨B, c, rfl, hB, hb1⟩
  have hb2 := HB0.out.trans (hb1.mono HB0.out.size)
  have hb3 := hb2.alloc hb2.size (.cells #[.slice B N c, .int .i64 en, .int .i64 wi, .int .i64 na] 34)
  have b13 : Below w1.heap.size w1 (w1.alloc (.cells #[.slice B N c, .int .i64 en, .int .i64 wi, .int .i64 na] 34)) := (Below.refl _ _).alloc (Nat.le_refl _) _
  have T0 : Two w (w1.alloc (.cells #[.slice B N c, .int .i64 en, .int .i64 wi, .int .i64 na] 34)) w.heap.size w1.heap.size [.slice A N cap, .int .i64 en, .int .i64 wi, .int .i64 na] [.slice B N c, .int .i64 en, .int .i64 wi, .int .i64 na] A B l :=
    ⟨hb3, (R0.out.below hb1 (by simp)).alloc _, Row.new w1 _ _, HI.out.below hb3, hB.below b13, errType_below hb3 HE.out (cell_lt HE.out)⟩
  have HT0 := Lib.hid T0
  clear hb1 hb2 hb3 b13 hB T0
  go_upto_region 2 with fail
  obtain ⟨W, hW⟩ : ∃ W, W = w1.alloc (.cells #[.slice B N c, .int .i64 en, .int .i64 wi, .int .i64 na] 34) := ⟨_, rfl⟩
  obtain ⟨X, hX⟩ : ∃ X, X = w.heap.size := ⟨_, rfl⟩
  obtain ⟨Y, hY⟩ : ∃ Y, Y = w1.heap.size := ⟨_, rfl⟩
  rw [← hW, ← hX, ← hY] at HT0
  simp only [← hW, ← hX, ← hY]
  clear hW hX hY R0 HB0 CP
  have hd : Below W.heap.size W W.drew := ⟨rfl, rfl, rfl, Nat.le_refl _, fun _ _ => rfl⟩
  have C1 := Lib.hid (CH.out _ _ _ _ c _ _ (HT0.out.below hd))
  obtain ⟨x0, x1, x2, x3⟩ := four_cells HT0.out.x
  obtain ⟨y0, y1, y2, y3⟩ := four_cells HT0.out.y
  clear hd CH
  go_region_held3 (fun w' => (w'.cell? ⟨X, 0, none⟩ = some (.slice A N cap) ∧ w'.cell? ⟨X, 1, none⟩ = some (.int .i64 en) ∧ w'.cell? ⟨X, 2, none⟩ = some (.int .i64 wi) ∧ w'.cell? ⟨X, 3, none⟩ = some (.int .i64 na)) ∧ w'.cell? ⟨Y, 0, none⟩ = some (.slice B N c) ∧ w'.cell? ⟨Y, 1, none⟩ = some (.int .i64 en) ∧ w'.cell? ⟨Y, 2, none⟩ = some (.int .i64 wi) ∧ w'.cell? ⟨Y, 3, none⟩ = some (.int .i64 na)) (go_keep)
    (first
      | (go_at_call 18; ((with_reducible refine C1.out.mono ?_); rintro e w1 ⟨EV, rfl, T1, C2⟩; obtain ⟨x0, x1, x2, x3⟩ := four_cells T1.x; obtain ⟨y0, y1, y2, y3⟩ := four_cells T1.y))
      | (go_at_call 19; ((with_reducible refine C2.out.mono ?_); rintro e w1 ⟨FV, rfl, T2, C3⟩; obtain ⟨x0, x1, x2, x3⟩ := four_cells T2.x; obtain ⟨y0, y1, y2, y3⟩ := four_cells T2.y))
      | (go_at_call 12; ((with_reducible refine C3.out.mono ?_); rintro e w1 ⟨rfl, T3, C4⟩; obtain ⟨x0, x1, x2, x3⟩ := four_cells T3.x; obtain ⟨y0, y1, y2, y3⟩ := four_cells T3.y))
      | (go_at_call 15; ((with_reducible refine C4.out.mono ?_); rintro e w1 ⟨rfl, T4, C5⟩; obtain ⟨x0, x1, x2, x3⟩ := four_cells T4.x; obtain ⟨y0, y1, y2, y3⟩ := four_cells T4.y))
      | (go_at_call 16; ((with_reducible refine C5.out.mono ?_); rintro e w1 ⟨rfl, T5⟩; obtain ⟨x0, x1, x2, x3⟩ := four_cells T5.x; obtain ⟨y0, y1, y2, y3⟩ := four_cells T5.y)))
  all_goals (
    go_wp2_with fail
    go_ret
    exact ⟨rfl, T5.b⟩)
end Go.Proofs.YtncgkhgjclodaaaDoor
