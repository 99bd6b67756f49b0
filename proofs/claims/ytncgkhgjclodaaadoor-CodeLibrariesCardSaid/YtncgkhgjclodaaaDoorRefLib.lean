/- The document's word on a library (layer 4): the contract of Library. The conditions: the instructions and the rows lie there, fewer than 2^62 of each. -/
import Derived.Test.YtncgkhgjclodaaaDoorRefCheck
import Derived.Test.YtncgkhgjclodaaaDoorLibIn
import Derived.Deep.CutRange
import Derived.Deep.DeepCutAuto
import Derived.Deep.CutBlock
import Derived.Deep.Light
import Derived.BigQuiet
namespace Go.Proofs.YtncgkhgjclodaaaDoor
open Go.RowKit
set_option linter.unusedVariables false

def CallRow.kind (x : CallRow) : Nat → Int
  | 0 => x.k0
  | 1 => x.k1
  | 2 => x.k2
  | _ => x.k3
/-- What the document asks of a row alone. -/
def rowBad0 (x : CallRow) (n : Int) : Bool := decide (x.num < 1) || decide (999 < x.num) || decide (x.pl < 0) || decide (n ≤ x.pl)
def kindBad (k : Int) : Bool := decide (k < 0) || decide (7 < k)
def kAcc (b : Bool) (x : CallRow) : Nat → Bool
  | 0 => b
  | t + 1 => kAcc b x t || kindBad (x.kind t)
/-- Its number told by one of the first t rows? -/
def nAcc (b : Bool) (c : List CallRow) (num : Int) : Nat → Bool
  | 0 => b
  | t + 1 => nAcc b c num t || decide ((c.getD t callRow0).num = num)
def rowBad (c : List CallRow) (n : Int) (i : Nat) : Bool := nAcc (kAcc (rowBad0 (c.getD i callRow0) n) (c.getD i callRow0) 4) c (c.getD i callRow0).num (min i 1000)
/-- The first row that may not be, from i on. -/
def firstRow (c : List CallRow) (n : Int) : Nat → Nat → Option Nat
  | 0, _ => none
  | f + 1, i => if rowBad c n i then some i else firstRow c n f (i + 1)
theorem firstRow_at (c : List CallRow) (n : Int) : ∀ (f i j : Nat), j < f → (∀ t, t < j → rowBad c n (i + t) = false) → rowBad c n (i + j) = true → firstRow c n f i = some (i + j)
  | 0, i, j, h, _, _ => by omega
  | f + 1, i, 0, _, _, h => by rw [firstRow, if_pos (by simpa using h)]; rfl
  | f + 1, i, j + 1, hj, h0, h => by
    have := h0 0 (by omega)
    rw [firstRow, if_neg (by simpa using this), firstRow_at c n f (i + 1) j (by omega) (fun t ht => by have := h0 (t + 1) (by omega); rwa [show i + (t + 1) = i + 1 + t by omega] at this) (by rwa [show i + (j + 1) = i + 1 + j by omega] at h)]
    congr 1; omega
theorem firstRow_none (c : List CallRow) (n : Int) : ∀ (f i : Nat), (∀ t, t < f → rowBad c n (i + t) = false) → firstRow c n f i = none
  | 0, i, _ => rfl
  | f + 1, i, h => by
    have := h 0 (by omega)
    rw [firstRow, if_neg (by simpa using this)]
    exact firstRow_none c n f (i + 1) (fun t ht => by have := h (t + 1) (by omega); rwa [show i + (t + 1) = i + 1 + t by omega] at this)
/-- What the document says of a library. -/
def libRes (l : List Inst) (lo : Int) (c : List CallRow) : Option (List (ByteArray × Int) × Int) :=
  if l.length = 0 then some ([(codeS, 0)], 1) else
  match checkRes l true with
  | some x => some ([(codeS, x.1), (codeS, x.1)], x.2)
  | none => if lo < 0 ∨ (l.length : Int) ≤ lo then some ([(codeS, max lo 0)], 5) else (firstRow c l.length c.length 0).map fun i : Nat => ([(codeS, (i : Int))], 1)

set_option maxHeartbeats 1000000 in
theorem library_bad0 (A : Option Addr) (cap N : Nat) (lo : Int) (B : Option Addr) (capB M : Nat) (w : World) (h : N = 0) : Calls Tryd.prog 22 #[.agg #[.slice A N cap, .int .i64 lo, .slice B M capB]] w (FPost (some ([(codeS, 0)], 1)) w) := by
  have NN := Lib.hid (fun W => no_any codeS 0 1 W)
  have FIN := Lib.hid (f_no 0 1 ((Below.refl w.heap.size w).alloc (Nat.le_refl _) (.cells #[.slice A 0 cap, .int .i64 lo, .slice B M capB] 41)))
  subst h
  go_enter Tryd.func22, Tryd.ntmps22
  go_wp2_with (go_at_call 26; refine (NN.out _).mono ?_; rintro e w' ⟨rfl, rfl⟩)
  go_ret
  simpa using FIN.out

set_option maxHeartbeats 4000000 in
set_option maxRecDepth 100000 in
/-- The rows: behind the instructions and the loop's place, which may be. -/
theorem library_rows (A : Option Addr) (cap : Nat) (N : Nat) (lo : Int) (B : Option Addr) (capB : Nat) (c : List CallRow) (w : World) (hN0 : ¬ N = 0) (hl : N < 4611686018427387904) (hlo0 : ¬ lo < 0) (hlo1 : ¬ (N : Int) ≤ lo) (hc : c.length < 4611686018427387904) (hC : CallsIn w B c)
    (AG : ∀ W, Below w.heap.size w W → Calls Tryd.prog 34 #[.slice A N cap, .bool true] W fun e w' => e = .returned (.pointer none) ∧ Below W.heap.size W w') :
    Calls Tryd.prog 22 #[.agg #[.slice A N cap, .int .i64 lo, .slice B c.length capB]] w (FPost ((firstRow c N c.length 0).map fun i : Nat => ([(codeS, (i : Int))], 1)) w) := by
  obtain ⟨M, hM⟩ : ∃ M, M = c.length := ⟨_, rfl⟩
  have hbx : Below w.heap.size w (w.alloc (.cells #[.slice A N cap, .int .i64 lo, .slice B M capB] 41)) := (Below.refl _ _).alloc (Nat.le_refl _) _
  have rx := Row.new w [.slice A N cap, .int .i64 lo, .slice B M capB] 41
  have AG2 := Lib.hid (AG _ hbx)
  obtain ⟨R, hR⟩ : ∃ R, R = ((firstRow c N c.length 0).map fun i : Nat => ([(codeS, (i : Int))], (1 : Int))) := ⟨_, rfl⟩
  rw [← hR, ← hM]
  rw [← hM] at hR hc
  have HR := Lib.hid hR
  have HM := Lib.hid hM
  have HC := Lib.hid hC
  have HBX := Lib.hid hbx
  have RX := Lib.hid rx
  clear hR hM hC AG hbx rx
  go_enter Tryd.func22, Tryd.ntmps22
  go_wp2_with fail
  go_at_call 34
  refine AG2.out.mono ?_
  rintro e w1 ⟨rfl, hb⟩
  have BL := Lib.hid (HBX.out.trans (hb.mono HBX.out.size))
  have r1 := RX.out.below hb (by simp)
  have R1 := Lib.hid r1
  have x0 := r1.cell 0 (by simp)
  have x1 := r1.cell 1 (by simp)
  simp only [List.getElem_cons_zero, List.getElem_cons_succ] at x0 x1
  clear r1 hb AG2 HBX RX
  go_wp2_with fail
  go_loopw [4] (fun vi wr => ∃ i : Nat, i ≤ M ∧ vi = .int .i64 i ∧ Hid (∀ t, t < i → rowBad c N t = false) ∧ Hid (Below w1.heap.size w1 wr)) (fun vi _ => M - (intOf vi).toNat)
  case atStart => exact ⟨0, by omega, rfl, Lib.hid (fun t ht => by omega), Lib.hid (Below.refl _ _)⟩
  case round =>
    obtain ⟨i, hi, rfl, hok, hbl⟩ := hrel
    have BLW := Lib.hid (BL.out.trans (hbl.out.mono BL.out.size))
    have r2 := R1.out.below hbl.out R1.out.lt
    have x0 := r2.cell 0 (by simp)
    have x2 := r2.cell 2 (by simp)
    simp only [List.getElem_cons_zero, List.getElem_cons_succ] at x0 x2
    clear r2 x1
    by_cases hlt : i < M
    · obtain ⟨p, rfl, hp, c0, c1, c2, c3, c4, c5⟩ := (HC.out.below BLW.out) i (by rw [← HM.out]; exact hlt)
      obtain ⟨x, hx⟩ : ∃ x, x = c.getD i callRow0 := ⟨_, rfl⟩
      rw [← hx] at c0 c1 c2 c3 c4 c5
      have HX := Lib.hid hx
      clear hx
      go_upto_region 12 with fail
      obtain ⟨Y, hY⟩ : ∃ Y, Y = wr.heap.size := ⟨_, rfl⟩
      obtain ⟨W, hW⟩ : ∃ W, W = wr.alloc (.cells #[.int .i64 x.num, .int .i64 x.pl, .int .i64 x.k0, .int .i64 x.k1, .int .i64 x.k2, .int .i64 x.k3] 76) := ⟨_, rfl⟩
      have ry : Row W Y [.int .i64 x.num, .int .i64 x.pl, .int .i64 x.k0, .int .i64 x.k1, .int .i64 x.k2, .int .i64 x.k3] := by rw [hW, hY]; exact Row.new wr _ _
      have hbW : Below w1.heap.size w1 W := by rw [hW]; exact hbl.out.alloc hbl.out.size _
      have HBW := Lib.hid hbW
      have rl := R1.out.below hbW R1.out.lt
      rw [← hW, ← hY]
      have HCW := Lib.hid (HC.out.below (BL.out.trans (hbW.mono BL.out.size)))
      have RY := Lib.hid ry
      have x0 := rl.cell 0 (by simp)
      have x2 := rl.cell 2 (by simp)
      have y0 := ry.cell 0 (by simp)
      have y1 := ry.cell 1 (by simp)
      simp only [List.getElem_cons_zero, List.getElem_cons_succ] at x0 x2 y0 y1
      clear hW hY ry rl hbW c0 c1 c2 c3 c4 c5 hp BLW hbl
      obtain ⟨q, hq⟩ : ∃ q, q = rowBad0 x N := ⟨_, rfl⟩
      have HQ := Lib.hid hq
      clear hq
      go_cut [6] from 35 to 110 (fun s6 w' => s6 = .bool q ∧ W = w')
      case first =>
       as_aux_lemma =>
        go_wp2_with fail
        all_goals go_meet
        all_goals
          go_light
          refine ⟨congrArg Value.bool ?_, rfl⟩
          rw [HQ.out]
          simp [rowBad0, *] <;> first | omega | (rw [Bool.eq_iff_iff]; simp; done) | fail
      case rest =>
      obtain ⟨rfl, rfl⟩ := hcut
      clear y0 y1
      go_wp2_with fail
      go_loopw [6, 7] (fun vb vk w' => ∃ t : Nat, t ≤ 4 ∧ vk = .int .i64 t ∧ vb = .bool (kAcc q x t) ∧ W = w') (fun _ vk _ => 4 - (intOf vk).toNat)
      case atStart => exact ⟨0, by omega, rfl, rfl, rfl⟩
      case round =>
        obtain ⟨t, ht, rfl, rfl, rfl⟩ := hrel
        by_cases ht4 : t < 4
        · obtain ⟨q1, hq1⟩ : ∃ q1, q1 = kAcc q x t := ⟨_, rfl⟩
          obtain ⟨kk, hkk⟩ : ∃ kk, kk = x.kind t := ⟨_, rfl⟩
          have yk : W.cell? ⟨Y, 2 + t, none⟩ = some (.int .i64 kk) := by
            have h := RY.out.cell (2 + t) (by simp; omega)
            rw [h, hkk]
            rcases (show t = 0 ∨ t = 1 ∨ t = 2 ∨ t = 3 by omega) with rfl | rfl | rfl | rfl <;> rfl
          have HN1 := Lib.hid (show kAcc q x (t + 1) = (q1 || kindBad kk) by rw [hq1, hkk]; rfl)
          rw [← hq1]
          clear hq1 hkk
          go_wp2_with fail
          all_goals
            go_roundw
            case rel => exact ⟨t + 1, by omega, by go_num, congrArg Value.bool (by rw [HN1.out]; first | (simp [kindBad, *]; done) | (simp [kindBad, *]; omega) | (cases q1 <;> simp_all [kindBad] <;> omega)), trivial⟩
            case measure => simp [intOf]; omega
        · obtain rfl : t = 4 := by omega
          obtain ⟨q2, hq2⟩ : ∃ q2, q2 = kAcc q x 4 := ⟨_, rfl⟩
          obtain ⟨num, hnum⟩ : ∃ num, num = x.num := ⟨_, rfl⟩
          have hbad : rowBad c N i = nAcc q2 c num (min i 1000) := by rw [rowBad, ← HX.out, ← HQ.out, ← hq2, ← hnum]
          have y0 : W.cell? ⟨Y, 0, none⟩ = some (.int .i64 num) := by rw [hnum]; exact RY.out.cell 0 (by simp)
          have HBAD := Lib.hid hbad
          rw [← hq2]
          clear hq2 hnum hbad
          go_wp2_with fail
          go_loopw [6, 8] (fun vb vk w' => ∃ t : Nat, t ≤ min i 1000 ∧ vk = .int .i64 t ∧ vb = .bool (nAcc q2 c num t) ∧ Hid (Below W.heap.size W w')) (fun _ vk _ => 1000 - (intOf vk).toNat)
          case atStart => exact ⟨0, by omega, rfl, rfl, Lib.hid (Below.refl _ _)⟩
          case round =>
            obtain ⟨t, ht, rfl, rfl, hb3⟩ := hrel
            have hb1 : Below w1.heap.size w1 wr := HBW.out.trans (hb3.out.mono HBW.out.size)
            have rl := R1.out.below hb1 R1.out.lt
            have x2 := rl.cell 2 (by simp)
            simp only [List.getElem_cons_zero, List.getElem_cons_succ] at x2
            have y0 : wr.cell? ⟨Y, 0, none⟩ = some (.int .i64 num) := by rw [hb3.out.cell (p := ⟨Y, 0, none⟩) RY.out.lt]; assumption
            have BLW := Lib.hid (BL.out.trans (hb1.mono BL.out.size))
            have HB1 := Lib.hid hb1
            clear rl hb1
            by_cases hti : t < i ∧ t < 1000
            · obtain ⟨hti1, hti2⟩ := hti
              obtain ⟨z, hz⟩ : ∃ z, z = (c.getD t callRow0).num := ⟨_, rfl⟩
              obtain ⟨p', hp', hpb, c0, -⟩ := (HCW.out.below hb3.out) t (by rw [← HM.out]; omega)
              obtain rfl : p = p' := Option.some.inj hp'
              rw [← hz] at c0
              obtain ⟨q3, hq3⟩ : ∃ q3, q3 = nAcc q2 c num t := ⟨_, rfl⟩
              have HN3 := Lib.hid (show nAcc q2 c num (t + 1) = (q3 || decide (z = num)) by rw [hq3, hz]; rfl)
              rw [← hq3]
              clear hq3 hz hp'
              go_upto_region 20 with fail
              cases q3
              all_goals
                go_quiet (fail)
              all_goals
                go_wp2_with fail
                go_roundw
                case rel => exact ⟨t + 1, by omega, by go_num, congrArg Value.bool (by rw [HN3.out]; first | rfl | (rw [Bool.eq_iff_iff]; simp)), Lib.hid ⟨hb3.out.os, hb3.out.tape, hb3.out.output, hb3.out.size, hb3.out.block⟩⟩
                case measure => simp [intOf]; omega
            · have hbt : rowBad c N i = nAcc q2 c num t := by rw [HBAD.out, show t = min i 1000 by omega]
              have out : ¬ t < i ∨ (t < i ∧ ¬ t < 1000) := by omega
              rw [← hbt]
              clear hbt hti ht
              cases hbd : rowBad c N i with
              | true =>
                have NN := Lib.hid (fun W => no_any codeS (i : Int) 1 W)
                have hres : R = some ([(codeS, (i : Int))], 1) := by rw [HR.out, firstRow_at c N M 0 i hlt (fun t ht => by simpa using hok.out t ht) (by simpa using hbd)]; simp
                have FIN := Lib.hid (f_no (i : Int) 1 BLW.out)
                rw [← hres] at FIN
                clear hbd hres
                rcases out with h1 | ⟨h1, h2⟩
                all_goals
                  go_wp2_with (go_at_call 26; refine (NN.out _).mono ?_; rintro e w' ⟨rfl, rfl⟩)
                  go_ret
                  exact FIN.out
              | false =>
                have HOK := Lib.hid (show ∀ t, t < i + 1 → rowBad c N t = false from fun t ht => by
                  by_cases hti : t < i
                  · exact hok.out t hti
                  · obtain rfl : t = i := by omega
                    exact hbd)
                clear hbd
                rcases out with h1 | ⟨h1, h2⟩
                all_goals
                  go_wp2_with fail
                  go_roundw
                  case rel => exact ⟨i + 1, by omega, by go_num, HOK, HB1⟩
                  case measure => simp [intOf]; omega
    · have hres : R = none := by rw [HR.out, firstRow_none c N M 0 (fun t ht => by simpa using hok.out t (by omega))]; rfl
      have FIN := Lib.hid (show FPost none w (.returned (.pointer none)) wr from ⟨rfl, BLW.out⟩)
      rw [← hres] at FIN
      clear hres
      go_wp2_with fail
      go_ret
      exact FIN.out
set_option maxHeartbeats 2000000 in
set_option maxRecDepth 100000 in
/-- The document's word on a library. -/
theorem refLibrary_any (A : Option Addr) (cap : Nat) (l : List Inst) (lo : Int) (B : Option Addr) (capB : Nat) (c : List CallRow) (w : World) (hl : l.length < 4611686018427387904) (hI : InsIn w A l) (hc : c.length < 4611686018427387904) (hC : CallsIn w B c) :
    Calls Tryd.prog 22 #[.agg #[.slice A l.length cap, .int .i64 lo, .slice B c.length capB]] w (FPost (libRes l lo c) w) := by
  by_cases h0 : l.length = 0
  · rw [show libRes l lo c = some ([(codeS, 0)], 1) by unfold libRes; rw [if_pos h0]]
    exact library_bad0 A cap l.length lo B capB c.length w h0
  obtain ⟨R, hR⟩ : ∃ R, R = libRes l lo c := ⟨_, rfl⟩
  have hR2 := hR
  unfold libRes at hR2
  rw [if_neg h0] at hR2
  rw [← hR]
  cases hr : checkRes l true with
  | some x =>
    obtain ⟨n, k⟩ := x
    have hbx : Below w.heap.size w (w.alloc (.cells #[.slice A l.length cap, .int .i64 lo, .slice B c.length capB] 41)) := (Below.refl _ _).alloc (Nat.le_refl _) _
    have AG := refAgain_any A cap l true _ hl (hI.below hbx)
    rw [hr] at AG hR2
    obtain ⟨M, hM⟩ : ∃ M, M = c.length := ⟨_, rfl⟩
    rw [← hM] at AG hbx ⊢
    have AG2 := Lib.hid (show Calls Tryd.prog 34 #[.slice A l.length cap, .bool true] (w.alloc (.cells #[.slice A l.length cap, .int .i64 lo, .slice B M capB] 41)) fun e w' => ∃ z, e = .returned (.pointer (some ⟨z, 0, none⟩)) ∧ FailAt w' (.pointer (some ⟨z, 0, none⟩)) [(codeS, n), (codeS, n)] k ∧ Below (w.alloc (.cells #[.slice A l.length cap, .int .i64 lo, .slice B M capB] 41)).heap.size (w.alloc (.cells #[.slice A l.length cap, .int .i64 lo, .slice B M capB] 41)) w' from AG)
    have HR := Lib.hid (show R = some ([(codeS, n), (codeS, n)], k) from hR2)
    obtain ⟨N, hN⟩ : ∃ N, N = l.length := ⟨_, rfl⟩
    rw [← hN] at AG2 hl h0 hbx ⊢
    have HBX := Lib.hid hbx
    clear hR hR2 AG hr hI hN hbx hC hc hM
    go_enter Tryd.func22, Tryd.ntmps22
    go_wp2_with fail
    go_at_call 34
    refine AG2.out.mono ?_
    rintro e w1 ⟨z, rfl, hF, hb⟩
    have FIN := Lib.hid (show FPost R w (.returned (.pointer (some ⟨z, 0, none⟩))) w1 from by rw [HR.out]; exact ⟨_, rfl, hF, HBX.out.trans (hb.mono HBX.out.size)⟩)
    clear hF hb
    go_wp2_with fail
    go_ret
    exact FIN.out
  | none =>
    have AG : ∀ W, Below w.heap.size w W → Calls Tryd.prog 34 #[.slice A l.length cap, .bool true] W fun e w' => e = .returned (.pointer none) ∧ Below W.heap.size W w' := fun W hW => by
      have h := refAgain_any A cap l true W hl (hI.below hW)
      rw [hr] at h
      exact h
    rw [hr] at hR2
    by_cases hlo : lo < 0 ∨ (l.length : Int) ≤ lo
    · have hbx : Below w.heap.size w (w.alloc (.cells #[.slice A l.length cap, .int .i64 lo, .slice B c.length capB] 41)) := (Below.refl _ _).alloc (Nat.le_refl _) _
      have rx := Row.new w [.slice A l.length cap, .int .i64 lo, .slice B c.length capB] 41
      have HAG := Lib.hid (AG _ hbx)
      obtain ⟨M, hM⟩ : ∃ M, M = c.length := ⟨_, rfl⟩
      obtain ⟨N, hN⟩ : ∃ N, N = l.length := ⟨_, rfl⟩
      rw [← hM, ← hN] at HAG hbx rx
      rw [← hN] at hl h0 hlo
      rw [← hM, ← hN]
      obtain ⟨mx, hmx⟩ : ∃ mx, mx = max lo 0 := ⟨_, rfl⟩
      have hres : R = some ([(codeS, mx)], 5) := by
        rw [hmx]; refine hR2.trans ?_; show (if _ then _ else _) = _; rw [← hN, if_pos hlo]
      have NN := Lib.hid (fun W => no_any codeS mx 5 W)
      have HRES := Lib.hid hres
      have HBX := Lib.hid hbx
      have RX := Lib.hid rx
      clear hbx rx AG hR hR2 hres hr hI hC hc hM hN
      by_cases hneg : lo < 0
      · have hm0 : mx = 0 := by rw [hmx]; exact Int.max_eq_right (by omega)
        subst hm0
        clear hmx hlo
        go_enter Tryd.func22, Tryd.ntmps22
        go_wp2_with fail
        go_at_call 34
        refine HAG.out.mono ?_
        rintro e w1 ⟨rfl, hb⟩
        have r1 := RX.out.below hb (by simp)
        have x0 := r1.cell 0 (by simp)
        have x1 := r1.cell 1 (by simp)
        simp only [List.getElem_cons_zero, List.getElem_cons_succ] at x0 x1
        have FIN := Lib.hid (f_no 0 5 (HBX.out.trans (hb.mono HBX.out.size)))
        clear r1 hb
        go_wp2_with (go_at_call 26; refine (NN.out _).mono ?_; rintro e w' ⟨rfl, rfl⟩)
        all_goals first
          | (exfalso; omega)
          | (go_ret
             rw [HRES.out]
             exact FIN.out)
      · have hm0 : mx = lo := by rw [hmx]; exact Int.max_eq_left (by omega)
        subst hm0
        have hge : (N : Int) ≤ mx := by omega
        clear hmx hlo
        go_enter Tryd.func22, Tryd.ntmps22
        go_wp2_with fail
        go_at_call 34
        refine HAG.out.mono ?_
        rintro e w1 ⟨rfl, hb⟩
        have r1 := RX.out.below hb (by simp)
        have x0 := r1.cell 0 (by simp)
        have x1 := r1.cell 1 (by simp)
        simp only [List.getElem_cons_zero, List.getElem_cons_succ] at x0 x1
        have FIN := Lib.hid (f_no mx 5 (HBX.out.trans (hb.mono HBX.out.size)))
        clear r1 hb
        go_wp2_with (go_at_call 26; refine (NN.out _).mono ?_; rintro e w' ⟨rfl, rfl⟩)
        all_goals first
          | (exfalso; omega)
          | (go_ret
             rw [HRES.out]
             exact FIN.out)
    · have hres : R = (firstRow c l.length c.length 0).map fun i : Nat => ([(codeS, (i : Int))], (1 : Int)) := hR2.trans (if_neg hlo)
      rw [hres]
      exact library_rows A cap l.length lo B capB c w h0 hl (by omega) (by omega) hc hC AG
end Go.Proofs.YtncgkhgjclodaaaDoor
