/- The program's word on a library (layer 4): the contract of Library. The conditions: the instructions and the rows lie there, fewer than 2^62 of each, the instructions' numbers are words, the rows' slice has room for them; the library's variable errors.errorType holds the type error. -/
import Derived.Test.YtncgkhgjclodaaaDoorCodeClient
import Derived.Test.YtncgkhgjclodaaaDoorCodeCall
namespace Go.Proofs.YtncgkhgjclodaaaDoor
open Go.RowKit
set_option linter.unusedVariables false

/-- As many values below m as there are, no two alike: at most m. -/
theorem pigeons : ∀ (m n : Nat) (f : Nat → Nat), (∀ i, i < n → f i < m) → (∀ i j, i < j → j < n → f i ≠ f j) → n ≤ m
  | 0, n, f, h, _ => by
    rcases Nat.eq_zero_or_pos n with h0 | h0
    · omega
    · exact absurd (h 0 h0) (by omega)
  | m + 1, 0, f, _, _ => by omega
  | m + 1, n + 1, f, h, hd => by
    have hn := h n (by omega)
    have := pigeons m n (fun i => if f i = m then f n else f i) (fun i hi => by
      show (if f i = m then f n else f i) < m
      split
      · have := hd i n hi (by omega); omega
      · have := h i (by omega); omega) (fun i j hij hj => by
      show (if f i = m then f n else f i) ≠ (if f j = m then f n else f j)
      have h1 := hd i j hij (by omega)
      have h2 := hd i n (by omega) (by omega)
      have h3 := hd j n hj (by omega)
      split <;> split <;> omega)
    omega
theorem rowBad_parts {c : List CallRow} {n : Int} {t : Nat} (h : rowBad c n t = false) : 1 ≤ (c.getD t callRow0).num ∧ (c.getD t callRow0).num ≤ 999 ∧ ∀ s, s < min t 1000 → (c.getD s callRow0).num ≠ (c.getD t callRow0).num := by
  unfold rowBad at h
  rw [nAcc_or] at h
  simp only [Bool.or_eq_false_iff] at h
  obtain ⟨h1, h2⟩ := h
  have h0 : rowBad0 (c.getD t callRow0) n = false := by
    simp only [kAcc, Bool.or_eq_false_iff] at h1
    exact h1.1.1.1.1
  simp only [rowBad0, Bool.or_eq_false_iff, decide_eq_false_iff_not] at h0
  refine ⟨by omega, by omega, fun s hs he => ?_⟩
  rw [nAcc_yes false c _ _ s hs he] at h2
  cases h2
theorem few_rows {c : List CallRow} {n : Int} {i : Nat} (h : ∀ t, t < i → rowBad c n t = false) : i ≤ 999 := by
  rcases Nat.lt_or_ge 999 i with hi | hi
  · have := pigeons 999 1000 (fun t => ((c.getD t callRow0).num - 1).toNat) (fun t ht => by
      obtain ⟨h1, h2, _⟩ := rowBad_parts (h t (by omega))
      show ((c.getD t callRow0).num - 1).toNat < 999
      omega) (fun s t hst ht he => by
      obtain ⟨h1, h2, h3⟩ := rowBad_parts (h t (by omega))
      obtain ⟨g1, g2, _⟩ := rowBad_parts (h s (by omega))
      have he' : ((c.getD s callRow0).num - 1).toNat = ((c.getD t callRow0).num - 1).toNat := he
      exact h3 s (by omega) (by omega))
    omega
  · exact hi
theorem vcBad_row {c : List CallRow} {n : Int} {i : Nat} (h : ∀ t, t < i → rowBad c n t = false) : vcBad (c.getD i callRow0) c n i = rowBad c n i := by
  have hi := few_rows h
  unfold vcBad rowBad
  rw [show min i 1000 = i by omega, nAcc_or (kAcc _ _ 4)]
  have hk : ∀ (b : Bool) x, kAcc b x 4 = (b || kAcc false x 4) := fun b x => by cases b <;> simp [kAcc]
  rw [hk (rowBad0 _ _), Bool.or_assoc, Bool.or_comm (nAcc _ _ _ _)]

set_option maxHeartbeats 2000000 in
set_option maxRecDepth 100000 in
theorem library_any (A : Option Addr) (cap : Nat) (l : List Inst) (lo : Int) (B : Option Addr) (capB : Nat) (c : List CallRow) (w : World) (hl : l.length < 4611686018427387904) (hI : InsIn w A l) (hO : ∀ i, i < l.length → InsOk (l.getD i inst0)) (hc : c.length < 4611686018427387904) (hC : CallsIn w B c) (hcap : c.length ≤ capB) (hE : ErrType w) :
    Calls Tryd.prog 20 #[.agg #[.slice A l.length cap, .int .i64 lo, .slice B c.length capB]] w (EPost (libRes l lo c) w) := by
  have hbx : Below w.heap.size w (w.alloc (.cells #[.slice A l.length cap, .int .i64 lo, .slice B c.length capB] 41)) := (Below.refl _ _).alloc (Nat.le_refl _) _
  have FR := from_any A cap l lo true _ hl (hI.below hbx) hO (errType_below hbx hE (cell_lt hE))
  have rx := Row.new w [.slice A l.length cap, .int .i64 lo, .slice B c.length capB] 41
  obtain ⟨R, hR⟩ : ∃ R, R = libRes l lo c := ⟨_, rfl⟩
  have hR2 : R = match fromRes l lo true with | some x => some x | none => (firstRow c l.length c.length 0).map fun i : Nat => ([(codeS, (i : Int))], 1) := by
    rw [hR]
    unfold libRes fromRes
    by_cases h0 : l.length = 0
    · rw [if_pos h0, if_pos h0]
    · rw [if_neg h0, if_neg h0]
      cases checkRes l true with
      | some x => rfl
      | none => by_cases h1 : lo < 0 ∨ (l.length : Int) ≤ lo <;> simp [h1]
  rw [← hR]
  clear hR
  obtain ⟨N, hN⟩ : ∃ N, N = l.length := ⟨_, rfl⟩
  obtain ⟨M, hM⟩ : ∃ M, M = c.length := ⟨_, rfl⟩
  rw [← hN, ← hM] at hbx FR rx hR2
  rw [← hM] at hc hcap
  rw [← hN] at hl
  rw [← hN, ← hM]
  have HM := Lib.hid hM
  have HC := Lib.hid hC
  have HBX := Lib.hid hbx
  have RX := Lib.hid rx
  cases hf : fromRes l lo true with
  | some y =>
    obtain ⟨ps, k⟩ := y
    rw [hf] at FR hR2
    subst hR2
    have FR2 := Lib.hid (show Calls Tryd.prog 33 #[.slice A N cap, .int .i64 lo, .bool true] (w.alloc (.cells #[.slice A N cap, .int .i64 lo, .slice B M capB] 41)) fun e w' => ∃ x, e = .returned (.iface 67 (.pointer (some ⟨x, 0, none⟩))) ∧ ErrAt w' (.iface 67 (.pointer (some ⟨x, 0, none⟩))) ps k ∧ Below (w.alloc (.cells #[.slice A N cap, .int .i64 lo, .slice B M capB] 41)).heap.size (w.alloc (.cells #[.slice A N cap, .int .i64 lo, .slice B M capB] 41)) w' from FR)
    clear FR hI hO hN hM hC hbx rx hE hf
    go_enter Tryd.func20, Tryd.ntmps20
    go_wp2_with fail
    go_at_call 33
    refine FR2.out.mono ?_
    rintro e w1 ⟨x, rfl, hEr, hb⟩
    have FIN := Lib.hid (show EPost (some (ps, k)) w (.returned (.iface 67 (.pointer (some ⟨x, 0, none⟩)))) w1 from ⟨x, rfl, hEr, HBX.out.trans (hb.mono HBX.out.size)⟩)
    clear hEr hb
    go_wp2_with fail
    go_ret
    exact FIN.out
  | none =>
    rw [hf] at FR hR2
    have HR := Lib.hid (show R = (firstRow c N M 0).map fun i : Nat => ([(codeS, (i : Int))], (1 : Int)) from hR2)
    have FR2 := Lib.hid (show Calls Tryd.prog 33 #[.slice A N cap, .int .i64 lo, .bool true] (w.alloc (.cells #[.slice A N cap, .int .i64 lo, .slice B M capB] 41)) fun e w' => e = .returned .nilIface ∧ Below (w.alloc (.cells #[.slice A N cap, .int .i64 lo, .slice B M capB] 41)).heap.size (w.alloc (.cells #[.slice A N cap, .int .i64 lo, .slice B M capB] 41)) w' from FR)
    clear hR2 FR hI hO hN hM hC hbx rx hE hf
    go_enter Tryd.func20, Tryd.ntmps20
    go_wp2_with fail
    go_at_call 33
    refine FR2.out.mono ?_
    rintro e w1 ⟨rfl, hb⟩
    have BL := Lib.hid (HBX.out.trans (hb.mono HBX.out.size))
    have r1 := RX.out.below hb (by simp)
    have R1 := Lib.hid r1
    have x0 := r1.cell 0 (by simp)
    have x2 := r1.cell 2 (by simp)
    simp only [List.getElem_cons_zero, List.getElem_cons_succ] at x0 x2
    clear r1 hb FR2 HBX RX
    go_wp2_with fail
    go_loopw [17] (fun vi wr => ∃ i : Nat, i ≤ M ∧ vi = .int .i64 i ∧ Hid (∀ t, t < i → rowBad c N t = false) ∧ Hid (Below w1.heap.size w1 wr)) (fun vi _ => M - (intOf vi).toNat)
    case atStart => exact ⟨0, by omega, rfl, Lib.hid (fun t ht => by omega), Lib.hid (Below.refl _ _)⟩
    case round =>
      obtain ⟨i, hi, rfl, hok, hbl⟩ := hrel
      have BLW := Lib.hid (BL.out.trans (hbl.out.mono BL.out.size))
      by_cases hlt : i < M
      · obtain ⟨p, rfl, hp, c0, c1, c2, c3, c4, c5⟩ := (HC.out.below BLW.out) i (by rw [← HM.out]; exact hlt)
        obtain ⟨x, hx⟩ : ∃ x, x = c.getD i callRow0 := ⟨_, rfl⟩
        rw [← hx] at c0 c1 c2 c3 c4 c5
        have hvb := vcBad_row hok.out
        rw [← hx] at hvb
        have HX := Lib.hid hx
        clear hx
        go_upto_region 7 with fail
        obtain ⟨Y, hY⟩ : ∃ Y, Y = wr.heap.size := ⟨_, rfl⟩
        obtain ⟨W, hW⟩ : ∃ W, W = wr.alloc (.cells #[.int .i64 x.num, .int .i64 x.pl, .int .i64 x.k0, .int .i64 x.k1, .int .i64 x.k2, .int .i64 x.k3] 76) := ⟨_, rfl⟩
        have ry : Row W Y [.int .i64 x.num, .int .i64 x.pl, .int .i64 x.k0, .int .i64 x.k1, .int .i64 x.k2, .int .i64 x.k3] := by rw [hW, hY]; exact Row.new wr _ _
        have hbW : Below w1.heap.size w1 W := by rw [hW]; exact hbl.out.alloc hbl.out.size _
        have rl := R1.out.below hbW R1.out.lt
        rw [← hW, ← hY]
        have hWd : Below w.heap.size w W := BL.out.trans (hbW.mono BL.out.size)
        clear hW hY x0 x2 c0 c1 c2 c3 c4 c5
        have x0 : W.drew.cell? ⟨w.heap.size, 0, none⟩ = some (.slice A N cap) := rl.cell 0 (by simp)
        have x2 : W.drew.cell? ⟨w.heap.size, 2, none⟩ = some (.slice (some p) M capB) := rl.cell 2 (by simp)
        have y0 : W.drew.cell? ⟨Y, 0, none⟩ = some (.int .i64 x.num) := ry.cell 0 (by simp)
        have y1 : W.drew.cell? ⟨Y, 1, none⟩ = some (.int .i64 x.pl) := ry.cell 1 (by simp)
        have y2 : W.drew.cell? ⟨Y, 2, none⟩ = some (.int .i64 x.k0) := ry.cell 2 (by simp)
        have y3 : W.drew.cell? ⟨Y, 3, none⟩ = some (.int .i64 x.k1) := ry.cell 3 (by simp)
        have y4 : W.drew.cell? ⟨Y, 4, none⟩ = some (.int .i64 x.k2) := ry.cell 4 (by simp)
        have y5 : W.drew.cell? ⟨Y, 5, none⟩ = some (.int .i64 x.k3) := ry.cell 5 (by simp)
        have hic : i ≤ capB := by omega
        have hic2 : (i : Int) ≤ (capB : Int) := by omega
        have hWD : Below w.heap.size w W.drew := ⟨hWd.os, hWd.tape, hWd.output, hWd.size, hWd.block⟩
        have VC := validCall_any x (some p) capB c i N W.drew (by rw [← HM.out]; omega) (by rw [← HM.out]; exact hc) (HC.out.below hWD)
        have r3 : Row W.drew w.heap.size [.slice A N cap, .int .i64 lo, .slice (some p) M capB] := rl.drew
        rw [hvb] at VC
        have VC' := Lib.hid VC
        have HWD := Lib.hid hWD
        have BW1 := Lib.hid (show Below w1.heap.size w1 W.drew from ⟨hbW.os, hbW.tape, hbW.output, hbW.size, hbW.block⟩)
        clear VC hWD hvb r3 rl ry hbW hWd hbl BLW
        go_still_tail 8, (by kernel_rfl)
        change wpList _ _ _ _ _ W.drew
        generalize W.drew = w3 at VC' HWD BW1 x0 x2 y0 y1 y2 y3 y4 y5 ⊢
        cases hbd : rowBad c N i with
        | true =>
          rw [hbd] at VC'
          have FA := Lib.hid (fun W => cfault_any (i : Int) 57 (.int .i64 1) W)
          have hres : R = some ([(codeS, (i : Int))], 1) := by rw [HR.out, firstRow_at c N M 0 i hlt (fun t ht => by simpa using hok.out t ht) (by simpa using hbd)]; simp
          have FIN := Lib.hid (fun w4 (hb : Below w.heap.size w w4) => e_no (w := w) (w1 := w4) (i : Int) 1 hb)
          rw [← hres] at FIN
          clear hbd hres x0 x2 y0 y1 y2 y3 y4 y5
          go_wp2_with fail
          go_at_call 35
          refine VC'.out.mono ?_
          rintro e w4 ⟨rfl, hb⟩
          have BL4 := Lib.hid (HWD.out.trans (hb.mono HWD.out.size))
          clear hb
          go_wp2_with (go_at_call 30; refine (FA.out _).mono ?_; rintro e w' ⟨rfl, rfl⟩)
          go_ret
          exact FIN.out _ BL4.out
        | false =>
          rw [hbd] at VC'
          have HOK := Lib.hid (show ∀ t, t < i + 1 → rowBad c N t = false from fun t ht => by
            by_cases hti : t < i
            · exact hok.out t hti
            · obtain rfl : t = i := by omega
              exact hbd)
          clear hbd x0 x2 y0 y1 y2 y3 y4 y5
          go_wp2_with fail
          go_at_call 35
          refine VC'.out.mono ?_
          rintro e w4 ⟨rfl, hb⟩
          have BL4 := Lib.hid (BW1.out.trans (hb.mono BW1.out.size))
          clear hb
          go_wp2_with fail
          go_roundw
          case rel => exact ⟨i + 1, by omega, by go_num, HOK, BL4⟩
          case measure => simp [intOf]; omega
      · have hres : R = none := by rw [HR.out, firstRow_none c N M 0 (fun t ht => by simpa using hok.out t (by omega))]; rfl
        have FIN := Lib.hid (show EPost none w (.returned .nilIface) wr from ⟨rfl, BLW.out⟩)
        rw [← hres] at FIN
        clear hres
        go_wp2_with fail
        go_ret
        exact FIN.out
end Go.Proofs.YtncgkhgjclodaaaDoor
