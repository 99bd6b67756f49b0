/- As many instructions as there may be, and one more; as many cells: the walk of CodeEdges. The condition: the library's variable errors.errorType holds the type error. -/
import Derived.Test.YtncgkhgjclodaaaDoorCodeAwake
import Derived.Test.YtncgkhgjclodaaaDoorCodeFill
import Derived.Test.YtncgkhgjclodaaaDoorCodeClient
import Derived.Test.YtncgkhgjclodaaaDoorKeepWithin
import Derived.BigQuiet
namespace Go.Proofs.YtncgkhgjclodaaaDoor
open Go.RowKit
set_option linter.unusedVariables false

set_option maxHeartbeats 400000 in
/-- No error is not the Fail of one. -/
theorem same_nilErr (z : Nat) (w : World) : Calls Tryd.prog 12 #[.nilIface, .pointer (some ⟨z, 0, none⟩)] w fun e w' => e = .returned (.bool false) ∧ Below w.heap.size w w' := by
  go_enter Tryd.func12, Tryd.ntmps12
  go_wp2_with fail
  go_quiet (fail)
  go_wp2_with fail
  go_ret
  exact ⟨rfl, rfl, rfl, rfl, Nat.le_refl _, fun _ _ => rfl⟩
abbrev exRet : Inst := ⟨16, 0, 0, 0, 0, 0, 0⟩
theorem ret_right (n : Int) (h : 1 ≤ n) : rightB exRet n false = true := by
  unfold rightB sideB markB fieldA fieldB fieldC fieldV usesV
  rfl
theorem edges_check (n : Nat) (h1 : 1 ≤ n) : checkRes (List.replicate n exRet) false = if 2048 < n then some (0, 3) else none := by
  by_cases h : 2048 < n
  · rw [if_pos h]; unfold checkRes; rw [List.length_replicate, if_pos h]
  · rw [if_neg h, check_repl n exRet false h1 (by omega), if_pos (ret_right n (by omega))]
/-- The first instruction of so many alike. -/
theorem Filled.one {W : World} {g n : Nat} {x : Inst} (h : Filled W g n n x) (hn : 1 ≤ n) : InsIn W (some ⟨g, 0, none⟩) [x] := by
  have := h.insIn
  intro i hi
  obtain rfl : i = 0 := by simpa using hi
  have h0 := this 0 (by simp; omega)
  rw [getD_repl n 0 x (by omega)] at h0
  exact h0

theorem edges_ok (d : Nat) (h : d < 257) : clientRes [exRet] 0 d (256 - (d : Int)) = none := by
  unfold clientRes
  rw [if_neg (by simp; omega)]
  rw [show checkRes [exRet] false = none from rfl]
  simp
theorem edges_more (d : Nat) (h : d < 257) : clientRes [exRet] 0 d (256 - (d : Int) + 1) = some ([(codeS, 0)], 1) := by
  unfold clientRes
  rw [if_pos (by right; right; right; left; omega)]
theorem four_cells' {W : World} {X : Nat} {v0 v1 v2 v3 : Value} (h : Row W X [v0, v1, v2, v3]) : W.cell? ⟨X, 0, none⟩ = some v0 ∧ W.cell? ⟨X, 1, none⟩ = some v1 ∧ W.cell? ⟨X, 2, none⟩ = some v2 ∧ W.cell? ⟨X, 3, none⟩ = some v3 :=
  ⟨h.cell 0 (by simp), h.cell 1 (by simp), h.cell 2 (by simp), h.cell 3 (by simp)⟩
set_option maxHeartbeats 4000000 in
set_option maxRecDepth 100000 in
theorem codeEdges_walk (more wide : Int) (w0 : (Lit.int .i64 more).wf = true) (w1 : (Lit.int .i64 wide).wf = true) (w : World) (hE : ErrType w) :
    Calls Tryd.prog 10 #[.int .i64 more, .int .i64 wide] w fun e w' => e = .returned (.bool true) ∧ Below w.heap.size w w' := by
  obtain ⟨s, hs⟩ : ∃ s : Nat, more % 5 = s := ⟨(more % 5).toNat, by omega⟩
  have hs5 : s < 5 := by omega
  obtain ⟨d, hd⟩ : ∃ d : Nat, wide % 257 = d := ⟨(wide % 257).toNat, by omega⟩
  have hd257 : d < 257 := by omega
  have WM := Lib.hid (fun W => within_any more 5 (by omega) (by omega) W)
  have WW := Lib.hid (fun W => within_any wide 257 (by omega) (by omega) W)
  rw [hs] at WM
  rw [hd] at WW
  obtain ⟨n, hn⟩ : ∃ n : Nat, n = 2046 + s := ⟨_, rfl⟩
  have ns : (2046 : Int) + (s : Int) = (n : Int) := by omega
  have mk := make_ins n (by omega)
  obtain ⟨Z, hZ⟩ : ∃ Z, Z = madeCells #[.int .i64 0, .int .i64 0, .int .i64 0, .int .i64 0, .int .u64 0, .int .i64 0, .int .i64 0] (n * 7) := ⟨_, rfl⟩
  rw [← hZ] at mk
  have hF := Lib.hid (Filled.new w n exRet 55 Z (by rw [hZ, size_madeCells]))
  have HB := Lib.hid ((Below.refl w.heap.size w).alloc (Nat.le_refl _) (.cells Z 55))
  have n0 : 1 ≤ n := by omega
  have n1 : n ≤ 2050 := by omega
  have HE := Lib.hid hE
  have HN := Lib.hid hn
  clear hs hd hZ hE w0 w1 hn
  go_enter Tryd.func10, Tryd.ntmps10
  go_wp2_with (go_at_call 27; refine (WM.out _).mono ?_; rintro e w' ⟨rfl, rfl⟩)
  go_loopw [7] (fun vi wr => ∃ i : Nat, i ≤ n ∧ vi = .int .i64 i ∧ Hid (Filled wr w.heap.size n i exRet) ∧ Hid (Below w.heap.size w wr)) (fun vi _ => n - (intOf vi).toNat)
  case atStart => exact ⟨0, by omega, rfl, hF, HB⟩
  case round =>
    obtain ⟨i, hi, rfl, hf, hb⟩ := hrel
    by_cases hlt : i < n
    · obtain ⟨u0, c0, f0⟩ := hf.out.cells (j := i * 7) (by omega)
      obtain ⟨u1, c1, f1⟩ := hf.out.cells (j := i * 7 + 1) (by omega)
      obtain ⟨u2, c2, f2⟩ := hf.out.cells (j := i * 7 + 2) (by omega)
      obtain ⟨u3, c3, f3⟩ := hf.out.cells (j := i * 7 + 3) (by omega)
      obtain ⟨u4, c4, f4⟩ := hf.out.cells (j := i * 7 + 4) (by omega)
      obtain ⟨u5, c5, f5⟩ := hf.out.cells (j := i * 7 + 5) (by omega)
      obtain ⟨u6, c6, f6⟩ := hf.out.cells (j := i * 7 + 6) (by omega)
      go_wp2_with fail
      go_roundw
      case rel => exact ⟨i + 1, by omega, by go_num, Lib.hid (hf.out.step hlt), Lib.hid (below_seven hb.out (Nat.le_refl _) _ _ _ _ _ _ _)⟩
      case measure => simp [intOf]; omega
    · obtain rfl : i = n := by omega
      have CK := check_any (some ⟨w.heap.size, 0, none⟩) i (List.replicate i exRet) false wr (by simp; omega) hf.out.insIn (fun j hj => by rw [List.length_replicate] at hj; rw [getD_repl i j _ hj]; exact ⟨by decide, by decide⟩)
      rw [edges_check i n0, List.length_replicate] at CK
      have CL := Lib.hid (fun (wi na : Int) (W : World) (h1 : na ≤ 9223372036854775807) (hI : InsIn W (some ⟨w.heap.size, 0, none⟩) [exRet]) (hE : ErrType W) => client_any (some ⟨w.heap.size, 0, none⟩) i [exRet] 0 wi na W (by simp) hI (ok_one ⟨by decide, by decide⟩) h1 hE)
      have v1 : IntKind.i64.wrap (256 - (d : Int)) = 256 - (d : Int) := by rw [IntKind.wrap_i64]; omega
      have v2 : IntKind.i64.wrap (256 - (d : Int) + 1) = 256 - (d : Int) + 1 := by rw [IntKind.wrap_i64]; omega
      by_cases hbig : 2048 < i
      · rw [if_pos hbig] at CK
        have CK2 := Lib.hid CK
        clear CK
        go_wp2_with fail
        go_at_call 13
        refine CK2.out.mono ?_
        intro e w2 h2
        obtain ⟨v, rfl, h2, hb2⟩ := h2.returned
        have B2 := Lib.hid (hb.out.trans (hb2.mono hb.out.size))
        have F2 := Lib.hid (hf.out.below hb2)
        have P2 := Lib.hid h2
        clear h2 hb2
        have hbd : decide ((2048 : Int) < (i : Int)) = true := by simp; omega
        go_wp2_with fail
        go_at_call 26
        refine (no_f 0 3 w2).mono ?_
        intro e w5 h5
        obtain ⟨f, rfl, h5, hb5⟩ := h5.returned
        have B5 := Lib.hid (B2.out.trans (hb5.mono B2.out.size))
        have F5 := Lib.hid (F2.out.below hb5)
        have SM := Lib.hid (same_ef (by intro l k h; cases h; simp) P2.out h5 (errType_below B5.out HE.out (cell_lt HE.out)))
        clear h5 hb5
        go_wp2_with fail
        go_at_call 12
        refine SM.out.mono ?_
        rintro e w6 ⟨rfl, hb6⟩
        have B6 := Lib.hid (B5.out.trans (hb6.mono B5.out.size))
        have F6 := Lib.hid (F5.out.below hb6)
        clear hb6
        have r7 := Row.new w6 [.slice (some ⟨w.heap.size, 0, none⟩) 1 i, .int .i64 0, .int .i64 d, .int .i64 (256 - (d : Int))] 34
        have a7 : Below w6.heap.size w6 (w6.alloc (.cells #[.slice (some ⟨w.heap.size, 0, none⟩) 1 i, .int .i64 0, .int .i64 d, .int .i64 (256 - (d : Int))] 34)) := (Below.refl _ _).alloc (Nat.le_refl _) _
        have B7 := Lib.hid (B6.out.trans (a7.mono B6.out.size))
        have F7 := Lib.hid (F6.out.below a7)
        have R7 := Lib.hid r7
        have C7 := CL.out d (256 - (d : Int)) _ (by omega) (F7.out.one n0) (errType_below B7.out HE.out (cell_lt HE.out))
        rw [edges_ok d hd257] at C7
        have D7 := Lib.hid C7
        have hP := B6.out.size
        clear r7 a7 C7
        go_wp2_with (go_at_call 27; refine (WW.out _).mono ?_; rintro e w' ⟨rfl, rfl⟩)
        go_at_call 18
        refine D7.out.mono ?_
        rintro e w8 ⟨rfl, hb8⟩
        obtain ⟨P, hPP⟩ : ∃ P, P = w6.heap.size := ⟨_, rfl⟩
        rw [← hPP] at hP R7
        rw [← hPP]
        have B8 := Lib.hid (B7.out.trans (hb8.mono B7.out.size))
        have F8 := Lib.hid (F7.out.below hb8)
        have r8 := R7.out.below hb8 (by rw [hPP]; simp)
        have gp : w.heap.size ≠ P := by
          have h1 := F6.out.lt
          omega
        clear hPP hb8 D7
        have R8 := Lib.hid r8
        obtain ⟨p0, p1, p2, p3⟩ := four_cells' r8
        have pf := r8.free 3 (by simp)
        have r9 := r8.set 3 (by simp) (.int .i64 (256 - (d : Int) + 1))
        simp only [List.set_cons_zero, List.set_cons_succ] at r9
        obtain ⟨w9, hw9⟩ : ∃ w9, w9 = w8.setCell ⟨P, 3, none⟩ (.int .i64 (256 - (d : Int) + 1)) := ⟨_, rfl⟩
        rw [← hw9] at r9
        have B9 : Below w.heap.size w w9 := by rw [hw9]; exact B8.out.setCell hP _
        have F9 : Filled w9 w.heap.size i i exRet := by
          obtain ⟨vs, g1, g2, g3⟩ := F8.out
          rw [hw9]
          exact ⟨vs, g1, g2.other ⟨P, 3, none⟩ gp _, g3⟩
        have E9 : ErrType w9 := by
          have h1 := errType_below B8.out HE.out (cell_lt HE.out)
          have h2 := cell_lt HE.out
          rw [hw9]
          unfold ErrType at *
          rw [World.cell?_setCell_other _ _ _ _ (by first | (simp; done) | (simp; omega))]; exact h1
        have C9 := CL.out d (256 - (d : Int) + 1) w9 (by omega) (F9.one n0) E9
        rw [edges_more d hd257] at C9
        have D9 := Lib.hid C9
        have HB9 := Lib.hid B9
        clear r8 C9 B9 F9 E9 gp
        go_upto_region 15 with fail
        rw [← hw9]
        clear hw9 p0 p1 p2 p3 pf
        obtain ⟨p0, p1, p2, p3⟩ := four_cells' r9
        clear r9
        go_wp2_with fail
        go_at_call 18
        refine D9.out.mono ?_
        intro e w10 h10
        obtain ⟨v10, rfl, h10, hb10⟩ := h10.returned
        have B10 := Lib.hid (HB9.out.trans (hb10.mono HB9.out.size))
        have P10 := Lib.hid h10
        clear h10 hb10 p0 p1 p2 p3
        go_wp2_with fail
        go_at_call 26
        refine (no_f 0 1 w10).mono ?_
        intro e w11 h11
        obtain ⟨f11, rfl, h11, hb11⟩ := h11.returned
        have B11 := Lib.hid (B10.out.trans (hb11.mono B10.out.size))
        have SM2 := Lib.hid (same_ef (by intro l k h; cases h; simp) P10.out h11 (errType_below B11.out HE.out (cell_lt HE.out)))
        clear h11 hb11
        go_wp2_with fail
        go_at_call 12
        refine SM2.out.mono ?_
        rintro e w12 ⟨rfl, hb12⟩
        have B12 := Lib.hid (B11.out.trans (hb12.mono B11.out.size))
        clear hb12
        go_wp2_with fail
        go_at_call 16
        refine (awake_any w12 (errType_below B12.out HE.out (cell_lt HE.out))).mono ?_
        rintro e w13 ⟨rfl, hb13⟩
        have B13 := Lib.hid (B12.out.trans (hb13.mono B12.out.size))
        clear hb13
        go_wp2_with fail
        go_ret
        exact ⟨rfl, B13.out⟩
      · rw [if_neg hbig] at CK
        have CK2 := Lib.hid (show Calls Tryd.prog 13 #[.slice (some ⟨w.heap.size, 0, none⟩) i i, .bool false] wr fun e w' => e = .returned .nilIface ∧ Below wr.heap.size wr w' from CK)
        clear CK
        go_wp2_with fail
        go_at_call 13
        refine CK2.out.mono ?_
        rintro e w2 ⟨rfl, hb2⟩
        have B2 := Lib.hid (hb.out.trans (hb2.mono hb.out.size))
        have F2 := Lib.hid (hf.out.below hb2)
        clear hb2
        have hbd : decide ((2048 : Int) < (i : Int)) = false := by simp; omega
        have hbe : decide ((i : Int) ≤ (2048 : Int)) = true := by simp; omega
        go_wp2_with fail
        go_at_call 26
        refine (no_any codeS 0 3 w2).mono ?_
        rintro e w5 ⟨rfl, hw5⟩
        have hb5 : Below w2.heap.size w2 w5 := by rw [hw5]; exact (((Below.refl _ _).alloc (Nat.le_refl _) _).alloc (by simp) _).alloc (by simp; omega) _
        have B5 := Lib.hid (B2.out.trans (hb5.mono B2.out.size))
        have F5 := Lib.hid (F2.out.below hb5)
        clear hw5 hb5
        go_wp2_with fail
        go_at_call 12
        refine (same_nilErr _ w5).mono ?_
        rintro e w6 ⟨rfl, hb6⟩
        have B6 := Lib.hid (B5.out.trans (hb6.mono B5.out.size))
        have F6 := Lib.hid (F5.out.below hb6)
        clear hb6
        have r7 := Row.new w6 [.slice (some ⟨w.heap.size, 0, none⟩) 1 i, .int .i64 0, .int .i64 d, .int .i64 (256 - (d : Int))] 34
        have a7 : Below w6.heap.size w6 (w6.alloc (.cells #[.slice (some ⟨w.heap.size, 0, none⟩) 1 i, .int .i64 0, .int .i64 d, .int .i64 (256 - (d : Int))] 34)) := (Below.refl _ _).alloc (Nat.le_refl _) _
        have B7 := Lib.hid (B6.out.trans (a7.mono B6.out.size))
        have F7 := Lib.hid (F6.out.below a7)
        have R7 := Lib.hid r7
        have C7 := CL.out d (256 - (d : Int)) _ (by omega) (F7.out.one n0) (errType_below B7.out HE.out (cell_lt HE.out))
        rw [edges_ok d hd257] at C7
        have D7 := Lib.hid C7
        have hP := B6.out.size
        clear r7 a7 C7
        go_wp2_with (go_at_call 27; refine (WW.out _).mono ?_; rintro e w' ⟨rfl, rfl⟩)
        go_at_call 18
        refine D7.out.mono ?_
        rintro e w8 ⟨rfl, hb8⟩
        obtain ⟨P, hPP⟩ : ∃ P, P = w6.heap.size := ⟨_, rfl⟩
        rw [← hPP] at hP R7
        rw [← hPP]
        have B8 := Lib.hid (B7.out.trans (hb8.mono B7.out.size))
        have F8 := Lib.hid (F7.out.below hb8)
        have r8 := R7.out.below hb8 (by rw [hPP]; simp)
        have gp : w.heap.size ≠ P := by
          have h1 := F6.out.lt
          omega
        clear hPP hb8 D7
        have R8 := Lib.hid r8
        obtain ⟨p0, p1, p2, p3⟩ := four_cells' r8
        have pf := r8.free 3 (by simp)
        have r9 := r8.set 3 (by simp) (.int .i64 (256 - (d : Int) + 1))
        simp only [List.set_cons_zero, List.set_cons_succ] at r9
        obtain ⟨w9, hw9⟩ : ∃ w9, w9 = w8.setCell ⟨P, 3, none⟩ (.int .i64 (256 - (d : Int) + 1)) := ⟨_, rfl⟩
        rw [← hw9] at r9
        have B9 : Below w.heap.size w w9 := by rw [hw9]; exact B8.out.setCell hP _
        have F9 : Filled w9 w.heap.size i i exRet := by
          obtain ⟨vs, g1, g2, g3⟩ := F8.out
          rw [hw9]
          exact ⟨vs, g1, g2.other ⟨P, 3, none⟩ gp _, g3⟩
        have E9 : ErrType w9 := by
          have h1 := errType_below B8.out HE.out (cell_lt HE.out)
          have h2 := cell_lt HE.out
          rw [hw9]
          unfold ErrType at *
          rw [World.cell?_setCell_other _ _ _ _ (by first | (simp; done) | (simp; omega))]; exact h1
        have C9 := CL.out d (256 - (d : Int) + 1) w9 (by omega) (F9.one n0) E9
        rw [edges_more d hd257] at C9
        have D9 := Lib.hid C9
        have HB9 := Lib.hid B9
        clear r8 C9 B9 F9 E9 gp
        go_upto_region 15 with fail
        rw [← hw9]
        clear hw9 p0 p1 p2 p3 pf
        obtain ⟨p0, p1, p2, p3⟩ := four_cells' r9
        clear r9
        go_wp2_with fail
        go_at_call 18
        refine D9.out.mono ?_
        intro e w10 h10
        obtain ⟨v10, rfl, h10, hb10⟩ := h10.returned
        have B10 := Lib.hid (HB9.out.trans (hb10.mono HB9.out.size))
        have P10 := Lib.hid h10
        clear h10 hb10 p0 p1 p2 p3
        go_wp2_with fail
        go_at_call 26
        refine (no_f 0 1 w10).mono ?_
        intro e w11 h11
        obtain ⟨f11, rfl, h11, hb11⟩ := h11.returned
        have B11 := Lib.hid (B10.out.trans (hb11.mono B10.out.size))
        have SM2 := Lib.hid (same_ef (by intro l k h; cases h; simp) P10.out h11 (errType_below B11.out HE.out (cell_lt HE.out)))
        clear h11 hb11
        go_wp2_with fail
        go_at_call 12
        refine SM2.out.mono ?_
        rintro e w12 ⟨rfl, hb12⟩
        have B12 := Lib.hid (B11.out.trans (hb12.mono B11.out.size))
        clear hb12
        go_wp2_with fail
        go_at_call 16
        refine (awake_any w12 (errType_below B12.out HE.out (cell_lt HE.out))).mono ?_
        rintro e w13 ⟨rfl, hb13⟩
        have B13 := Lib.hid (B12.out.trans (hb13.mono B12.out.size))
        clear hb13
        go_wp2_with fail
        go_ret
        exact ⟨rfl, B13.out⟩
end Go.Proofs.YtncgkhgjclodaaaDoor
