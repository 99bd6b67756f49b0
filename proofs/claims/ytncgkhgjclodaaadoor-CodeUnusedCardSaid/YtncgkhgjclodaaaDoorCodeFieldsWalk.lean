/- Which fields an instruction uses: the contract of Fields, the walk of CodeFields. The condition: the library's variable errors.errorType holds the type error. -/
import Derived.Test.YtncgkhgjclodaaaDoorCodeAwake
import Derived.Test.YtncgkhgjclodaaaDoorRefOf
import Derived.BigQuiet
namespace Go.Proofs.YtncgkhgjclodaaaDoor
open Go.RowKit
set_option linter.unusedVariables false

theorem results_tmp4 {fn : Func} {t u v x : Tmp} (h : fn.results = #[.tmp t, .tmp u, .tmp v, .tmp x]) (tmps : Array Value) (P : Program) (w : World) :
    (results fn tmps).run P w = .ok (.tuple #[tmps.getD t undef, tmps.getD u undef, tmps.getD v undef, tmps.getD x undef]) w := by
  simp [results, h]
theorem vOf_ne (op : Int) : (vOf op != 0) = (shapeOf op).V := by
  cases hI : (shapeOf op).Is with
  | false =>
    have hV : (shapeOf op).V = false := by
      by_cases h : 1 ≤ op ∧ op ≤ 58
      · have hk : ∀ k : Fin 59, 1 ≤ k.1 → (shapeOf (k.1 : Int)).Is = true := by decide
        have h2 := hk ⟨op.toNat, by omega⟩ (by show 1 ≤ op.toNat; omega)
        rw [show (((⟨op.toNat, by omega⟩ : Fin 59).1 : Nat) : Int) = op by simp; omega, hI] at h2
        cases h2
      · unfold shapeOf; rw [if_neg h]; rfl
    rw [hV]; unfold vOf; rw [if_pos hI]; rfl
  | true =>
    obtain ⟨h1, h2, h3, h4⟩ := tab_any op hI
    unfold vOf
    rw [if_neg (by rw [hI]; simp)]
    by_cases c1 : (shapeOf op).NoC = true ∨ op = 43
    · rw [if_pos c1]
      rcases c1 with c | c
      · rw [(h1 c).2.2.2.1]; rfl
      · rw [(h2 c).2.2.1]; rfl
    · rw [if_neg c1]
      by_cases c2 : (shapeOf op).Place = true
      · rw [if_pos c2, (h3 c2).1]; rfl
      · rw [if_neg c2]
        by_cases c3 : op = 22
        · rw [if_pos c3, (h4 c3).1]; rfl
        · rw [if_neg c3]
          cases (shapeOf op).V <;> simp

set_option maxHeartbeats 1000000 in
/-- Which fields an operation's instructions use. -/
theorem fields_any (op : Int) (w : World) : Calls Tryd.prog 23 #[.int .i64 op] w fun e w' =>
    e = .returned (.tuple #[.bool (shapeOf op).A, .bool (shapeOf op).B, .bool (shapeOf op).C, .bool (shapeOf op).V]) ∧ Below w.heap.size w w' := by
  have RW := Lib.hid (fun W => row_any op W)
  rw [← vOf_ne]
  unfold RowPost rowCs at RW
  generalize (shapeOf op).A = A at RW ⊢
  generalize (shapeOf op).B = B at RW ⊢
  generalize (shapeOf op).C = C at RW ⊢
  generalize (shapeOf op).NoB = NoB at RW
  generalize (shapeOf op).NoC = NoC at RW
  generalize (shapeOf op).Is = Is at RW
  generalize vOf op = vk at RW ⊢
  go_enter Tryd.func23, Tryd.ntmps23
  go_wp2_with fail
  go_at_call 36
  refine (RW.out _).mono ?_
  rintro e w1 ⟨rfl, hb⟩
  have B1 := Lib.hid hb
  have hr := Row.new w1 [.bool A, .bool B, .bool C, .bool NoB, .bool NoC, .int .i64 vk] 79
  have y0 := hr.cell 0 (by simp)
  have y1 := hr.cell 1 (by simp)
  have y2 := hr.cell 2 (by simp)
  have y5 := hr.cell 5 (by simp)
  clear hb hr
  go_wp2_with fail
  go_quiet (fail)
  go_wp2_with fail
  refine bodyPost_ret (results_tmp4 rfl _ _ _) rfl ⟨rfl, ?_⟩
  have hb2 := B1.out.alloc B1.out.size (.cells #[.bool A, .bool B, .bool C, .bool NoB, .bool NoC, .int .i64 vk] 79)
  exact ⟨hb2.os, hb2.tape, hb2.output, hb2.size, hb2.block⟩

set_option maxHeartbeats 2000000 in
theorem codeFields_walk (op : Int) (hop : (Lit.int .i64 op).wf = true) (w : World) (hE : ErrType w) : Calls Tryd.prog 6 #[.int .i64 op] w fun e w' => e = .returned (.bool true) ∧ Below w.heap.size w w' := by
  have FL := Lib.hid (fun W => fields_any op W)
  have OF := Lib.hid (fun W => of_any op W)
  have HE := Lib.hid hE
  unfold Shp.cs at OF
  generalize (shapeOf op).A = A at FL OF
  generalize (shapeOf op).B = B at FL OF
  generalize (shapeOf op).C = C at FL OF
  generalize (shapeOf op).V = V at FL OF
  generalize (shapeOf op).NoB = NoB at OF
  generalize (shapeOf op).NoC = NoC at OF
  generalize (shapeOf op).Place = Pl at OF
  generalize (shapeOf op).Is = Is at OF
  clear hop hE
  go_enter Tryd.func6, Tryd.ntmps6
  go_wp2_with fail
  go_at_call 23
  refine (FL.out _).mono ?_
  rintro e w1 ⟨rfl, hb1⟩
  have B1 := Lib.hid hb1
  clear hb1
  go_wp2_with fail
  go_at_call 24
  refine (OF.out _).mono ?_
  rintro e w2 ⟨rfl, hb2⟩
  have B2 := Lib.hid (B1.out.trans (hb2.mono B1.out.size))
  clear hb2
  have hr := Row.new w2 [.bool A, .bool B, .bool C, .bool V, .bool NoB, .bool NoC, .bool Pl, .bool Is] 49
  have B3 := Lib.hid (B2.out.alloc B2.out.size (.cells #[.bool A, .bool B, .bool C, .bool V, .bool NoB, .bool NoC, .bool Pl, .bool Is] 49))
  go_upto_region 3 with fail
  obtain ⟨W, hW⟩ : ∃ W, W = w2.alloc (.cells #[.bool A, .bool B, .bool C, .bool V, .bool NoB, .bool NoC, .bool Pl, .bool Is] 49) := ⟨_, rfl⟩
  obtain ⟨Y, hY⟩ : ∃ Y, Y = w2.heap.size := ⟨_, rfl⟩
  rw [← hW] at B3
  have hr' : Row W Y [.bool A, .bool B, .bool C, .bool V, .bool NoB, .bool NoC, .bool Pl, .bool Is] := by rw [hW, hY]; exact hr
  rw [← hW, ← hY]
  clear hW hY hr
  have y0 := hr'.cell 0 (by simp)
  have y1 := hr'.cell 1 (by simp)
  have y2 := hr'.cell 2 (by simp)
  have y3 := hr'.cell 3 (by simp)
  simp only [List.getElem_cons_zero, List.getElem_cons_succ] at y0 y1 y2 y3
  clear hr'
  have ba : ∀ b : Bool, (b == b) = true := fun b => by simp
  go_wp2_with fail
  go_at_call 16
  refine (awake_any W (errType_below B3.out HE.out (cell_lt HE.out))).mono ?_
  rintro e w6 ⟨rfl, hb6⟩
  have B6 := Lib.hid (B3.out.trans (hb6.mono B3.out.size))
  clear hb6
  go_wp2_with fail
  go_ret
  exact ⟨rfl, B6.out⟩
end Go.Proofs.YtncgkhgjclodaaaDoor
