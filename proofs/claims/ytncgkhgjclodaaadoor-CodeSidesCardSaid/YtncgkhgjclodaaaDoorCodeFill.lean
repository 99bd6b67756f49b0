/- The statements' help right (layer 4): so many instructions alike, in new memory; the contract of right. The conditions: the instruction's number is a word, there is one place at least and 2,048 at most. -/
import Derived.Test.YtncgkhgjclodaaaDoorCodeCheck
import Derived.Test.YtncgkhgjclodaaaDoorKeepCode
import Derived.Laws.MakeOwn
namespace Go.Proofs.YtncgkhgjclodaaaDoor
open Go.RowKit
set_option linter.unusedVariables false

theorem make_ins (c : Nat) (hc : c ≤ 65536) (W : World) : (Instr.makeSlice 22 (.int .i64 (c : Int)) (.int .i64 (c : Int))).run Tryd.prog W = .ok (.slice (some ⟨W.heap.size, 0, none⟩) c c)
    (W.alloc (.cells (madeCells #[.int .i64 0, .int .i64 0, .int .i64 0, .int .i64 0, .int .u64 0, .int .i64 0, .int .i64 0] (c * 7)) 55)) := by
  obtain ⟨i, hi, hz, hs, hb⟩ := info_parts info_ins
  have := run_make (P := Tryd.prog) W 22 55 i _ Tryd.underlying22 hi hz .i64 .i64 c c (by omega) (by omega) (by rw [hb]; omega) (by omega)
  rw [hs] at this
  simp only [Int.toNat_natCast] at this
  exact this
/-- Block g has room for n instructions; the first i are x. -/
def Filled (W : World) (g n i : Nat) (x : Inst) : Prop := ∃ vs : List Value, vs.length = n * 7 ∧ Row W g vs ∧ ∀ t k, t < i → k < 7 → vs[t * 7 + k]? = x.vs[k]?
theorem Filled.new (w : World) (n : Nat) (x : Inst) (t : TypeId) (cs : Array Value) (hc : cs.size = n * 7) : Filled (w.alloc (.cells cs t)) w.heap.size n 0 x :=
  ⟨cs.toList, by simp [hc], by simpa using Row.new w cs.toList t, fun t k h => by omega⟩
theorem Filled.below {W W' : World} {g n i : Nat} {x : Inst} (h : Filled W g n i x) (hb : Below W.heap.size W W') : Filled W' g n i x := by
  obtain ⟨vs, h1, h2, h3⟩ := h
  exact ⟨vs, h1, h2.below hb h2.lt, h3⟩
theorem Filled.lt {W : World} {g n i : Nat} {x : Inst} (h : Filled W g n i x) : g < W.heap.size := by
  obtain ⟨vs, h1, h2, h3⟩ := h
  exact h2.lt
/-- What a store asks of the cells. -/
theorem Filled.cells {W : World} {g n i j : Nat} {x : Inst} (h : Filled W g n i x) (hj : j < n * 7) : ∃ u, W.cell? ⟨g, j, none⟩ = some u ∧ W.frozen? ⟨g, j, none⟩ = false := by
  obtain ⟨vs, h1, h2, h3⟩ := h
  exact ⟨_, h2.cell j (by omega), h2.free j (by omega)⟩
theorem Filled.step {W : World} {g n i : Nat} {x : Inst} (h : Filled W g n i x) (hi : i < n) :
    Filled (((((((W.setCell ⟨g, i * 7, none⟩ (.int .i64 x.op)).setCell ⟨g, i * 7 + 1, none⟩ (.int .i64 x.a)).setCell ⟨g, i * 7 + 2, none⟩ (.int .i64 x.b)).setCell ⟨g, i * 7 + 3, none⟩ (.int .i64 x.c)).setCell ⟨g, i * 7 + 4, none⟩ (.int .u64 x.v)).setCell ⟨g, i * 7 + 5, none⟩ (.int .i64 x.m)).setCell ⟨g, i * 7 + 6, none⟩ (.int .i64 x.wh)) g n (i + 1) x := by
  obtain ⟨vs, h1, h2, h3⟩ := h
  have l1 := h2.set (i * 7) (by omega) (.int .i64 x.op)
  have l2 := l1.set (i * 7 + 1) (by simp; omega) (.int .i64 x.a)
  have l3 := l2.set (i * 7 + 2) (by simp; omega) (.int .i64 x.b)
  have l4 := l3.set (i * 7 + 3) (by simp; omega) (.int .i64 x.c)
  have l5 := l4.set (i * 7 + 4) (by simp; omega) (.int .u64 x.v)
  have l6 := l5.set (i * 7 + 5) (by simp; omega) (.int .i64 x.m)
  have l7 := l6.set (i * 7 + 6) (by simp; omega) (.int .i64 x.wh)
  refine ⟨_, by simp [h1], l7, fun t k ht hk => ?_⟩
  by_cases hti : t = i
  · subst hti
    match k, hk with
    | 0, _ => simp [Inst.vs, List.getElem?_set, h1]; omega
    | 1, _ => simp [Inst.vs, List.getElem?_set, h1]; omega
    | 2, _ => simp [Inst.vs, List.getElem?_set, h1]; omega
    | 3, _ => simp [Inst.vs, List.getElem?_set, h1]; omega
    | 4, _ => simp [Inst.vs, List.getElem?_set, h1]; omega
    | 5, _ => simp [Inst.vs, List.getElem?_set, h1]; omega
    | 6, _ => simp [Inst.vs, List.getElem?_set, h1]; omega
  · rw [List.getElem?_set_ne (by omega), List.getElem?_set_ne (by omega), List.getElem?_set_ne (by omega), List.getElem?_set_ne (by omega), List.getElem?_set_ne (by omega), List.getElem?_set_ne (by omega), List.getElem?_set_ne (by omega)]
    exact h3 t k (by omega) hk
theorem getD_repl (n i : Nat) (x : Inst) (h : i < n) : (List.replicate n x).getD i inst0 = x := by
  rw [List.getD, List.getElem?_replicate, if_pos h]; rfl
theorem Filled.insIn {W : World} {g n : Nat} {x : Inst} (h : Filled W g n n x) : InsIn W (some ⟨g, 0, none⟩) (List.replicate n x) := by
  obtain ⟨vs, h1, h2, h3⟩ := h
  refine insIn_of_block h2.lt (fun j u hu => ?_)
  have hj : j < n * 7 := by
    have := (List.getElem?_eq_some_iff.1 hu).1
    rw [flatIns_length, List.length_replicate] at this; exact this
  have e := flatIns_get (List.replicate n x) (j / 7) (j % 7) (by simp; omega) (by omega)
  rw [show j / 7 * 7 + j % 7 = j by omega, hu, getD_repl n _ x (by omega)] at e
  have k := h3 (j / 7) (j % 7) (by omega) (by omega)
  rw [show j / 7 * 7 + j % 7 = j by omega, ← e] at k
  rw [h2.cell j (by omega), ← List.getElem?_eq_getElem, k]
theorem row_seven {W : World} {g o b : Nat} {vs : List Value} (h : Row W b vs) (hg : b ≠ g) (v0 v1 v2 v3 v4 v5 v6 : Value) :
    Row (((((((W.setCell ⟨g, o, none⟩ v0).setCell ⟨g, o + 1, none⟩ v1).setCell ⟨g, o + 2, none⟩ v2).setCell ⟨g, o + 3, none⟩ v3).setCell ⟨g, o + 4, none⟩ v4).setCell ⟨g, o + 5, none⟩ v5).setCell ⟨g, o + 6, none⟩ v6) b vs :=
  ((((((h.other ⟨g, o, none⟩ hg v0).other ⟨g, o + 1, none⟩ hg v1).other ⟨g, o + 2, none⟩ hg v2).other ⟨g, o + 3, none⟩ hg v3).other ⟨g, o + 4, none⟩ hg v4).other ⟨g, o + 5, none⟩ hg v5).other ⟨g, o + 6, none⟩ hg v6
theorem below_seven {w W : World} {g o : Nat} (h : Below w.heap.size w W) (hg : w.heap.size ≤ g) (v0 v1 v2 v3 v4 v5 v6 : Value) :
    Below w.heap.size w (((((((W.setCell ⟨g, o, none⟩ v0).setCell ⟨g, o + 1, none⟩ v1).setCell ⟨g, o + 2, none⟩ v2).setCell ⟨g, o + 3, none⟩ v3).setCell ⟨g, o + 4, none⟩ v4).setCell ⟨g, o + 5, none⟩ v5).setCell ⟨g, o + 6, none⟩ v6) :=
  ((((((h.setCell hg v0).setCell hg v1).setCell hg v2).setCell hg v3).setCell hg v4).setCell hg v5).setCell hg v6
/-- What Check says of so many alike. -/
theorem check_repl (n : Nat) (x : Inst) (lib : Bool) (h1 : 1 ≤ n) (h2 : n ≤ 2048) : checkRes (List.replicate n x) lib = if rightB x n lib then none else some (0, 5) := by
  unfold checkRes
  rw [List.length_replicate, if_neg (by omega)]
  by_cases h : rightB x n lib = true
  · rw [if_pos h, firstBad_none n lib _ 0 (fun t ht => by rw [List.length_replicate] at ht; rw [getD_repl n t x ht]; exact h)]; rfl
  · rw [if_neg h, firstBad_at n lib (List.replicate n x) 0 0 (by simp; omega) (fun t ht => by omega) (by rw [getD_repl n 0 x (by omega)]; simpa using h)]; rfl

set_option maxHeartbeats 2000000 in
set_option maxRecDepth 100000 in
theorem right_law (op a b c v m wh : Int) (hv : 0 ≤ v ∧ v ≤ 18446744073709551615) (n : Nat) (h1 : 1 ≤ n) (h2 : n ≤ 2048) (lib : Bool) (w : World) :
    Calls Tryd.prog 25 #[insV op a b c v m wh, .int .i64 n, .bool lib] w fun e w' => e = .returned (.bool (rightB ⟨op, a, b, c, v, m, wh⟩ n lib)) ∧ Below w.heap.size w w' := by
  have mk := make_ins n (by omega)
  obtain ⟨Z, hZ⟩ : ∃ Z, Z = madeCells #[.int .i64 0, .int .i64 0, .int .i64 0, .int .i64 0, .int .u64 0, .int .i64 0, .int .i64 0] (n * 7) := ⟨_, rfl⟩
  rw [← hZ] at mk
  have hZs : Z.size = n * 7 := by rw [hZ, size_madeCells]
  have rx := Row.new w [.int .i64 op, .int .i64 a, .int .i64 b, .int .i64 c, .int .u64 v, .int .i64 m, .int .i64 wh] 55
  obtain ⟨w0, hw0⟩ : ∃ w0, w0 = w.alloc (.cells #[.int .i64 op, .int .i64 a, .int .i64 b, .int .i64 c, .int .u64 v, .int .i64 m, .int .i64 wh] 55) := ⟨_, rfl⟩
  have hb0 : Below w.heap.size w w0 := by rw [hw0]; exact (Below.refl _ _).alloc (Nat.le_refl _) _
  have hs0 : w0.heap.size = w.heap.size + 1 := by rw [hw0]; simp
  have rx0 : Row w0 w.heap.size [.int .i64 op, .int .i64 a, .int .i64 b, .int .i64 c, .int .u64 v, .int .i64 m, .int .i64 wh] := by rw [hw0]; exact rx
  have hF := Filled.new w0 n ⟨op, a, b, c, v, m, wh⟩ 55 Z hZs
  have HF := Lib.hid (show Filled (w0.alloc (.cells Z 55)) (w.heap.size + 1) n 0 ⟨op, a, b, c, v, m, wh⟩ from by rw [← hs0]; exact hF)
  have RX := Lib.hid (rx0.alloc (.cells Z 55))
  have HB := Lib.hid (hb0.alloc hb0.size (.cells Z 55))
  rw [hw0] at HF RX HB
  have CK := Lib.hid (fun W (hI : InsIn W (some ⟨w.heap.size + 1, 0, none⟩) (List.replicate n ⟨op, a, b, c, v, m, wh⟩)) => check_any (some ⟨w.heap.size + 1, 0, none⟩) n (List.replicate n ⟨op, a, b, c, v, m, wh⟩) lib W (by simp; omega) hI (fun i hi => by rw [List.length_replicate] at hi; rw [getD_repl n i _ hi]; exact hv))
  rw [check_repl n _ lib h1 h2, List.length_replicate] at CK
  obtain ⟨q, hq⟩ : ∃ q, q = rightB ⟨op, a, b, c, v, m, wh⟩ n lib := ⟨_, rfl⟩
  rw [← hq] at CK ⊢
  clear hZ rx hw0 hb0 hs0 rx0 hF hv hZs hq
  obtain ⟨X, hX⟩ : ∃ X, X = w.heap.size := ⟨_, rfl⟩
  go_enter Tryd.func25, Tryd.ntmps25
  go_wp2_with fail
  go_loopw [8] (fun vi wr => ∃ i : Nat, i ≤ n ∧ vi = .int .i64 i ∧ Hid (Filled wr (w.heap.size + 1) n i ⟨op, a, b, c, v, m, wh⟩) ∧ Hid (Row wr w.heap.size [.int .i64 op, .int .i64 a, .int .i64 b, .int .i64 c, .int .u64 v, .int .i64 m, .int .i64 wh]) ∧ Hid (Below w.heap.size w wr)) (fun vi _ => n - (intOf vi).toNat)
  case atStart => exact ⟨0, by omega, rfl, HF, RX, HB⟩
  case round =>
    obtain ⟨i, hi, rfl, hf, hr, hb⟩ := hrel
    by_cases hlt : i < n
    · have x0 := hr.out.cell 0 (by simp)
      have x1 := hr.out.cell 1 (by simp)
      have x2 := hr.out.cell 2 (by simp)
      have x3 := hr.out.cell 3 (by simp)
      have x4 := hr.out.cell 4 (by simp)
      have x5 := hr.out.cell 5 (by simp)
      have x6 := hr.out.cell 6 (by simp)
      simp only [List.getElem_cons_zero, List.getElem_cons_succ] at x0 x1 x2 x3 x4 x5 x6
      obtain ⟨u0, c0, f0⟩ := hf.out.cells (j := i * 7) (by omega)
      obtain ⟨u1, c1, f1⟩ := hf.out.cells (j := i * 7 + 1) (by omega)
      obtain ⟨u2, c2, f2⟩ := hf.out.cells (j := i * 7 + 2) (by omega)
      obtain ⟨u3, c3, f3⟩ := hf.out.cells (j := i * 7 + 3) (by omega)
      obtain ⟨u4, c4, f4⟩ := hf.out.cells (j := i * 7 + 4) (by omega)
      obtain ⟨u5, c5, f5⟩ := hf.out.cells (j := i * 7 + 5) (by omega)
      obtain ⟨u6, c6, f6⟩ := hf.out.cells (j := i * 7 + 6) (by omega)
      go_wp2_with fail
      go_roundw
      case rel => exact ⟨i + 1, by omega, by go_num, Lib.hid (hf.out.step hlt), Lib.hid (row_seven hr.out (by omega) _ _ _ _ _ _ _), Lib.hid (below_seven hb.out (by omega) _ _ _ _ _ _ _)⟩
      case measure => simp [intOf]; omega
    · obtain rfl : i = n := by omega
      have CK1 := CK.out wr hf.out.insIn
      cases q with
      | true =>
        have CK2 := Lib.hid (show Calls Tryd.prog 13 #[.slice (some ⟨w.heap.size + 1, 0, none⟩) i i, .bool lib] wr fun e w' => e = .returned .nilIface ∧ Below wr.heap.size wr w' from CK1)
        clear CK1
        go_wp2_with fail
        go_at_call 13
        refine CK2.out.mono ?_
        rintro e w2 ⟨rfl, hb2⟩
        have BL2 := Lib.hid (hb.out.trans (hb2.mono hb.out.size))
        clear hb2
        go_wp2_with fail
        go_ret
        exact ⟨rfl, BL2.out⟩
      | false =>
        have CK2 := Lib.hid (show Calls Tryd.prog 13 #[.slice (some ⟨w.heap.size + 1, 0, none⟩) i i, .bool lib] wr fun e w' => ∃ x, e = .returned (.iface 67 (.pointer (some ⟨x, 0, none⟩))) ∧ ErrAt w' (.iface 67 (.pointer (some ⟨x, 0, none⟩))) [(codeS, 0)] 5 ∧ Below wr.heap.size wr w' from CK1)
        clear CK1
        go_wp2_with fail
        go_at_call 13
        refine CK2.out.mono ?_
        rintro e w2 ⟨x, rfl, _, hb2⟩
        have BL2 := Lib.hid (hb.out.trans (hb2.mono hb.out.size))
        clear hb2
        go_wp2_with fail
        go_ret
        exact ⟨rfl, BL2.out⟩
end Go.Proofs.YtncgkhgjclodaaaDoor
