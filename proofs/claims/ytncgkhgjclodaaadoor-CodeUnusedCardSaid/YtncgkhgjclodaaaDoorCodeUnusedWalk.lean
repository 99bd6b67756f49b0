/- A field that isn't used, set: the walk of CodeUnused. The condition: the library's variable errors.errorType holds the type error. -/
import Derived.Test.YtncgkhgjclodaaaDoorCodeSidesWalk
import Derived.Test.YtncgkhgjclodaaaDoorCodeFieldsWalk
import Derived.Deep.RegionHeld3
import Derived.Deep.CutRange
import Derived.Deep.DeepCutAuto
import Derived.Deep.CutBlock
import Derived.Deep.Light
namespace Go.Proofs.YtncgkhgjclodaaaDoor
open Go.RowKit
set_option linter.unusedVariables false

theorem regB_big (k : Int) (h : 1 ≤ k) : regB (31 + k) = false := by unfold regB; simp; omega
theorem unused_a (op a b c v m wh n k : Int) (lib : Bool) (h : 1 ≤ k) : rightB ⟨op, if (shapeOf op).A then 31 + k else k, b, c, v, m, wh⟩ n lib = false := by
  have hf : fieldA ⟨op, if (shapeOf op).A then 31 + k else k, b, c, v, m, wh⟩ = false := by
    unfold fieldA
    show (if (shapeOf op).A = true then _ else _) = false
    cases (shapeOf op).A with
    | true => exact regB_big k h
    | false => exact decide_eq_false (by show ¬ k = 0; omega)
  unfold rightB; rw [hf]; simp
theorem unused_b (op a b c v m wh n k : Int) (lib : Bool) (h : 1 ≤ k) : rightB ⟨op, a, if (shapeOf op).B then 31 + k else k, c, v, m, wh⟩ n lib = false := by
  have hf : fieldB ⟨op, a, if (shapeOf op).B then 31 + k else k, c, v, m, wh⟩ = false := by
    unfold fieldB
    show (if (shapeOf op).B = true then _ else _) = false
    cases (shapeOf op).B with
    | true => show (regB (31 + k) || (_ && decide (31 + k = -1))) = false; rw [regB_big k h, decide_eq_false (by omega)]; simp
    | false => exact decide_eq_false (by show ¬ k = 0; omega)
  unfold rightB; rw [hf]; simp
theorem unused_c (op a b c v m wh n k : Int) (lib : Bool) (h : 1 ≤ k) : rightB ⟨op, a, b, if (shapeOf op).C then 31 + k else k, v, m, wh⟩ n lib = false := by
  have hf : fieldC ⟨op, a, b, if (shapeOf op).C then 31 + k else k, v, m, wh⟩ = false := by
    unfold fieldC
    show (if (shapeOf op).C = true then _ else _) = false
    cases (shapeOf op).C with
    | true => show (regB (31 + k) || (_ && decide (31 + k = -1))) = false; rw [regB_big k h, decide_eq_false (by omega)]; simp
    | false => exact decide_eq_false (by show ¬ k = 0; omega)
  unfold rightB; rw [hf]; simp
theorem unused_v (op a b c m wh n k : Int) (lib : Bool) (h : 1 ≤ k) (hV : (shapeOf op).V = false) : rightB ⟨op, a, b, c, k, m, wh⟩ n lib = false := by
  have hk : ¬ k = 0 := by omega
  have hf : fieldV ⟨op, a, b, c, k, m, wh⟩ n = false := by simp [fieldV, usesV, hV, hk]
  unfold rightB; rw [hf]; simp

/-- Four boxes, apart, in a world of which nothing old has turned. -/
structure Tri (w W : World) (X Y Z V : Nat) (xs ys zs vs : List Value) : Prop where
  b : Box1 w W X xs
  y : Row W Y ys
  z : Row W Z zs
  v : Row W V vs
  ny : w.heap.size ≤ Y ∧ w.heap.size ≤ Z ∧ w.heap.size ≤ V
  dx : X ≠ Y ∧ X ≠ Z ∧ X ≠ V
  dy : Y ≠ Z ∧ Y ≠ V ∧ Z ≠ V
  et : 0 < w.heap.size
section
variable {w W W' : World} {X Y Z V : Nat} {xs ys zs vs : List Value}
theorem Tri.below (h : Tri w W X Y Z V xs ys zs vs) (hb : Below W.heap.size W W') : Tri w W' X Y Z V xs ys zs vs :=
  ⟨h.b.below hb, h.y.below hb h.y.lt, h.z.below hb h.z.lt, h.v.below hb h.v.lt, h.ny, h.dx, h.dy, h.et⟩
theorem box_set (h : Box1 w W X xs) (g i : Nat) (u : Value) (hg : w.heap.size ≤ g) (hx : X ≠ g) (he : 0 < w.heap.size) : Box1 w (W.setCell ⟨g, i, none⟩ u) X xs := by
  have hb := h.b.setCell hg u (p := ⟨g, i, none⟩)
  refine ⟨hb, h.x.other ⟨g, i, none⟩ hx u, ?_⟩
  have := h.e
  unfold ErrType at *
  rw [World.cell?_setCell_other _ _ _ _ (by first | (simp; done) | (simp; omega))]; exact this
theorem Tri.setY (h : Tri w W X Y Z V xs ys zs vs) (i : Nat) (hi : i < ys.length) (u : Value) : Tri w (W.setCell ⟨Y, i, none⟩ u) X Y Z V xs (ys.set i u) zs vs :=
  ⟨box_set h.b Y i u h.ny.1 h.dx.1 h.et, h.y.set i hi u, h.z.other ⟨Y, i, none⟩ (Ne.symm h.dy.1) u, h.v.other ⟨Y, i, none⟩ (Ne.symm h.dy.2.1) u, h.ny, h.dx, h.dy, h.et⟩
theorem Tri.setZ (h : Tri w W X Y Z V xs ys zs vs) (i : Nat) (hi : i < zs.length) (u : Value) : Tri w (W.setCell ⟨Z, i, none⟩ u) X Y Z V xs ys (zs.set i u) vs :=
  ⟨box_set h.b Z i u h.ny.2.1 h.dx.2.1 h.et, h.y.other ⟨Z, i, none⟩ h.dy.1 u, h.z.set i hi u, h.v.other ⟨Z, i, none⟩ (Ne.symm h.dy.2.2) u, h.ny, h.dx, h.dy, h.et⟩
theorem Tri.setV (h : Tri w W X Y Z V xs ys zs vs) (i : Nat) (hi : i < vs.length) (u : Value) : Tri w (W.setCell ⟨V, i, none⟩ u) X Y Z V xs ys zs (vs.set i u) :=
  ⟨box_set h.b V i u h.ny.2.2 h.dx.2.2 h.et, h.y.other ⟨V, i, none⟩ h.dy.2.1 u, h.z.other ⟨V, i, none⟩ h.dy.2.2 u, h.v.set i hi u, h.ny, h.dx, h.dy, h.et⟩
end
theorem tri_new {w w2 : World} {X : Nat} {op a b c v m wh : Int} (h : Box1 w w2 X [.int .i64 op, .int .i64 a, .int .i64 b, .int .i64 c, .int .u64 v, .int .i64 m, .int .i64 wh]) (he : 0 < w.heap.size) (Y Z V : Nat)
    (hY : Y = w2.heap.size ∨ Y = w2.heap.size + 1 ∨ Y = w2.heap.size + 1 + 1) (hZ : Z = w2.heap.size ∨ Z = w2.heap.size + 1 ∨ Z = w2.heap.size + 1 + 1) (hV : V = w2.heap.size ∨ V = w2.heap.size + 1 ∨ V = w2.heap.size + 1 + 1) (d1 : Y ≠ Z) (d2 : Y ≠ V) (d3 : Z ≠ V) :
    Tri w (((w2.alloc (.cells #[.int .i64 op, .int .i64 a, .int .i64 b, .int .i64 c, .int .u64 v, .int .i64 m, .int .i64 wh] 55)).alloc (.cells #[.int .i64 op, .int .i64 a, .int .i64 b, .int .i64 c, .int .u64 v, .int .i64 m, .int .i64 wh] 55)).alloc (.cells #[.int .i64 op, .int .i64 a, .int .i64 b, .int .i64 c, .int .u64 v, .int .i64 m, .int .i64 wh] 55)).drew X Y Z V [.int .i64 op, .int .i64 a, .int .i64 b, .int .i64 c, .int .u64 v, .int .i64 m, .int .i64 wh] [.int .i64 op, .int .i64 a, .int .i64 b, .int .i64 c, .int .u64 v, .int .i64 m, .int .i64 wh] [.int .i64 op, .int .i64 a, .int .i64 b, .int .i64 c, .int .u64 v, .int .i64 m, .int .i64 wh] [.int .i64 op, .int .i64 a, .int .i64 b, .int .i64 c, .int .u64 v, .int .i64 m, .int .i64 wh] := by
  have r0 := ((Row.new w2 [.int .i64 op, .int .i64 a, .int .i64 b, .int .i64 c, .int .u64 v, .int .i64 m, .int .i64 wh] 55).alloc (.cells #[.int .i64 op, .int .i64 a, .int .i64 b, .int .i64 c, .int .u64 v, .int .i64 m, .int .i64 wh] 55)).alloc (.cells #[.int .i64 op, .int .i64 a, .int .i64 b, .int .i64 c, .int .u64 v, .int .i64 m, .int .i64 wh] 55)
  have r1 := (Row.new (w2.alloc (.cells #[.int .i64 op, .int .i64 a, .int .i64 b, .int .i64 c, .int .u64 v, .int .i64 m, .int .i64 wh] 55)) [.int .i64 op, .int .i64 a, .int .i64 b, .int .i64 c, .int .u64 v, .int .i64 m, .int .i64 wh] 55).alloc (.cells #[.int .i64 op, .int .i64 a, .int .i64 b, .int .i64 c, .int .u64 v, .int .i64 m, .int .i64 wh] 55)
  have r2 := Row.new ((w2.alloc (.cells #[.int .i64 op, .int .i64 a, .int .i64 b, .int .i64 c, .int .u64 v, .int .i64 m, .int .i64 wh] 55)).alloc (.cells #[.int .i64 op, .int .i64 a, .int .i64 b, .int .i64 c, .int .u64 v, .int .i64 m, .int .i64 wh] 55)) [.int .i64 op, .int .i64 a, .int .i64 b, .int .i64 c, .int .u64 v, .int .i64 m, .int .i64 wh] 55
  rw [World.size_alloc] at r1
  rw [World.size_alloc, World.size_alloc] at r2
  have all : ∀ g, g = w2.heap.size ∨ g = w2.heap.size + 1 ∨ g = w2.heap.size + 1 + 1 → Row (((w2.alloc (.cells #[.int .i64 op, .int .i64 a, .int .i64 b, .int .i64 c, .int .u64 v, .int .i64 m, .int .i64 wh] 55)).alloc (.cells #[.int .i64 op, .int .i64 a, .int .i64 b, .int .i64 c, .int .u64 v, .int .i64 m, .int .i64 wh] 55)).alloc (.cells #[.int .i64 op, .int .i64 a, .int .i64 b, .int .i64 c, .int .u64 v, .int .i64 m, .int .i64 wh] 55)).drew g [.int .i64 op, .int .i64 a, .int .i64 b, .int .i64 c, .int .u64 v, .int .i64 m, .int .i64 wh] := by
    intro g hg
    rcases hg with rfl | rfl | rfl
    · exact r0.drew
    · exact r1.drew
    · exact r2.drew
  have hb : Below w2.heap.size w2 (((w2.alloc (.cells #[.int .i64 op, .int .i64 a, .int .i64 b, .int .i64 c, .int .u64 v, .int .i64 m, .int .i64 wh] 55)).alloc (.cells #[.int .i64 op, .int .i64 a, .int .i64 b, .int .i64 c, .int .u64 v, .int .i64 m, .int .i64 wh] 55)).alloc (.cells #[.int .i64 op, .int .i64 a, .int .i64 b, .int .i64 c, .int .u64 v, .int .i64 m, .int .i64 wh] 55)).drew := ((((Below.refl _ _).alloc (Nat.le_refl _) _).alloc (by simp) _).alloc (by simp; omega) _).drew
  have xl := h.x.lt
  have sl := h.b.size
  exact ⟨h.below hb, all Y hY, all Z hZ, all V hV, ⟨by omega, by omega, by omega⟩, ⟨by omega, by omega, by omega⟩, ⟨d1, d2, d3⟩, he⟩
/-- What the walk begins with. -/
structure UnusedAt (w W : World) (X : Nat) (op a b c v m wh n k : Int) (s : Nat) (A B C V qu : Bool) : Prop where
  hW : W = w.alloc (.cells #[.int .i64 op, .int .i64 a, .int .i64 b, .int .i64 c, .int .u64 v, .int .i64 m, .int .i64 wh] 55)
  hX : X = w.heap.size
  box : Box1 w W X [.int .i64 op, .int .i64 a, .int .i64 b, .int .i64 c, .int .u64 v, .int .i64 m, .int .i64 wh]
  et : 0 < w.heap.size
  er : ErrType w
  wi : ∀ w, Calls Tryd.prog 27 #[.int .i64 n, .int .i64 20] w fun e w' => e = .returned (.int .i64 s) ∧ w = w'
  r0 : ∀ W, Calls Tryd.prog 25 #[insV op a b c v m wh, .int .i64 (1 + (s : Int)), .bool true] W fun e w' => e = .returned (.bool true) ∧ Below W.heap.size W w'
  fl : ∀ W, Calls Tryd.prog 23 #[.int .i64 op] W fun e w' => e = .returned (.tuple #[.bool A, .bool B, .bool C, .bool V]) ∧ Below W.heap.size W w'
  ry : ∀ W, Calls Tryd.prog 25 #[insV op (if A then 31 + k else k) b c v m wh, .int .i64 (1 + (s : Int)), .bool true] W fun e w' => e = .returned (.bool false) ∧ Below W.heap.size W w'
  rz : ∀ W, Calls Tryd.prog 25 #[insV op a (if B then 31 + k else k) c v m wh, .int .i64 (1 + (s : Int)), .bool true] W fun e w' => e = .returned (.bool false) ∧ Below W.heap.size W w'
  rv : ∀ W, Calls Tryd.prog 25 #[insV op a b (if C then 31 + k else k) v m wh, .int .i64 (1 + (s : Int)), .bool true] W fun e w' => e = .returned (.bool false) ∧ Below W.heap.size W w'
  ru : ∀ W, Calls Tryd.prog 25 #[insV op a b c k m wh, .int .i64 (1 + (s : Int)), .bool true] W fun e w' => e = .returned (.bool qu) ∧ Below W.heap.size W w'
  hu : V = false → qu = false
  hs : s < 20
  k1 : 1 ≤ k
  k2 : k ≤ 1000000
set_option maxHeartbeats 4000000 in
set_option maxRecDepth 100000 in
theorem unused_main (w W : World) (X : Nat) (op a b c v m wh n k by_ : Int) (s : Nat) (A B C V qu : Bool) (hk : (if (decide (by_ < 1) || decide (1000000 < by_)) = true then 1 else by_) = k) (H : UnusedAt w W X op a b c v m wh n k s A B C V qu) :
    Calls Tryd.prog 8 #[insV op a b c v m wh, .int .i64 n, .int .i64 by_] w fun e w' => e = .returned (.bool true) ∧ Below w.heap.size w w' := by
  have WI := Lib.hid H.wi
  have R0 := Lib.hid H.r0
  have FL := Lib.hid H.fl
  have RY := Lib.hid H.ry
  have RZ := Lib.hid H.rz
  have RV := Lib.hid H.rv
  have RU := Lib.hid H.ru
  have HU := Lib.hid H.hu
  have BX := Lib.hid H.box
  have ET := Lib.hid H.et
  have HE := Lib.hid H.er
  have hs := H.hs
  have k1 := H.k1
  have k2 := H.k2
  have hW := H.hW
  have hX := H.hX
  have v31 : IntKind.i64.wrap (31 + k) = 31 + k := by rw [IntKind.wrap_i64]; omega
  have vk : IntKind.u64.wrap k = k := by rw [IntKind.wrap_u64]; omega
  obtain ⟨x0, x1, x2, x3, x4, x5, x6⟩ := seven_cells H.box.x
  clear H
  go_enter Tryd.func8, Tryd.ntmps8
  go_wp2_with (go_at_call 27; refine (WI.out _).mono ?_; rintro e w' ⟨rfl, rfl⟩)
  rw [← hW, ← hX]
  have HX := Lib.hid hX
  clear hW hX
  go_at_call 25
  refine (R0.out _).mono ?_
  rintro e w1 ⟨rfl, hb1⟩
  have B1 := Lib.hid (BX.out.below hb1)
  clear hb1 x0 x1 x2 x3 x4 x5 x6
  obtain ⟨x0, x1, x2, x3, x4, x5, x6⟩ := seven_cells B1.out.x
  go_wp2_with fail
  go_at_call 23
  refine (FL.out _).mono ?_
  rintro e w2 ⟨rfl, hb2⟩
  have B2 := Lib.hid (B1.out.below hb2)
  clear hb2 x0 x1 x2 x3 x4 x5 x6
  obtain ⟨x0, x1, x2, x3, x4, x5, x6⟩ := seven_cells B2.out.x
  obtain ⟨qb, hqb⟩ : ∃ qb, qb = (decide (by_ < 1) || decide (1000000 < by_)) := ⟨_, rfl⟩
  have HK := Lib.hid (show (if qb then 1 else by_) = k by rw [hqb]; exact hk)
  have HQ := Lib.hid hqb
  clear hk hqb
  go_upto_region 5 with fail
  go_cut [36] from 15 to 87 (fun s36 w' => s36 = .bool qb ∧ w2 = w')
  case first =>
    by_cases b1 : by_ < 1
    · obtain rfl : qb = true := by rw [HQ.out]; simp [b1]
      go_wp2_with fail
      go_meet
      exact ⟨rfl, rfl⟩
    · by_cases b2 : 1000000 < by_
      · obtain rfl : qb = true := by rw [HQ.out]; simp [b2]
        go_wp2_with fail
        go_meet
        exact ⟨rfl, rfl⟩
      · obtain rfl : qb = false := by rw [HQ.out]; simp; omega
        go_wp2_with fail
        go_meet
        exact ⟨rfl, rfl⟩
  case rest =>
  obtain ⟨rfl, rfl⟩ := hcut
  go_upto_if 36 with fail
  go_cut [2] from 15 to 87 (fun s2 w' => s2 = .int .i64 k ∧ w2 = w')
  case first =>
    cases qb with
    | true =>
      go_wp2_with fail
      go_meet
      exact ⟨by rw [← HK.out]; rfl, rfl⟩
    | false =>
      go_wp2_with fail
      go_meet
      exact ⟨by rw [← HK.out]; rfl, rfl⟩
  case rest =>
  obtain ⟨rfl, rfl⟩ := hcut
  clear HK HQ
  go_upto_region 7 with fail
  go_cut [11, 12, 13] from 15 to 87 (fun s11 s12 s13 w' => ∃ Y Z V : Nat, s11 = .pointer (some ⟨Y, 0, none⟩) ∧ s12 = .pointer (some ⟨Z, 0, none⟩) ∧ s13 = .pointer (some ⟨V, 0, none⟩) ∧ ∃ Wn, Wn = w' ∧ Hid (Tri w Wn X Y Z V [.int .i64 op, .int .i64 a, .int .i64 b, .int .i64 c, .int .u64 v, .int .i64 m, .int .i64 wh] [.int .i64 op, .int .i64 a, .int .i64 b, .int .i64 c, .int .u64 v, .int .i64 m, .int .i64 wh] [.int .i64 op, .int .i64 a, .int .i64 b, .int .i64 c, .int .u64 v, .int .i64 m, .int .i64 wh] [.int .i64 op, .int .i64 a, .int .i64 b, .int .i64 c, .int .u64 v, .int .i64 m, .int .i64 wh]))
  case first =>
    have KX := Lib.hid (fun w' (hb : Below w2.heap.size w2 w') => seven_cells (B2.out.below hb).x)
    go_region_held3 (fun w' => w'.cell? ⟨X, 0, none⟩ = some (.int .i64 op) ∧ w'.cell? ⟨X, 1, none⟩ = some (.int .i64 a) ∧ w'.cell? ⟨X, 2, none⟩ = some (.int .i64 b) ∧ w'.cell? ⟨X, 3, none⟩ = some (.int .i64 c) ∧ w'.cell? ⟨X, 4, none⟩ = some (.int .u64 v) ∧ w'.cell? ⟨X, 5, none⟩ = some (.int .i64 m) ∧ w'.cell? ⟨X, 6, none⟩ = some (.int .i64 wh)) ((refine KX.out _ ?_; repeat' (first | (with_reducible exact Below.refl _ _) | (with_reducible refine Below.drew ?_) | (with_reducible refine Below.alloc ?_ ?_ _) | (with_reducible refine Below.setCell ?_ ?_ _) | (simp; done) | (simp; omega)))) (first | fail)
    all_goals (
      go_wp2_with fail
      go_meet)
    all_goals exact ⟨_, _, _, rfl, rfl, rfl, _, rfl, Lib.hid (tri_new B2.out ET.out _ _ _ (by omega) (by omega) (by omega) (by omega) (by omega) (by omega))⟩
  case rest =>
    obtain ⟨Y, Z, V0, rfl, rfl, rfl, wa, rfl, T0⟩ := hcut
    clear x0 x1 x2 x3 x4 x5 x6
    have cc := T0.out.y.cell 1 (by simp)
    have cf := T0.out.y.free 1 (by simp)
    simp only [List.getElem_cons_zero, List.getElem_cons_succ] at cc
    go_upto_region 9 with fail
    have T1' := T0.out.setY 1 (by simp) (.int .i64 (31 + k))
    simp only [List.set_cons_zero, List.set_cons_succ] at T1'
    obtain ⟨wb, hwb⟩ : ∃ wb, wb = wa.setCell ⟨Y, 1, none⟩ (.int .i64 (31 + k)) := ⟨_, rfl⟩
    rw [← hwb] at T1'
    rw [← hwb]
    have T1 := Lib.hid T1'
    clear cc cf hwb T1' T0
    have cc := T1.out.z.cell 2 (by simp)
    have cf := T1.out.z.free 2 (by simp)
    simp only [List.getElem_cons_zero, List.getElem_cons_succ] at cc
    go_upto_region 10 with fail
    have T2' := T1.out.setZ 2 (by simp) (.int .i64 (31 + k))
    simp only [List.set_cons_zero, List.set_cons_succ] at T2'
    obtain ⟨wd, hwd⟩ : ∃ wd, wd = wb.setCell ⟨Z, 2, none⟩ (.int .i64 (31 + k)) := ⟨_, rfl⟩
    rw [← hwd] at T2'
    rw [← hwd]
    have T2 := Lib.hid T2'
    clear cc cf hwd T2' T1
    have cc := T2.out.v.cell 3 (by simp)
    have cf := T2.out.v.free 3 (by simp)
    simp only [List.getElem_cons_zero, List.getElem_cons_succ] at cc
    go_upto_region 11 with fail
    have T3' := T2.out.setV 3 (by simp) (.int .i64 (31 + k))
    simp only [List.set_cons_zero, List.set_cons_succ] at T3'
    obtain ⟨we, hwe⟩ : ∃ we, we = wd.setCell ⟨V0, 3, none⟩ (.int .i64 (31 + k)) := ⟨_, rfl⟩
    rw [← hwe] at T3'
    rw [← hwe]
    have T3 := Lib.hid T3'
    clear cc cf hwe T3' T2
    go_upto_if 50 with fail
    go_cut [11] from 15 to 87 (fun s11 w' => s11 = .pointer (some ⟨Y, 0, none⟩) ∧ ∃ Wn, Wn = w' ∧ Hid (Tri w Wn X Y Z V0 [.int .i64 op, .int .i64 a, .int .i64 b, .int .i64 c, .int .u64 v, .int .i64 m, .int .i64 wh] [.int .i64 op, .int .i64 (if A then 31 + k else k), .int .i64 b, .int .i64 c, .int .u64 v, .int .i64 m, .int .i64 wh] [.int .i64 op, .int .i64 a, .int .i64 (31 + k), .int .i64 c, .int .u64 v, .int .i64 m, .int .i64 wh] [.int .i64 op, .int .i64 a, .int .i64 b, .int .i64 (31 + k), .int .u64 v, .int .i64 m, .int .i64 wh]))
    case first =>
      have cc := T3.out.y.cell 1 (by simp)
      have cf := T3.out.y.free 1 (by simp)
      simp only [List.getElem_cons_zero, List.getElem_cons_succ] at cc
      cases A with
      | true =>
        go_wp2_with fail
        go_meet
        exact ⟨rfl, _, rfl, T3⟩
      | false =>
        have TN := T3.out.setY 1 (by simp) (.int .i64 k)
        simp only [List.set_cons_zero, List.set_cons_succ] at TN
        go_wp2_with fail
        go_meet
        exact ⟨rfl, _, rfl, Lib.hid TN⟩
    case rest =>
    obtain ⟨rfl, wf, rfl, T4⟩ := hcut
    clear T3
    go_upto_if 54 with fail
    go_cut [11] from 15 to 87 (fun s11 w' => s11 = .pointer (some ⟨Y, 0, none⟩) ∧ ∃ Wn, Wn = w' ∧ Hid (Tri w Wn X Y Z V0 [.int .i64 op, .int .i64 a, .int .i64 b, .int .i64 c, .int .u64 v, .int .i64 m, .int .i64 wh] [.int .i64 op, .int .i64 (if A then 31 + k else k), .int .i64 b, .int .i64 c, .int .u64 v, .int .i64 m, .int .i64 wh] [.int .i64 op, .int .i64 a, .int .i64 (if B then 31 + k else k), .int .i64 c, .int .u64 v, .int .i64 m, .int .i64 wh] [.int .i64 op, .int .i64 a, .int .i64 b, .int .i64 (31 + k), .int .u64 v, .int .i64 m, .int .i64 wh]))
    case first =>
      have cc := T4.out.z.cell 2 (by simp)
      have cf := T4.out.z.free 2 (by simp)
      simp only [List.getElem_cons_zero, List.getElem_cons_succ] at cc
      cases B with
      | true =>
        go_wp2_with fail
        go_meet
        exact ⟨rfl, _, rfl, T4⟩
      | false =>
        have TN := T4.out.setZ 2 (by simp) (.int .i64 k)
        simp only [List.set_cons_zero, List.set_cons_succ] at TN
        go_wp2_with fail
        go_meet
        exact ⟨rfl, _, rfl, Lib.hid TN⟩
    case rest =>
    obtain ⟨rfl, wg, rfl, T5⟩ := hcut
    clear T4
    go_upto_if 58 with fail
    go_cut [11] from 15 to 87 (fun s11 w' => s11 = .pointer (some ⟨Y, 0, none⟩) ∧ ∃ Wn, Wn = w' ∧ Hid (Tri w Wn X Y Z V0 [.int .i64 op, .int .i64 a, .int .i64 b, .int .i64 c, .int .u64 v, .int .i64 m, .int .i64 wh] [.int .i64 op, .int .i64 (if A then 31 + k else k), .int .i64 b, .int .i64 c, .int .u64 v, .int .i64 m, .int .i64 wh] [.int .i64 op, .int .i64 a, .int .i64 (if B then 31 + k else k), .int .i64 c, .int .u64 v, .int .i64 m, .int .i64 wh] [.int .i64 op, .int .i64 a, .int .i64 b, .int .i64 (if C then 31 + k else k), .int .u64 v, .int .i64 m, .int .i64 wh]))
    case first =>
      have cc := T5.out.v.cell 3 (by simp)
      have cf := T5.out.v.free 3 (by simp)
      simp only [List.getElem_cons_zero, List.getElem_cons_succ] at cc
      cases C with
      | true =>
        go_wp2_with fail
        go_meet
        exact ⟨rfl, _, rfl, T5⟩
      | false =>
        have TN := T5.out.setV 3 (by simp) (.int .i64 k)
        simp only [List.set_cons_zero, List.set_cons_succ] at TN
        go_wp2_with fail
        go_meet
        exact ⟨rfl, _, rfl, Lib.hid TN⟩
    case rest =>
    obtain ⟨rfl, wi, rfl, T6⟩ := hcut
    clear T5
    generalize (if A = true then 31 + k else k) = ya at RY T6
    generalize (if B = true then 31 + k else k) = zb at RZ T6
    generalize (if C = true then 31 + k else k) = vc at RV T6
    obtain ⟨y0, y1, y2, y3, y4, y5, y6⟩ := seven_cells T6.out.y
    go_wp2_with fail
    go_at_call 25
    refine (RY.out _).mono ?_
    rintro e wj ⟨rfl, hbj⟩
    have T7 := Lib.hid (T6.out.below hbj)
    clear y0 y1 y2 y3 y4 y5 y6 hbj T6
    obtain ⟨z0, z1, z2, z3, z4, z5, z6⟩ := seven_cells T7.out.z
    go_wp2_with fail
    go_at_call 25
    refine (RZ.out _).mono ?_
    rintro e wk ⟨rfl, hbk⟩
    have T8 := Lib.hid (T7.out.below hbk)
    clear z0 z1 z2 z3 z4 z5 z6 hbk T7
    obtain ⟨v0, v1, v2, v3, v4, v5, v6⟩ := seven_cells T8.out.v
    go_wp2_with fail
    go_at_call 25
    refine (RV.out _).mono ?_
    rintro e wl ⟨rfl, hbl⟩
    have B9 := Lib.hid (T8.out.below hbl).b
    clear v0 v1 v2 v3 v4 v5 v6 hbl T8
    obtain ⟨x0, x1, x2, x3, x4, x5, x6⟩ := seven_cells B9.out.x
    have hu2 := B9.out.b.alloc B9.out.b.size (.cells #[.int .i64 op, .int .i64 a, .int .i64 b, .int .i64 c, .int .u64 k, .int .i64 m, .int .i64 wh] 55)
    have HU2 := Lib.hid hu2
    have AW := Lib.hid (fun W (h : Below w.heap.size w W) => awake_any W (errType_below h HE.out (cell_lt HE.out)))
    clear hu2
    cases V with
    | true =>
      go_wp2_with fail
      go_at_call 16
      refine (AW.out _ HU2.out).mono ?_
      rintro e w6 ⟨rfl, hb6⟩
      have B6 := Lib.hid (HU2.out.trans (hb6.mono HU2.out.size))
      clear hb6
      go_wp2_with fail
      go_ret
      exact ⟨rfl, B6.out⟩
    | false =>
      obtain rfl : qu = false := HU.out rfl
      go_wp2_with fail
      go_at_call 25
      refine (RU.out _).mono ?_
      rintro e wm ⟨rfl, hbm⟩
      have BM := Lib.hid (HU2.out.trans (hbm.mono HU2.out.size))
      clear hbm
      go_wp2_with fail
      go_at_call 16
      refine (AW.out _ BM.out).mono ?_
      rintro e w6 ⟨rfl, hb6⟩
      have B6 := Lib.hid (BM.out.trans (hb6.mono BM.out.size))
      clear hb6
      go_wp2_with fail
      go_ret
      exact ⟨rfl, B6.out⟩
set_option maxHeartbeats 1000000 in
/-- It may not be. -/
theorem unused_out (w W : World) (X : Nat) (op a b c v m wh n by_ : Int) (s : Nat) (hs : s < 20) (hW : W = w.alloc (.cells #[.int .i64 op, .int .i64 a, .int .i64 b, .int .i64 c, .int .u64 v, .int .i64 m, .int .i64 wh] 55)) (hX : X = w.heap.size) (hB : Box1 w W X [.int .i64 op, .int .i64 a, .int .i64 b, .int .i64 c, .int .u64 v, .int .i64 m, .int .i64 wh])
    (wi : ∀ w, Calls Tryd.prog 27 #[.int .i64 n, .int .i64 20] w fun e w' => e = .returned (.int .i64 s) ∧ w = w')
    (r0 : Calls Tryd.prog 25 #[insV op a b c v m wh, .int .i64 (1 + (s : Int)), .bool true] W fun e w' => e = .returned (.bool false) ∧ Below W.heap.size W w') :
    Calls Tryd.prog 8 #[insV op a b c v m wh, .int .i64 n, .int .i64 by_] w fun e w' => e = .returned (.bool true) ∧ Below w.heap.size w w' := by
  have WI := Lib.hid wi
  have R0 := Lib.hid r0
  have BX := Lib.hid hB
  clear wi r0 hB
  go_enter Tryd.func8, Tryd.ntmps8
  go_wp2_with (go_at_call 27; refine (WI.out _).mono ?_; rintro e w' ⟨rfl, rfl⟩)
  rw [← hW]
  clear hW hX
  go_at_call 25
  refine R0.out.mono ?_
  rintro e w1 ⟨rfl, hb1⟩
  have B1 := Lib.hid (BX.out.below hb1)
  clear hb1
  go_wp2_with fail
  go_at_call 16
  refine B1.out.awake.mono ?_
  rintro e w6 ⟨rfl, T6⟩
  have B6 := Lib.hid T6.b
  clear T6
  go_wp2_with fail
  go_ret
  exact ⟨rfl, B6.out⟩
set_option maxHeartbeats 1000000 in
theorem codeUnused_walk (op a b c v m wh n by_ : Int) (w0 : (Lit.int .i64 op).wf = true) (w1 : (Lit.int .i64 a).wf = true) (w2 : (Lit.int .i64 b).wf = true) (w3 : (Lit.int .i64 c).wf = true) (w4 : (Lit.int .u64 v).wf = true) (w5 : (Lit.int .i64 m).wf = true) (w6 : (Lit.int .i64 wh).wf = true) (w7 : (Lit.int .i64 n).wf = true) (w8 : (Lit.int .i64 by_).wf = true) (w : World) (hE : ErrType w) :
    Calls Tryd.prog 8 #[insV op a b c v m wh, .int .i64 n, .int .i64 by_] w fun e w' => e = .returned (.bool true) ∧ Below w.heap.size w w' := by
  have hv := u64_wf w4
  obtain ⟨s, hs⟩ : ∃ s : Nat, n % 20 = s := ⟨(n % 20).toNat, by omega⟩
  have hs20 : s < 20 := by omega
  obtain ⟨W, hW⟩ : ∃ W, W = w.alloc (.cells #[.int .i64 op, .int .i64 a, .int .i64 b, .int .i64 c, .int .u64 v, .int .i64 m, .int .i64 wh] 55) := ⟨_, rfl⟩
  obtain ⟨X, hX⟩ : ∃ X, X = w.heap.size := ⟨_, rfl⟩
  have hb0 : Below w.heap.size w W := by rw [hW]; exact (Below.refl _ _).alloc (Nat.le_refl _) _
  have r0 : Row W X [.int .i64 op, .int .i64 a, .int .i64 b, .int .i64 c, .int .u64 v, .int .i64 m, .int .i64 wh] := by rw [hW, hX]; exact Row.new w _ _
  have T0 : Box1 w W X [.int .i64 op, .int .i64 a, .int .i64 b, .int .i64 c, .int .u64 v, .int .i64 m, .int .i64 wh] := ⟨hb0, r0, errType_below hb0 hE (cell_lt hE)⟩
  have wi : ∀ w, Calls Tryd.prog 27 #[.int .i64 n, .int .i64 20] w fun e w' => e = .returned (.int .i64 s) ∧ w = w' := fun W' => by rw [← hs]; exact within_any n 20 (by omega) (by omega) W'
  have RR : ∀ (op a b c v m wh : Int), (0 ≤ v ∧ v ≤ 18446744073709551615) → ∀ W, Calls Tryd.prog 25 #[insV op a b c v m wh, .int .i64 (1 + (s : Int)), .bool true] W fun e w' => e = .returned (.bool (rightB ⟨op, a, b, c, v, m, wh⟩ (1 + (s : Int)) true)) ∧ Below W.heap.size W w' := fun op a b c v m wh hv W' => by
    have := right_law op a b c v m wh hv (1 + s) (by omega) (by omega) true W'
    rwa [show (((1 + s : Nat)) : Int) = 1 + (s : Int) by omega] at this
  cases hq : rightB ⟨op, a, b, c, v, m, wh⟩ (1 + (s : Int)) true with
  | false => exact unused_out w W X op a b c v m wh n by_ s hs20 hW hX T0 wi (by have h := RR op a b c v m wh hv W; rw [hq] at h; exact h)
  | true =>
    obtain ⟨k, hk⟩ : ∃ k, (if (decide (by_ < 1) || decide (1000000 < by_)) = true then 1 else by_) = k := ⟨_, rfl⟩
    have hk12 : 1 ≤ k ∧ k ≤ 1000000 := by
      rw [← hk]
      by_cases h1 : by_ < 1
      · rw [if_pos (by simp [h1])]; omega
      · by_cases h2 : 1000000 < by_
        · rw [if_pos (by simp [h2])]; omega
        · rw [if_neg (by simp; omega)]; omega
    exact unused_main w W X op a b c v m wh n k by_ s _ _ _ _ (rightB ⟨op, a, b, c, k, m, wh⟩ (1 + (s : Int)) true) hk ⟨hW, hX, T0, cell_lt hE, hE, wi, fun W' => by have h := RR op a b c v m wh hv W'; rw [hq] at h; exact h, fun W' => fields_any op W',
      fun W' => by have h := RR op (if (shapeOf op).A then 31 + k else k) b c v m wh hv W'; rw [unused_a op a b c v m wh (1 + (s : Int)) k true hk12.1] at h; exact h,
      fun W' => by have h := RR op a (if (shapeOf op).B then 31 + k else k) c v m wh hv W'; rw [unused_b op a b c v m wh (1 + (s : Int)) k true hk12.1] at h; exact h,
      fun W' => by have h := RR op a b (if (shapeOf op).C then 31 + k else k) v m wh hv W'; rw [unused_c op a b c v m wh (1 + (s : Int)) k true hk12.1] at h; exact h,
      fun W' => RR op a b c k m wh (by omega) W', fun hV => unused_v op a b c m wh _ k true hk12.1 hV, hs20, hk12.1, hk12.2⟩
end Go.Proofs.YtncgkhgjclodaaaDoor
