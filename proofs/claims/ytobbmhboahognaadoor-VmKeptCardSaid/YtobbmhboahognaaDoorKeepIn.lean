/- The statements' help In: nil stays nil; a Fail of one place becomes one of two, in new memory. -/
import Derived.Test.YtobbmhboahognaaDoorSameAt
import Derived.Deep.RegionHeld3
import Derived.Laws.AppendOwn
import Derived.Lib.Hide
import Derived.Deep.RegionLaw
namespace Go.Proofs.YtobbmhboahognaaDoor
open Go.RowKit
set_option linter.unusedVariables false

set_option maxHeartbeats 400000 in
theorem in_nil (layer : ByteArray) (n : Int) (w : World) : Calls Tryd.prog 17 #[.string layer, .int .i64 n, .pointer none] w fun e w' => e = .returned (.pointer none) ∧ w = w' := by
  go_enter Tryd.func17, Tryd.ntmps17
  go_wp2
  go_ret
  exact ⟨rfl, rfl⟩

theorem info_str : (Tryd.prog.info? 9).map (fun i => (i.zero, i.size, i.bytes)) = some (some (.string ByteArray.empty), 1, 16) := by kernel_rfl
theorem info_int : (Tryd.prog.info? 3).map (fun i => (i.zero, i.size, i.bytes)) = some (some (.int .i64 0), 1, 8) := by kernel_rfl

/-- What In leaves. -/
def InPost (l : List (ByteArray × Int)) (k : Int) (w : World) (e : Ending) (w' : World) : Prop := ∃ F, e = .returned F ∧ (∃ z, F = .pointer (some ⟨z, 0, none⟩)) ∧ FailAt w' F l k ∧ Below w.heap.size w w'

/-- What an append of one element to a full slice of one leaves. -/
structure App (u1 u2 : Value) (W W1 : World) : Prop where
  b : Below W.heap.size W W1
  x1 : W1.cell? ⟨W.heap.size, 0, none⟩ = some u1
  x2 : W1.cell? ⟨W.heap.size, 1, none⟩ = some u2
  lt : W.heap.size < W1.heap.size
theorem run_app (t e : TypeId) (i : TypeInfo) (zv : Value) (bytes : Nat) (ht : Tryd.prog.underlying t = some (.slice e)) (hi : Tryd.prog.info? e = some i) (hz : i.zero = some zv) (hs : i.size = 1) (hb : i.bytes = bytes) (hbb : 2 * bytes ≤ 140737488355328)
    (g z : Nat) (u1 u2 : Value) (W : World) (hg : W.cell? ⟨g, 0, none⟩ = some u1) (hx : W.cell? ⟨z, 0, none⟩ = some u2) (ty : TypeId) :
    ∃ cap W1, (Builtin.append_ #[t, t] ty #[.slice (some ⟨g, 0, none⟩) 1 1, .slice (some ⟨z, 0, none⟩) 1 1]).run Tryd.prog W = .ok (.slice (some ⟨W.heap.size, 0, none⟩) 2 cap) W1 ∧ App u1 u2 W W1 := by
  have one : ∀ (b : Nat) (u : Value), W.cell? ⟨b, 0, none⟩ = some u → ∀ j v, [u][j]? = some v → W.cell? ((⟨b, 0, none⟩ : Addr).add j) = some v := by
    intro b u hc j v hv
    cases j with
    | zero =>
      have e0 : (⟨b, 0, none⟩ : Addr).add 0 = ⟨b, 0, none⟩ := by unfold Addr.add; split <;> simp_all
      rw [e0]; simp at hv; rw [hc, hv]
    | succ j => simp at hv
  have hr := run_append_grow (P := Tryd.prog) W t ty e i zv ht hi hz ⟨g, 0, none⟩ 1 1 [u1] (by rw [hs]; rfl) (one g u1 hg) ⟨z, 0, none⟩ 1 1 [u2] (by rw [hs]; rfl) (one z u2 hx) (by omega) (by omega) (by rw [hb]; exact growslice_fits (by omega) (by omega))
  refine ⟨_, _, hr, ?_, ?_, ?_, ?_⟩
  · exact (Below.refl _ _).drew.alloc (Nat.le_refl _) _
  · rw [cell_of_row _ W.heap.size 0 _ _ (0, 0) (heap_alloc_new W.drew _), Array.getElem?_append_left (by simp)]; rfl
  · rw [cell_of_row _ W.heap.size 1 _ _ (0, 0) (heap_alloc_new W.drew _), Array.getElem?_append_left (by simp)]; rfl
  · simp
section
variable {ops : Array Oper} {o : Oper} {a : Act} {K : Act → World → Prop} {Q : Exit → Act → World → Prop} {E : Prop} {W w : World}
theorem step_appendK (hg : o.guard = none) (d x : Operand) (dT sT : TypeId) (hop : o.op = Op.call { callee := Callee.builtin Builtin.append, args := #[d, x], argTypes := #[dT, sT] })
    (v u : Value) (hd : a.eval d = v) (hx : a.eval x = u) {v' : Value} {w' : World} (hr : (Builtin.append_ #[dT, sT] o.type #[v, u]).run Tryd.prog w = .ok v' w') (hK : K (a.put o.dst v') w') :
    if Region.wanted o (yielded ops a.tmps) = true then Oper.wp Tryd.prog o a w K Q else E := by
  have hw : Region.wanted o (yielded ops a.tmps) = true := by simp [Region.wanted, hg]
  rw [if_pos hw]
  unfold Oper.wp
  simp [execOp, hop, resolve, invoke, builtin, hd, hx, hr, Result.andThen]
  exact hK
theorem step_appS (d x : Operand) (g z : Nat) (u1 u2 : Value) (hgd : o.guard = none) (hop : o.op = Op.call { callee := Callee.builtin Builtin.append, args := #[d, x], argTypes := #[105, 105] })
    (hd : a.eval d = .slice (some ⟨g, 0, none⟩) 1 1) (hx : a.eval x = .slice (some ⟨z, 0, none⟩) 1 1) (hg : W.cell? ⟨g, 0, none⟩ = some u1) (hz : W.cell? ⟨z, 0, none⟩ = some u2)
    (h : ∀ cap W1, App u1 u2 W W1 → K (a.put o.dst (.slice (some ⟨W.heap.size, 0, none⟩) 2 cap)) W1) :
    if Region.wanted o (yielded ops a.tmps) = true then Oper.wp Tryd.prog o a W K Q else E := by
  obtain ⟨i0, hi0, hz0, hz1, hz2⟩ := info_parts info_str
  obtain ⟨cap, W1, hr, hA⟩ := run_app 105 9 i0 _ 16 Tryd.underlying105 hi0 hz0 hz1 hz2 (by omega) g z u1 u2 W hg hz o.type
  exact step_appendK hgd d x _ _ hop _ _ hd hx hr (h cap W1 hA)
theorem step_appI (d x : Operand) (g z : Nat) (u1 u2 : Value) (hgd : o.guard = none) (hop : o.op = Op.call { callee := Callee.builtin Builtin.append, args := #[d, x], argTypes := #[24, 24] })
    (hd : a.eval d = .slice (some ⟨g, 0, none⟩) 1 1) (hx : a.eval x = .slice (some ⟨z, 0, none⟩) 1 1) (hg : W.cell? ⟨g, 0, none⟩ = some u1) (hz : W.cell? ⟨z, 0, none⟩ = some u2)
    (h : ∀ cap W1, App u1 u2 W W1 → K (a.put o.dst (.slice (some ⟨W.heap.size, 0, none⟩) 2 cap)) W1) :
    if Region.wanted o (yielded ops a.tmps) = true then Oper.wp Tryd.prog o a W K Q else E := by
  obtain ⟨i0, hi0, hz0, hz1, hz2⟩ := info_parts info_int
  obtain ⟨cap, W1, hr, hA⟩ := run_app 24 3 i0 _ 8 Tryd.underlying24 hi0 hz0 hz1 hz2 (by omega) g z u1 u2 W hg hz o.type
  exact step_appendK hgd d x _ _ hop _ _ hd hx hr (h cap W1 hA)
end

theorem in_fin {w W1 X W2 : World} {g1 g2 c1 c2 : Nat} {layer y : ByteArray} {n0 n k : Int} (h1 : W1.cell? ⟨g1, 0, none⟩ = some (.string layer)) (h2 : W1.cell? ⟨g1, 1, none⟩ = some (.string y)) (b1 : Below W1.heap.size W1 X) (hA : App (.int .i64 n0) (.int .i64 n) X W2) (hb : Below w.heap.size w W2) (hg2 : X.heap.size = g2) :
    InPost [(layer, n0), (y, n)] k w (.returned (.pointer (some ⟨W2.heap.size, 0, none⟩))) (W2.alloc (.cells #[.slice (some ⟨g1, 0, none⟩) 2 c1, .slice (some ⟨g2, 0, none⟩) 2 c2, .int .i64 k] 107)) := by
  subst hg2
  have hg1 := cell_lt h1
  have s1 := b1.size
  have s2 := hA.b.size
  have hn : Below W2.heap.size W2 (W2.alloc (.cells #[.slice (some ⟨g1, 0, none⟩) 2 c1, .slice (some ⟨X.heap.size, 0, none⟩) 2 c2, .int .i64 k] 107)) := (Below.refl _ _).alloc (Nat.le_refl _) _
  have hf := heap_alloc_new W2 (.cells #[.slice (some ⟨g1, 0, none⟩) 2 c1, .slice (some ⟨X.heap.size, 0, none⟩) 2 c2, .int .i64 k] 107)
  have keep : ∀ o u, W1.cell? ⟨g1, o, none⟩ = some u → (W2.alloc (.cells #[.slice (some ⟨g1, 0, none⟩) 2 c1, .slice (some ⟨X.heap.size, 0, none⟩) 2 c2, .int .i64 k] 107)).cell? ⟨g1, o, none⟩ = some u := fun o u hu => by
    rw [hn.cell (p := ⟨g1, o, none⟩) (by show g1 < _; omega), hA.b.cell (p := ⟨g1, o, none⟩) (by show g1 < _; omega), b1.cell (p := ⟨g1, o, none⟩) hg1]; exact hu
  have keep2 : ∀ o u, W2.cell? ⟨X.heap.size, o, none⟩ = some u → (W2.alloc (.cells #[.slice (some ⟨g1, 0, none⟩) 2 c1, .slice (some ⟨X.heap.size, 0, none⟩) 2 c2, .int .i64 k] 107)).cell? ⟨X.heap.size, o, none⟩ = some u := fun o u hu => by
    rw [hn.cell (p := ⟨X.heap.size, o, none⟩) hA.lt]; exact hu
  refine ⟨_, rfl, ⟨_, rfl⟩, ⟨W2.heap.size, g1, X.heap.size, c1, c2, rfl, by rw [cells_of hf]; rfl, by rw [cells_of hf]; rfl, by rw [cells_of hf]; rfl, ?_, ?_⟩, hb.trans (hn.mono hb.size)⟩
  · intro j hj
    match j, hj with
    | 0, _ => exact keep 0 _ h1
    | 1, _ => exact keep 1 _ h2
    | j + 2, hj => exact absurd hj (by simp)
  · intro j hj
    match j, hj with
    | 0, _ => exact keep2 0 _ hA.x1
    | 1, _ => exact keep2 1 _ hA.x2
    | j + 2, hj => exact absurd hj (by simp)

set_option maxHeartbeats 4000000 in
set_option maxRecDepth 100000 in
theorem in_some (layer : ByteArray) (n0 : Int) (z : Nat) (y : ByteArray) (n k : Int) (w : World) (hF : FailBlk w z y n k) :
    Calls Tryd.prog 17 #[.string layer, .int .i64 n0, .pointer (some ⟨z + 1 + 1, 0, none⟩)] w (InPost [(layer, n0), (y, n)] k w) := by
  have MK := Lib.hid (fun (W' : World) (hb : Below w.heap.size w W') => (show (W'.cell? ⟨z + 1 + 1, 0, none⟩ = some (.slice (some ⟨z, 0, none⟩) 1 1) ∧ W'.cell? ⟨z + 1 + 1, 1, none⟩ = some (.slice (some ⟨z + 1, 0, none⟩) 1 1) ∧ W'.cell? ⟨z + 1 + 1, 2, none⟩ = some (.int .i64 k) ∧ W'.cell? ⟨z, 0, none⟩ = some (.string y) ∧ W'.cell? ⟨z + 1, 0, none⟩ = some (.int .i64 n)) ∧ Below w.heap.size w W' from by
    have hF' := hF.only (F := []) (Only.of_below hb) (by simp) (by simp) (by simp)
    exact ⟨⟨by rw [cells_of hF'.f2]; rfl, by rw [cells_of hF'.f2]; rfl, by rw [cells_of hF'.f2]; rfl, by rw [cells_of hF'.f0]; rfl, by rw [cells_of hF'.f1]; rfl⟩, hb⟩))
  -- the two new lists, in whichever order they are made
  obtain ⟨A, hA⟩ : ∃ A, A = Obj.cells #[Value.string layer] 9 := ⟨_, rfl⟩
  obtain ⟨Bo, hBo⟩ : ∃ Bo, Bo = Obj.cells #[Value.int .i64 n0] 3 := ⟨_, rfl⟩
  have xa1 : (w.alloc A).drew.cell? ⟨w.heap.size, 0, none⟩ = some (.string layer) := by subst hA; exact cells_of (heap_alloc_new w _) 0
  have hb1 : Below (w.alloc A).heap.size (w.alloc A) ((w.alloc A).alloc Bo) := (Below.refl _ _).alloc (Nat.le_refl _) _
  have hb2 : Below (w.alloc Bo).heap.size (w.alloc Bo) ((w.alloc Bo).alloc A) := (Below.refl _ _).alloc (Nat.le_refl _) _
  have xa2 : ((w.alloc A).alloc Bo).drew.cell? ⟨w.heap.size, 0, none⟩ = some (.string layer) := (hb1.cell (p := ⟨w.heap.size, 0, none⟩) (by simp)).trans xa1
  have xb2 : ((w.alloc A).alloc Bo).drew.cell? ⟨w.heap.size + 1, 0, none⟩ = some (.int .i64 n0) := by subst hBo; have := cells_of (heap_alloc_new (w.alloc A) (.cells #[.int .i64 n0] 3)) 0; rw [World.size_alloc] at this; exact this
  have xa3 : ((w.alloc Bo).alloc A).drew.cell? ⟨w.heap.size + 1, 0, none⟩ = some (.string layer) := by subst hA; have := cells_of (heap_alloc_new (w.alloc Bo) (.cells #[.string layer] 9)) 0; rw [World.size_alloc] at this; exact this
  have xb0 : (w.alloc Bo).cell? ⟨w.heap.size, 0, none⟩ = some (.int .i64 n0) := by subst hBo; exact cells_of (heap_alloc_new w _) 0
  have xb3 : ((w.alloc Bo).alloc A).drew.cell? ⟨w.heap.size, 0, none⟩ = some (.int .i64 n0) := (hb2.cell (p := ⟨w.heap.size, 0, none⟩) (by simp)).trans xb0
  have sz2 : ((w.alloc A).alloc Bo).drew.heap.size = w.heap.size + 2 := by simp [World.drew]
  have sz3 : ((w.alloc Bo).alloc A).drew.heap.size = w.heap.size + 2 := by simp [World.drew]
  subst hA hBo
  have XA := Lib.hid (And.intro xa1 (And.intro xa2 (And.intro xb2 (And.intro xa3 (And.intro xb3 (And.intro sz2 sz3))))))
  clear hF xa1 hb1 hb2 xa2 xb2 xa3 xb0 xb3 sz2 sz3
  go_enter Tryd.func17, Tryd.ntmps17
  go_wp2_with fail
  go_region_held3 (fun w' => (w'.cell? ⟨z + 1 + 1, 0, none⟩ = some (.slice (some ⟨z, 0, none⟩) 1 1) ∧ w'.cell? ⟨z + 1 + 1, 1, none⟩ = some (.slice (some ⟨z + 1, 0, none⟩) 1 1) ∧ w'.cell? ⟨z + 1 + 1, 2, none⟩ = some (.int .i64 k) ∧ w'.cell? ⟨z, 0, none⟩ = some (.string y) ∧ w'.cell? ⟨z + 1, 0, none⟩ = some (.int .i64 n)) ∧ Below w.heap.size w w')
    ((refine MK.out _ ?_; first
      | exact (Below.refl _ _).drew
      | exact (((Below.refl _ _).alloc (Nat.le_refl _) _)).drew
      | exact ((((Below.refl _ _).alloc (Nat.le_refl _) _).alloc (by simp) _)).drew
      | exact hB2
      | exact hB1
      | exact hB2.alloc hB2.size _
      | exact hB1.alloc hB1.size _
      | fail))
    (first
      | (go_split_ands; refine step_appS (.tmp 10) (.tmp 14) w.heap.size z (.string layer) (.string y) rfl rfl (by simp [Act.eval]) (by simp [Act.eval]) (by first | exact XA.out.1 | exact XA.out.2.1 | fail) (by assumption) ?_; intro cap1 W1 hA1; have hB1 : Below w.heap.size w W1 := Below.trans (by assumption) (hA1.b.mono (Below.size (by assumption))))
      | (go_split_ands; refine step_appS (.tmp 10) (.tmp 14) (w.heap.size + 1) z (.string layer) (.string y) rfl rfl (by simp [Act.eval]) (by simp [Act.eval]) (XA.out.2.2.2.1) (by assumption) ?_; intro cap1 W1 hA1; have hB1 : Below w.heap.size w W1 := Below.trans (by assumption) (hA1.b.mono (Below.size (by assumption))))
      | (go_split_ands; refine step_appI (.tmp 17) (.tmp 21) W1.heap.size (z + 1) (.int .i64 n0) (.int .i64 n) rfl rfl (by simp [Act.eval]) (by simp [Act.eval]) (cells_of (heap_alloc_new W1 _) 0) (by assumption) ?_; intro cap2 W2 hA2; have hB2 : Below w.heap.size w W2 := Below.trans (by assumption) (hA2.b.mono (Below.size (by assumption))))
      | (go_split_ands; refine step_appI (.tmp 17) (.tmp 21) (w.heap.size + 1) (z + 1) (.int .i64 n0) (.int .i64 n) rfl rfl (by simp [Act.eval]) (by simp [Act.eval]) ((hA1.b.cell (p := ⟨w.heap.size + 1, 0, none⟩) (by show w.heap.size + 1 < _; have := XA.out.2.2.2.2.2.1; omega)).trans XA.out.2.2.1) (by assumption) ?_; intro cap2 W2 hA2; have hB2 : Below w.heap.size w W2 := Below.trans (by assumption) (hA2.b.mono (Below.size (by assumption))))
      | (go_split_ands; refine step_appI (.tmp 17) (.tmp 21) w.heap.size (z + 1) (.int .i64 n0) (.int .i64 n) rfl rfl (by simp [Act.eval]) (by simp [Act.eval]) ((hA1.b.cell (p := ⟨w.heap.size, 0, none⟩) (by show w.heap.size < _; have := XA.out.2.2.2.2.2.2; omega)).trans XA.out.2.2.2.2.1) (by assumption) ?_; intro cap2 W2 hA2; have hB2 : Below w.heap.size w W2 := Below.trans (by assumption) (hA2.b.mono (Below.size (by assumption)))))
  all_goals
    have HA1 := Lib.hid hA1
    have HA2 := Lib.hid hA2
    have HB2 := Lib.hid hB2
    clear hA1 hA2 hB1 hB2
    go_wp2_with fail
    go_ret
    have x1 := HA1.out.x1
    have x2 := HA1.out.x2
    have hA2 := HA2.out
    simp [World.drew] at x1 x2
    first
      | exact in_fin x1 x2 (Below.refl _ _) hA2 HB2.out rfl
      | exact in_fin x1 x2 ((Below.refl _ _).alloc (Nat.le_refl _) _) hA2 HB2.out (World.size_alloc _ _)
end Go.Proofs.YtobbmhboahognaaDoor
