/- The statements' help do (layer 2) at Map, Unmap and Width: it answers true, and both memories are in one state behind it. The conditions: both lie there in one state; the library's variable errors.errorType holds the type error. -/
import Derived.Test.YtdnamjlknmcdjaaDoorMemBoth
import Derived.Test.YtdnamjlknmcdjaaDoorKeepWithin
import Derived.Deep.RegionHeld3
import Derived.Deep.DrawnRows
namespace Go.Proofs.YtdnamjlknmcdjaaDoor
open Go.RowKit
set_option linter.unusedVariables false

/-- What do leaves. -/
def StepPost (b bc r bw bh : Nat) (m : Cells) (W : World) (e : Ending) (w' : World) : Prop := e = .returned (.bool true) ∧ ∃ m1, m1.ws.length = m.ws.length ∧ m.n ≤ m1.n ∧ m1.n ≤ m.n + 1 ∧ Both w' b bc r bw bh m1 ∧ Only (allB b bc r bw bh) W w'
theorem opbox {w : World} {x : Nat} {v0 v1 v2 v3 v4 v5 v6 : Value} (h : Row w x [v0, v1, v2, v3, v4, v5, v6]) : w.cell? ⟨x, 0, none⟩ = some v0 ∧ w.cell? ⟨x, 1, none⟩ = some v1 ∧ w.cell? ⟨x, 2, none⟩ = some v2 ∧ w.cell? ⟨x, 3, none⟩ = some v3 ∧ w.cell? ⟨x, 4, none⟩ = some v4 ∧ w.cell? ⟨x, 5, none⟩ = some v5 ∧ w.cell? ⟨x, 6, none⟩ = some v6 :=
  ⟨h.cell 0 (by simp), h.cell 1 (by simp), h.cell 2 (by simp), h.cell 3 (by simp), h.cell 4 (by simp), h.cell 5 (by simp), h.cell 6 (by simp)⟩
theorem Both.notIn {w : World} {b bc r bw bh : Nat} {m : Cells} (h : Both w b bc r bw bh m) {x : Nat} (hx : w.heap.size ≤ x) : x ∉ allB b bc r bw bh := by
  have h1 := h.p.top.lt
  have h2 := h.p.lt
  have h3 := h.q.top.lt
  have h4 := h.q.rw.lt
  have h5 := h.q.rh.lt
  simp
  omega
theorem notIn2 {x b bc r bw bh : Nat} (h : x ∉ allB b bc r bw bh) : x ∉ [b, bc] := fun hh => h (by
  simp at hh ⊢
  rcases hh with e | e
  · exact Or.inl e
  · exact Or.inr (Or.inl e))
theorem bool_ret {x y : Bool} (h : x = y) : Ending.returned (.bool x) = .returned (.bool y) := by rw [h]

set_option maxHeartbeats 8000000 in
set_option maxRecDepth 100000 in
theorem do_0 {W : World} {b bc r bw bh : Nat} {m : Cells} (HB : Both W b bc r bw bh m) (d a n k : Int) (ad : Nat) (old v : Int) (a0 : -9223372036854775808 ≤ a) (a1 : a ≤ 9223372036854775807) (n1 : n ≤ 9223372036854775807) (hd : d % 9 = 0) :
    Calls Tryd.prog 10 #[.pointer (some ⟨b, 0, none⟩), .pointer (some ⟨r, 0, none⟩), .agg #[.int .i64 d, .int .i64 a, .int .i64 n, .int .i64 k, .int .u64 ad, .int .u64 old, .int .u64 v]] W (StepPost b bc r bw bh m W) := by
  have B0 : Both (W.alloc (.cells #[.int .i64 d, .int .i64 a, .int .i64 n, .int .i64 k, .int .u64 ad, .int .u64 old, .int .u64 v] 36)) b bc r bw bh m := HB.below ((Below.refl _ _).alloc (Nat.le_refl _) _)
  have XB := Row.new W [.int .i64 d, .int .i64 a, .int .i64 n, .int .i64 k, .int .u64 ad, .int .u64 old, .int .u64 v] 36
  have o0 : Only (allB b bc r bw bh) W (W.alloc (.cells #[.int .i64 d, .int .i64 a, .int .i64 n, .int .i64 k, .int .u64 ad, .int .u64 old, .int .u64 v] 36)) := (Only.refl _ _).alloc _
  have nin := HB.notIn (Nat.le_refl W.heap.size)
  have WI := Lib.hid (fun w => within_any d 9 (by omega) (by omega) w)
  rw [hd] at WI
  obtain ⟨m1, g1, l1, c1, PA, PB⟩ := pair_map B0.drew a n k a0 a1 n1
  have PA1 := Lib.hid (PairA.calls PA)
  have PB1 := Lib.hid (PairB.calls PB)
  have o0d : Only (allB b bc r bw bh) W (W.alloc (.cells #[.int .i64 d, .int .i64 a, .int .i64 n, .int .i64 k, .int .u64 ad, .int .u64 old, .int .u64 v] 36)).drew := o0.drew
  have fin : Hid (∀ w', Both w' b bc r bw bh m1 → Only (allB b bc r bw bh) (W.alloc (.cells #[.int .i64 d, .int .i64 a, .int .i64 n, .int .i64 k, .int .u64 ad, .int .u64 old, .int .u64 v] 36)).drew w' → StepPost b bc r bw bh m W (.returned (.bool true)) w') := fun w' hb ho =>
    ⟨rfl, m1, l1, by omega, by omega, hb, o0d.trans ho⟩
  have XX := Lib.hid XB.drew
  obtain ⟨k0, k1, k2, k3, k4, k5, k6⟩ := opbox XB
  have NI := Lib.hid nin
  clear PA PB nin B0 XB o0 o0d hd g1 l1 c1 HB
  go_enter Tryd.func10, Tryd.ntmps10
  go_wp2_with (go_at_call 7; refine (WI.out _).mono ?_; rintro e w' ⟨rfl, rfl⟩)
  go_region_held3 (fun w' => w'.cell? ⟨W.heap.size, 1, none⟩ = some (.int .i64 a) ∧ w'.cell? ⟨W.heap.size, 2, none⟩ = some (.int .i64 n) ∧ w'.cell? ⟨W.heap.size, 3, none⟩ = some (.int .i64 k)) (go_keep)
    (first
      | (go_at_call 17; ((with_reducible refine PA1.out.mono ?_); rintro e w1 ⟨EV, rfl, o1, hR⟩; obtain ⟨k0, k1, k2, k3, k4, k5, k6⟩ := opbox (XX.out.only o1 NI.out)))
      | (go_at_call 20; ((with_reducible refine PB1.out.mono ?_); rintro e w1 ⟨FV, rfl, o1, hP⟩; obtain ⟨k0, k1, k2, k3, k4, k5, k6⟩ := opbox (XX.out.only o1 NI.out)))
      | (go_at_call 20; ((with_reducible refine hR.out.mono ?_); rintro e w2 ⟨FV, rfl, o2, hS⟩; obtain ⟨k0, k1, k2, k3, k4, k5, k6⟩ := opbox (XX.out.only o2 NI.out)))
      | (go_at_call 17; ((with_reducible refine hP.out.mono ?_); rintro e w2 ⟨EV, rfl, o2, hS⟩; obtain ⟨k0, k1, k2, k3, k4, k5, k6⟩ := opbox (XX.out.only o2 NI.out)))
      | (go_at_call 13; ((with_reducible refine hS.out.mono ?_); rintro e w3 ⟨rfl, hb3, o3⟩; obtain ⟨k0, k1, k2, k3, k4, k5, k6⟩ := opbox (XX.out.only o3 NI.out))))
  all_goals (
    go_wp2_with fail
    go_ret
    exact fin.out _ hb3 o3)

set_option maxHeartbeats 8000000 in
set_option maxRecDepth 100000 in
theorem do_1 {W : World} {b bc r bw bh : Nat} {m : Cells} (HB : Both W b bc r bw bh m) (d a n k : Int) (ad : Nat) (old v : Int) (a0 : -9223372036854775808 ≤ a) (a1 : a ≤ 9223372036854775807) (n1 : n ≤ 9223372036854775807) (hd : d % 9 = 1) :
    Calls Tryd.prog 10 #[.pointer (some ⟨b, 0, none⟩), .pointer (some ⟨r, 0, none⟩), .agg #[.int .i64 d, .int .i64 a, .int .i64 n, .int .i64 k, .int .u64 ad, .int .u64 old, .int .u64 v]] W (StepPost b bc r bw bh m W) := by
  have B0 : Both (W.alloc (.cells #[.int .i64 d, .int .i64 a, .int .i64 n, .int .i64 k, .int .u64 ad, .int .u64 old, .int .u64 v] 36)) b bc r bw bh m := HB.below ((Below.refl _ _).alloc (Nat.le_refl _) _)
  have XB := Row.new W [.int .i64 d, .int .i64 a, .int .i64 n, .int .i64 k, .int .u64 ad, .int .u64 old, .int .u64 v] 36
  have o0 : Only (allB b bc r bw bh) W (W.alloc (.cells #[.int .i64 d, .int .i64 a, .int .i64 n, .int .i64 k, .int .u64 ad, .int .u64 old, .int .u64 v] 36)) := (Only.refl _ _).alloc _
  have nin := HB.notIn (Nat.le_refl W.heap.size)
  have WI := Lib.hid (fun w => within_any d 9 (by omega) (by omega) w)
  rw [hd] at WI
  obtain ⟨m1, g1, l1, c1, PA, PB⟩ := pair_unmap B0.drew a n a0 a1 n1
  have PA1 := Lib.hid (PairA.calls PA)
  have PB1 := Lib.hid (PairB.calls PB)
  have o0d : Only (allB b bc r bw bh) W (W.alloc (.cells #[.int .i64 d, .int .i64 a, .int .i64 n, .int .i64 k, .int .u64 ad, .int .u64 old, .int .u64 v] 36)).drew := o0.drew
  have fin : Hid (∀ w', Both w' b bc r bw bh m1 → Only (allB b bc r bw bh) (W.alloc (.cells #[.int .i64 d, .int .i64 a, .int .i64 n, .int .i64 k, .int .u64 ad, .int .u64 old, .int .u64 v] 36)).drew w' → StepPost b bc r bw bh m W (.returned (.bool true)) w') := fun w' hb ho =>
    ⟨rfl, m1, l1, by omega, by omega, hb, o0d.trans ho⟩
  have XX := Lib.hid XB.drew
  obtain ⟨k0, k1, k2, k3, k4, k5, k6⟩ := opbox XB
  have NI := Lib.hid nin
  clear PA PB nin B0 XB o0 o0d hd g1 l1 c1 HB
  go_enter Tryd.func10, Tryd.ntmps10
  go_wp2_with (go_at_call 7; refine (WI.out _).mono ?_; rintro e w' ⟨rfl, rfl⟩)
  go_region_held3 (fun w' => w'.cell? ⟨W.heap.size, 1, none⟩ = some (.int .i64 a) ∧ w'.cell? ⟨W.heap.size, 2, none⟩ = some (.int .i64 n)) (go_keep)
    (first
      | (go_at_call 23; ((with_reducible refine PA1.out.mono ?_); rintro e w1 ⟨EV, rfl, o1, hR⟩; obtain ⟨k0, k1, k2, k3, k4, k5, k6⟩ := opbox (XX.out.only o1 NI.out)))
      | (go_at_call 25; ((with_reducible refine PB1.out.mono ?_); rintro e w1 ⟨FV, rfl, o1, hP⟩; obtain ⟨k0, k1, k2, k3, k4, k5, k6⟩ := opbox (XX.out.only o1 NI.out)))
      | (go_at_call 25; ((with_reducible refine hR.out.mono ?_); rintro e w2 ⟨FV, rfl, o2, hS⟩; obtain ⟨k0, k1, k2, k3, k4, k5, k6⟩ := opbox (XX.out.only o2 NI.out)))
      | (go_at_call 23; ((with_reducible refine hP.out.mono ?_); rintro e w2 ⟨EV, rfl, o2, hS⟩; obtain ⟨k0, k1, k2, k3, k4, k5, k6⟩ := opbox (XX.out.only o2 NI.out)))
      | (go_at_call 13; ((with_reducible refine hS.out.mono ?_); rintro e w3 ⟨rfl, hb3, o3⟩; obtain ⟨k0, k1, k2, k3, k4, k5, k6⟩ := opbox (XX.out.only o3 NI.out))))
  all_goals (
    go_wp2_with fail
    go_ret
    exact fin.out _ hb3 o3)

set_option maxHeartbeats 8000000 in
set_option maxRecDepth 100000 in
theorem do_2 {W : World} {b bc r bw bh : Nat} {m : Cells} (HB : Both W b bc r bw bh m) (d a n k : Int) (ad : Nat) (old v : Int) (hd : d % 9 = 2) :
    Calls Tryd.prog 10 #[.pointer (some ⟨b, 0, none⟩), .pointer (some ⟨r, 0, none⟩), .agg #[.int .i64 d, .int .i64 a, .int .i64 n, .int .i64 k, .int .u64 ad, .int .u64 old, .int .u64 v]] W (StepPost b bc r bw bh m W) := by
  have B0 : Both (W.alloc (.cells #[.int .i64 d, .int .i64 a, .int .i64 n, .int .i64 k, .int .u64 ad, .int .u64 old, .int .u64 v] 36)) b bc r bw bh m := HB.below ((Below.refl _ _).alloc (Nat.le_refl _) _)
  have XB := Row.new W [.int .i64 d, .int .i64 a, .int .i64 n, .int .i64 k, .int .u64 ad, .int .u64 old, .int .u64 v] 36
  have o0 : Only (allB b bc r bw bh) W (W.alloc (.cells #[.int .i64 d, .int .i64 a, .int .i64 n, .int .i64 k, .int .u64 ad, .int .u64 old, .int .u64 v] 36)) := (Only.refl _ _).alloc _
  have nin := HB.notIn (Nat.le_refl W.heap.size)
  have WI := Lib.hid (fun w => within_any d 9 (by omega) (by omega) w)
  rw [hd] at WI
  have WP := Lib.hid (memWidth B0.drew.p B0.g.small ad)
  have WR := Lib.hid (refWidth B0.drew.q B0.g.small ad)
  obtain ⟨x, hx⟩ : ∃ x, x = widthAt m.ws ad := ⟨_, rfl⟩
  rw [← hx] at WP WR
  have fin : Hid (∀ w', (∃ nn, w' = (W.alloc (.cells #[.int .i64 d, .int .i64 a, .int .i64 n, .int .i64 k, .int .u64 ad, .int .u64 old, .int .u64 v] 36)).drew.drewN nn) → StepPost b bc r bw bh m W (.returned (.bool true)) w') := fun w' ⟨nn, hw⟩ => by
    subst hw
    exact ⟨rfl, m, rfl, by omega, by omega, B0.drew.kept (F := []) ((Only.refl [] _).drewN nn) (by simp) (by simp) (by simp) (by simp) (by simp) (by simp), o0.drew.drewN nn⟩
  have k4 := XB.drew.cell 4 (by simp)
  simp only [List.getElem_cons_zero, List.getElem_cons_succ] at k4
  obtain ⟨x0, x1, x2, x3, x4, x5, x6⟩ := opbox XB
  have tx : (x == x) = true := beq_self_eq_true x
  clear nin B0 XB o0 hd HB hx
  go_enter Tryd.func10, Tryd.ntmps10
  go_wp2_with (go_at_call 7; refine (WI.out _).mono ?_; rintro e w' ⟨rfl, rfl⟩)
  go_region_held3 (fun w' => w'.cell? ⟨W.heap.size, 4, none⟩ = some (.int .u64 ad)) (go_keep)
    (first
      | (go_at_call 18; ((with_reducible refine WP.out.mono ?_); rintro e w1 ⟨rfl, rfl⟩))
      | (go_at_call 26; ((with_reducible refine WR.out.mono ?_); rintro e w1 ⟨rfl, rfl⟩)))
  all_goals (
    go_wp2_with fail
    go_ret
    exact fin.out _ ⟨0, rfl⟩)
end Go.Proofs.YtdnamjlknmcdjaaDoor
