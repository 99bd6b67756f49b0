/- The document's clock; the program's clock and the document's side by side; the walk of ClockPlays (layer 8). The condition: the library's variable errors.errorType holds the type error. -/
import Derived.Test.YtobbmhboahognaaDoorClkRefC
import Derived.Test.YtobbmhboahognaaDoorClkRefD
import Derived.Laws.ResultCell
import Derived.Test.YtobbmhboahognaaDoorClkErr
import Derived.Deep.RegionHeld3
import Derived.Test.YtobbmhboahognaaDoorClkTick2
import Derived.Lib.AppendZeros
import Derived.Test.YtobbmhboahognaaDoorClkLaw
import Derived.Deep.QuietTactic
import Derived.BigQuiet
import Derived.Test.YtobbmhboahognaaDoorProg
import Derived.Test.YtobbmhboahognaaDoorLawClose
import Derived.KernelRfl
import Derived.Test.YtobbmhboahognaaDoorKeepWithin
namespace Go.Proofs.YtobbmhboahognaaDoor
open Go.RowKit
set_option linter.unusedVariables false
variable {t : Int}

/-- Two results, the first a struct out of a cell. -/
theorem results_thing {fn : Func} {p u : Tmp} {ty : TypeId} {P : Program} (h : fn.results = #[.cell p ty, .tmp u]) (tmps : Array Value) (w : World) (g : Nat) (t : TypeId) (cs : Array Value) (fr : Nat × Nat) (d : TypeDesc) (v : Value)
    (hp : tmps.getD p undef = .pointer (some ⟨g, 0, none⟩)) (hq : tmps.getD u undef = v) (hg : w.heap[g]? = some (.cells cs t fr))
    (hd : (match d with | .struct _ | .array _ _ => true | _ => false) = true) (hu : P.underlying ty = some d) (hi : (P.info? ty).map (·.size) = some cs.size) :
    (results fn tmps).run P w = .ok (.tuple #[.agg cs, v]) w := by
  rw [results_cell_tmp h, hp, hq]
  simp [asAddr, Result.andThen, run_loadVar_row w g t ty cs fr d hg hu (by cases d <;> first | rfl | exact hd) hi]
/-- The three cells of a thing are written. -/
theorem box_below {w W1 : World} {v0 v1 v2 : Value} (hb : Below w.heap.size w W1) : Below w.heap.size w (((W1.setCell ⟨w.heap.size, 0, none⟩ v0).setCell ⟨w.heap.size, 1, none⟩ v1).setCell ⟨w.heap.size, 2, none⟩ v2) :=
  ((hb.setCell (p := ⟨w.heap.size, 0, none⟩) (Nat.le_refl _) _).setCell (p := ⟨w.heap.size, 1, none⟩) (Nat.le_refl _) _).setCell (p := ⟨w.heap.size, 2, none⟩) (Nat.le_refl _) _
/-- What find leaves. -/
def FindPost (x : Itm) (is : Bool) (w : World) (e : Ending) (w' : World) : Prop := e = .returned (.tuple #[.agg #[.int .u64 x.d, .int .u64 x.w, .int .i64 x.h], .bool is]) ∧ Below w.heap.size w w'
set_option maxHeartbeats 4000000 in
set_option maxRecDepth 100000 in
theorem crefFind_no {w : World} {r N : Nat} {v : Value} {S : List Itm} {last : Nat} (h : RefC t w r N v S last) (id : Int) (hn : ∀ j, j < S.length → (at_ S j).w ≠ id) (hl : S.length < 1073741824) :
    Calls Tryd.prog 56 #[.pointer (some ⟨r, 0, none⟩), .int .u64 id] w (FindPost ⟨0, 0, 0⟩ false w) := by
  have hb1 : Below w.heap.size w (w.alloc (.cells #[.int .u64 0, .int .u64 0, .int .i64 0] 128)) := (Below.refl _ _).alloc (Nat.le_refl _) _
  have h1 := h.below hb1
  have c0 := h1.c0
  have R := Row.new w [.int .u64 0, .int .u64 0, .int .i64 0] 128
  have RE := Lib.hid (World.alloc_heap_new w (.cells #[.int .u64 0, .int .u64 0, .int .i64 0] 128))
  have x0 := R.cell 0 (by simp)
  have x1 := R.cell 1 (by simp)
  have x2 := R.cell 2 (by simp)
  have y0 := R.free 0 (by simp)
  have y1 := R.free 1 (by simp)
  have y2 := R.free 2 (by simp)
  simp only [List.getElem_cons_zero, List.getElem_cons_succ] at x0 x1 x2
  have HB := Lib.hid (fun v0 v1 v2 => box_below (v0 := v0) (v1 := v1) (v2 := v2) hb1)
  unfold FindPost
  rcases h1.two with ⟨rfl, rfl⟩ | ⟨g, cap, rfl, _, hlc, _, hc⟩
  · clear h h1 R hn hl hb1
    go_enter Tryd.func56, Tryd.ntmps56
    go_upto_region 1 with fail
    generalize (w.alloc (.cells #[.int .u64 0, .int .u64 0, .int .i64 0] 128)) = W1 at *
    go_wp2_with fail
    go_loop [6] (fun vi => vi = .int .i64 0) (fun _ => 0)
    case atStart => exact rfl
    case round =>
      obtain rfl := hrel
      go_wp2_with fail
      refine bodyPost_ret (results_thing rfl _ _ w.heap.size _ _ (0, 0) _ _ rfl rfl (heap_set1 (heap_set1 (heap_set1 RE.out 0 _) 1 _) 2 _) rfl Tryd.underlying128 (by kernel_rfl)) rfl ?_
      exact ⟨rfl, HB.out _ _ _⟩
  · obtain ⟨n, hn2⟩ : ∃ n, n = S.length := ⟨_, rfl⟩
    rw [← hn2] at c0 hl
    have HN := Lib.hid hn2
    have HC := Lib.hid hc
    have HNO := Lib.hid hn
    clear h h1 R hn hb1 hc hn2 hlc
    go_enter Tryd.func56, Tryd.ntmps56
    go_upto_region 1 with fail
    generalize (w.alloc (.cells #[.int .u64 0, .int .u64 0, .int .i64 0] 128)) = W1 at *
    go_wp2_with fail
    go_loop [6] (fun vi => ∃ i : Nat, i ≤ n ∧ vi = .int .i64 i) (fun vi => n - (intOf vi).toNat)
    case atStart => exact ⟨0, Nat.zero_le _, rfl⟩
    case round =>
      obtain ⟨i, hi, rfl⟩ := hrel
      by_cases hlt : i < n
      · obtain ⟨p0, p1, p2⟩ := cells_itm HC.out i (by rw [← HN.out]; exact hlt)
        have hne := HNO.out i (by rw [← HN.out]; exact hlt)
        obtain ⟨x, hx⟩ : ∃ x, x = at_ S i := ⟨_, rfl⟩
        rw [← hx] at p0 p1 p2 hne
        obtain ⟨z0, z1, z2⟩ := x
        dsimp only at p0 p1 p2 hne
        have e1 : (z1 == id) = false := beq_eq_false_iff_ne.2 hne
        clear hx
        go_wp2_with fail
        go_round
        case rel => exact ⟨i + 1, by omega, by go_num⟩
        case measure => simp [intOf]; omega
      · go_wp2_with fail
        refine bodyPost_ret (results_thing rfl _ _ w.heap.size _ _ (0, 0) _ _ rfl rfl (heap_set1 (heap_set1 (heap_set1 RE.out 0 _) 1 _) 2 _) rfl Tryd.underlying128 (by kernel_rfl)) rfl ?_
        exact ⟨rfl, HB.out _ _ _⟩
set_option maxHeartbeats 4000000 in
set_option maxRecDepth 100000 in
theorem crefFind_yes {w : World} {r N : Nat} {v : Value} {S : List Itm} {last : Nat} (h : RefC t w r N v S last) (id : Int) (j : Nat) (hj : j < S.length) (hk : (at_ S j).w = id) (hn : ∀ i, i < j → (at_ S i).w ≠ id) (hl : S.length < 1073741824) :
    Calls Tryd.prog 56 #[.pointer (some ⟨r, 0, none⟩), .int .u64 id] w (FindPost (at_ S j) true w) := by
  have hb1 : Below w.heap.size w (w.alloc (.cells #[.int .u64 0, .int .u64 0, .int .i64 0] 128)) := (Below.refl _ _).alloc (Nat.le_refl _) _
  have h1 := h.below hb1
  have c0 := h1.c0
  have R := Row.new w [.int .u64 0, .int .u64 0, .int .i64 0] 128
  have RE := Lib.hid (World.alloc_heap_new w (.cells #[.int .u64 0, .int .u64 0, .int .i64 0] 128))
  have x0 := R.cell 0 (by simp)
  have x1 := R.cell 1 (by simp)
  have x2 := R.cell 2 (by simp)
  have y0 := R.free 0 (by simp)
  have y1 := R.free 1 (by simp)
  have y2 := R.free 2 (by simp)
  simp only [List.getElem_cons_zero, List.getElem_cons_succ] at x0 x1 x2
  have HB := Lib.hid (fun v0 v1 v2 => box_below (v0 := v0) (v1 := v1) (v2 := v2) hb1)
  unfold FindPost
  rcases h1.two with ⟨rfl, rfl⟩ | ⟨g, cap, rfl, _, hlc, _, hc⟩
  · simp at hj
  · obtain ⟨n, hn2⟩ : ∃ n, n = S.length := ⟨_, rfl⟩
    rw [← hn2] at c0 hl hj
    have HN := Lib.hid hn2
    have HC := Lib.hid hc
    have HNO := Lib.hid hn
    have HK := Lib.hid hk
    clear h h1 R hn hb1 hc hn2 hlc hk
    go_enter Tryd.func56, Tryd.ntmps56
    go_upto_region 1 with fail
    generalize (w.alloc (.cells #[.int .u64 0, .int .u64 0, .int .i64 0] 128)) = W1 at *
    go_wp2_with fail
    go_loop [6] (fun vi => ∃ i : Nat, i ≤ j ∧ vi = .int .i64 i) (fun vi => j - (intOf vi).toNat)
    case atStart => exact ⟨0, Nat.zero_le _, rfl⟩
    case round =>
      obtain ⟨i, hi, rfl⟩ := hrel
      obtain ⟨p0, p1, p2⟩ := cells_itm HC.out i (by rw [← HN.out]; omega)
      by_cases hlt : i < j
      · have hne := HNO.out i hlt
        obtain ⟨x, hx⟩ : ∃ x, x = at_ S i := ⟨_, rfl⟩
        rw [← hx] at p0 p1 p2 hne
        obtain ⟨z0, z1, z2⟩ := x
        dsimp only at p0 p1 p2 hne
        have e1 : (z1 == id) = false := beq_eq_false_iff_ne.2 hne
        have hin : (i : Int) < (n : Int) := by omega
        clear hx
        go_wp2_with fail
        go_round
        case rel => exact ⟨i + 1, by omega, by go_num⟩
        case measure => simp [intOf]; omega
      · obtain rfl : i = j := by omega
        have hk2 := HK.out
        obtain ⟨x, hx⟩ : ∃ x, x = at_ S i := ⟨_, rfl⟩
        rw [← hx] at p0 p1 p2 hk2
        have HX := Lib.hid hx
        obtain ⟨z0, z1, z2⟩ := x
        dsimp only at p0 p1 p2 hk2
        subst hk2
        have e1 : (z1 == z1) = true := by simp
        have hin : (i : Int) < (n : Int) := by omega
        clear hx
        go_wp2_with fail
        refine bodyPost_ret (results_thing rfl _ _ w.heap.size _ _ (0, 0) _ _ rfl rfl (heap_set1 (heap_set1 (heap_set1 RE.out 0 _) 1 _) 2 _) rfl Tryd.underlying128 (by kernel_rfl)) rfl ?_
        exact ⟨by rw [← HX.out]; rfl, HB.out _ _ _⟩
end Go.Proofs.YtobbmhboahognaaDoor

namespace Go.Proofs.YtobbmhboahognaaDoor
open Go.RowKit
set_option linter.unusedVariables false
variable {t : Int}

/-- A Fail of the document's, in blocks of its own. -/
def RFault (k : Int) (W : World) (e : Ending) (w' : World) : Prop := ∃ z, e = .returned (.pointer (some ⟨z + 1 + 1, 0, none⟩)) ∧ W.heap.size ≤ z ∧ FailBlk w' z clockS 0 k ∧ Below W.heap.size W w'
theorem rno_any (k : Int) (w : World) : Calls Tryd.prog 18 #[.string clockS, .int .i64 0, .int .i64 k] w (RFault k w) := by
  refine (no_any clockS 0 k w).mono ?_
  rintro e w' ⟨rfl, rfl⟩
  exact ⟨w.heap.size, rfl, Nat.le_refl _, FailBlk.new w clockS 0 k, ((((Below.refl _ _).alloc (Nat.le_refl _) _).alloc (by simp) _).alloc (by simp; omega) _)⟩
set_option maxHeartbeats 1000000 in
set_option maxRecDepth 100000 in
theorem crefArm_zero (r : Nat) (d : Int) (W : World) : Calls Tryd.prog 30 #[.pointer (some ⟨r, 0, none⟩), .int .u64 0, .int .u64 d] W (RFault 1 W) := by
  have FA := Lib.hid (rno_any 1)
  go_enter Tryd.func30, Tryd.ntmps30
  go_wp2_with (go_at_call 18; refine (FA.out _).mono ?_; rintro e w' ⟨q, rfl, h1, h2, h3⟩)
  go_ret
  exact ⟨_, rfl, h1, h2, h3⟩
section
variable {W : World} {r N : Nat} {v : Value} {S : List Itm} {last : Nat}
set_option maxHeartbeats 2000000 in
set_option maxRecDepth 100000 in
theorem crefArm_state (h : RefC t W r N v S last) (id d : Int) (h0 : id ≠ 0) (j : Nat) (hj : j < S.length) (hk : (at_ S j).w = id) (hn : ∀ i, i < j → (at_ S i).w ≠ id) (hl : S.length < 1073741824) :
    Calls Tryd.prog 30 #[.pointer (some ⟨r, 0, none⟩), .int .u64 id, .int .u64 d] W (RFault 8 W) := by
  have FI := Lib.hid (crefFind_yes h id j hj hk hn hl)
  have FA := Lib.hid (rno_any 8)
  have hne : (id == 0) = false := by simpa using h0
  generalize at_ S j = x at FI
  obtain ⟨z0, z1, z2⟩ := x
  unfold FindPost at FI
  clear h hj hk hn hl h0
  go_enter Tryd.func30, Tryd.ntmps30
  go_wp2_with fail
  go_at_call 56
  refine FI.out.mono ?_
  rintro e w1 ⟨rfl, hb⟩
  have HB := Lib.hid (show Below W.heap.size W (w1.alloc (.cells #[.int .u64 z0, .int .u64 z1, .int .i64 z2] 128)) from hb.alloc hb.size _)
  clear hb
  go_wp2_with (go_at_call 18; refine (FA.out _).mono ?_; rintro e w' ⟨q, rfl, h1, h2, h3⟩)
  go_ret
  exact ⟨_, rfl, Nat.le_trans HB.out.size h1, h2, HB.out.trans (h3.mono HB.out.size)⟩
set_option maxHeartbeats 2000000 in
set_option maxRecDepth 100000 in
theorem crefArm_forever (h : RefC t W r N v S last) (id : Int) (h0 : id ≠ 0) (hn : ∀ j, j < S.length → (at_ S j).w ≠ id) (hl : S.length < 1073741824) :
    Calls Tryd.prog 30 #[.pointer (some ⟨r, 0, none⟩), .int .u64 id, .int .u64 18446744073709551615] W fun e w' => e = .returned (.pointer none) ∧ Below W.heap.size W w' := by
  have FI := Lib.hid (crefFind_no h id hn hl)
  have hne : (id == 0) = false := by simpa using h0
  unfold FindPost at FI
  clear h hn hl h0
  go_enter Tryd.func30, Tryd.ntmps30
  go_wp2_with fail
  go_at_call 56
  refine FI.out.mono ?_
  rintro e w1 ⟨rfl, hb⟩
  have HB := Lib.hid (show Below W.heap.size W (w1.alloc (.cells #[.int .u64 0, .int .u64 0, .int .i64 0] 128)) from hb.alloc hb.size _)
  clear hb
  go_wp2_with fail
  go_ret
  exact ⟨rfl, HB.out⟩
/-- What Arm leaves, where the id becomes armed. -/
def RArmPost (t : Int) (W : World) (r N : Nat) (v : Value) (S : List Itm) (last : Nat) (id d : Int) (e : Ending) (w' : World) : Prop := e = .returned (.pointer none) ∧ ∃ v', RefCLed t W r N v w' v' (S.take (spot d S) ++ ⟨d, id, (last : Int) + 1⟩ :: S.drop (spot d S)) (last + 1)
theorem RefCLed.after {W W1 W' : World} {v' : Value} {S' : List Itm} {last' : Nat} (hb : Below W.heap.size W W1) (l : RefCLed t W1 r N v W' v' S' last') : RefCLed t W r N v W' v' S' last' :=
  ⟨l.at1, fun k hk => by
    rcases l.jump k hk with e | e
    · exact .inl e
    · exact .inr (Nat.le_trans hb.size e), (Only.of_below hb).trans l.only⟩
set_option maxHeartbeats 4000000 in
set_option maxRecDepth 100000 in
theorem crefArm_yes (h : RefC t W r N v S last) (id d : Int) (h0 : id ≠ 0) (hd : d ≠ 18446744073709551615) (hn : ∀ j, j < S.length → (at_ S j).w ≠ id) (hl : S.length < 1073741823) (hlast : last < 1073741823) :
    Calls Tryd.prog 30 #[.pointer (some ⟨r, 0, none⟩), .int .u64 id, .int .u64 d] W (RArmPost t W r N v S last id d) := by
  have FI := Lib.hid (crefFind_no h id hn (by omega))
  have hne : (id == 0) = false := by simpa using h0
  have hdn : (d != 18446744073709551615) = true := by simpa using hd
  have PT := Lib.hid (fun W1 (hb : Below W.heap.size W W1) => crefPut (h.below hb) d id hl hlast)
  unfold FindPost at FI
  clear h hn hl h0 hd hlast
  go_enter Tryd.func30, Tryd.ntmps30
  go_wp2_with fail
  go_at_call 56
  refine FI.out.mono ?_
  rintro e w1 ⟨rfl, hb⟩
  have HB := Lib.hid (show Below W.heap.size W (w1.alloc (.cells #[.int .u64 0, .int .u64 0, .int .i64 0] 128)) from hb.alloc hb.size _)
  clear hb
  go_wp2_with fail
  go_at_call 62
  refine (PT.out _ HB.out).mono ?_
  rintro e w2 ⟨rfl, v', l⟩
  go_wp2_with fail
  go_ret
  exact ⟨rfl, v', l.after HB.out⟩
set_option maxHeartbeats 2000000 in
set_option maxRecDepth 100000 in
theorem crefDeadline_no (h : RefC t W r N v S last) (id : Int) (hn : ∀ j, j < S.length → (at_ S j).w ≠ id) (hl : S.length < 1073741824) :
    Calls Tryd.prog 25 #[.pointer (some ⟨r, 0, none⟩), .int .u64 id] W fun e w' => e = .returned (.tuple #[.int .u64 0, .bool false]) ∧ Below W.heap.size W w' := by
  have FI := Lib.hid (crefFind_no h id hn hl)
  unfold FindPost at FI
  clear h hn hl
  go_enter Tryd.func25, Tryd.ntmps25
  go_wp2_with fail
  go_at_call 56
  refine FI.out.mono ?_
  rintro e w1 ⟨rfl, hb⟩
  have HB := Lib.hid (show Below W.heap.size W (w1.alloc (.cells #[.int .u64 0, .int .u64 0, .int .i64 0] 128)) from hb.alloc hb.size _)
  clear hb
  go_wp2_with fail
  go_ret2
  exact ⟨rfl, HB.out⟩
set_option maxHeartbeats 2000000 in
set_option maxRecDepth 100000 in
theorem crefDeadline_yes (h : RefC t W r N v S last) (id : Int) (j : Nat) (hj : j < S.length) (hk : (at_ S j).w = id) (hn : ∀ i, i < j → (at_ S i).w ≠ id) (hl : S.length < 1073741824) :
    Calls Tryd.prog 25 #[.pointer (some ⟨r, 0, none⟩), .int .u64 id] W fun e w' => e = .returned (.tuple #[.int .u64 (at_ S j).d, .bool true]) ∧ Below W.heap.size W w' := by
  have FI := Lib.hid (crefFind_yes h id j hj hk hn hl)
  unfold FindPost at FI
  generalize at_ S j = x at FI ⊢
  obtain ⟨z0, z1, z2⟩ := x
  clear h hn hl hj hk
  go_enter Tryd.func25, Tryd.ntmps25
  go_wp2_with fail
  go_at_call 56
  refine FI.out.mono ?_
  rintro e w1 ⟨rfl, hb⟩
  have HB := Lib.hid (show Below W.heap.size W (w1.alloc (.cells #[.int .u64 z0, .int .u64 z1, .int .i64 z2] 128)) from hb.alloc hb.size _)
  clear hb
  go_wp2_with fail
  go_ret2
  exact ⟨rfl, HB.out⟩
set_option maxHeartbeats 2000000 in
set_option maxRecDepth 100000 in
theorem crefDisarm_no (h : RefC t W r N v S last) (id : Int) (hn : ∀ j, j < S.length → (at_ S j).w ≠ id) (hl : S.length < 1073741824) :
    Calls Tryd.prog 23 #[.pointer (some ⟨r, 0, none⟩), .int .u64 id] W fun e w' => e = .returned (.bool false) ∧ Below W.heap.size W w' := by
  have FI := Lib.hid (crefFind_no h id hn hl)
  unfold FindPost at FI
  clear h hn hl
  go_enter Tryd.func23, Tryd.ntmps23
  go_wp2_with fail
  go_at_call 56
  refine FI.out.mono ?_
  rintro e w1 ⟨rfl, hb⟩
  have HB := Lib.hid (show Below W.heap.size W (w1.alloc (.cells #[.int .u64 0, .int .u64 0, .int .i64 0] 128)) from hb.alloc hb.size _)
  clear hb
  go_wp2_with fail
  go_ret
  exact ⟨rfl, HB.out⟩
set_option maxHeartbeats 4000000 in
set_option maxRecDepth 100000 in
theorem crefDisarm_yes (h : RefC t W r N v S last) (id : Int) (j : Nat) (hj : j < S.length) (hk : (at_ S j).w = id) (hn : ∀ i, i < j → (at_ S i).w ≠ id) (hh : ∀ i, i < j → (at_ S i).h ≠ (at_ S j).h) (hl : S.length < 1073741824) :
    Calls Tryd.prog 23 #[.pointer (some ⟨r, 0, none⟩), .int .u64 id] W fun e w' => e = .returned (.bool true) ∧ ∃ v', RefCLed t W r N v w' v' (S.take j ++ S.drop (j + 1)) last := by
  have FI := Lib.hid (crefFind_yes h id j hj hk hn hl)
  have DR := Lib.hid (fun W1 (hb : Below W.heap.size W W1) => crefDrop_yes (h.below hb) _ j hj rfl hh hl)
  unfold FindPost at FI
  generalize at_ S j = x at FI DR
  obtain ⟨z0, z1, z2⟩ := x
  clear h hn hl hj hk hh
  dsimp only at DR
  go_enter Tryd.func23, Tryd.ntmps23
  go_wp2_with fail
  go_at_call 56
  refine FI.out.mono ?_
  rintro e w1 ⟨rfl, hb⟩
  have hb2 : Below W.heap.size W (w1.alloc (.cells #[.int .u64 z0, .int .u64 z1, .int .i64 z2] 128)) := hb.alloc hb.size _
  have hq : (w1.alloc (.cells #[.int .u64 z0, .int .u64 z1, .int .i64 z2] 128)).cell? ⟨w1.heap.size, 2, none⟩ = some (.int .i64 z2) := (Row.new w1 [.int .u64 z0, .int .u64 z1, .int .i64 z2] 128).cell 2 (by simp)
  have HB := Lib.hid hb2.drew
  clear hb hb2
  go_upto_region 3 with fail
  generalize (w1.alloc (.cells #[.int .u64 z0, .int .u64 z1, .int .i64 z2] 128)) = W1 at hq HB ⊢
  go_region_with (go_at_call 57; refine (DR.out _ HB.out).mono ?_; rintro e w2 ⟨rfl, v', l⟩)
  all_goals
    go_wp2_with fail
    go_ret
    exact ⟨rfl, v', l.after HB.out⟩
end
end Go.Proofs.YtobbmhboahognaaDoor

namespace Go.Proofs.YtobbmhboahognaaDoor
open Go.RowKit
set_option linter.unusedVariables false

/-- Between two rounds of the document's Tick. -/
structure RTickI (t : Int) (W : World) (r N : Nat) (v : Value) (S : List Itm) (last : Nat) (wr : World) (i : Nat) (v' vc : Value) : Prop where
  q : RefC t wr r N v' (S.drop i) last
  own : wr.ownsRow W.heap.size 47 1 vc (S.take i).length (idsV (S.take i))
  only : Only [r] W wr
  jump : ∀ k, v'.ownBlock = some k → v.ownBlock = some k ∨ W.heap.size ≤ k
  ap : ∀ k, vc.ownBlock = some k → v'.ownBlock ≠ some k ∧ k ≠ r
  le : i ≤ S.length
  ds : ∀ j, j < i → (at_ S j).d ≤ t
section
variable {t : Int} {W wr w2 : World} {r N : Nat} {v : Value} {S : List Itm} {last i : Nat} {v' vc v2 : Value}
theorem RTickI.next (h : RTickI t W r N v S last wr i v' vc) (hi : i < S.length) (hd : (at_ S i).d ≤ t) (hS : S.length < 1073741824) (l : RefCLed t wr r N v' w2 v2 (S.drop (i + 1)) last) :
    ∃ vc' w3, (∀ ty, (Builtin.append_ #[23, 23] ty #[vc, .slice (some ⟨w2.heap.size, 0, none⟩) 1 1]).run Tryd.prog (w2.alloc (.cells #[.int .u64 (at_ S i).w] 47)) = .ok vc' w3) ∧ RTickI t W r N v S last w3 (i + 1) v2 vc' := by
  have hlt := h.own.lt
  have ho2 := ownsRow_only h.own l.only (fun k hk => by simpa using (h.ap k hk).2)
  have oa : Only [] w2 (w2.alloc (.cells #[.int .u64 (at_ S i).w] 47)) := (Only.refl _ _).alloc _
  have ho3 := ownsRow_only ho2 oa (by simp)
  have hsz := Nat.le_trans h.only.size l.only.size
  obtain ⟨vc', w3, hr0, ho4, hjump, o4⟩ := run_append_id ho3 (by rw [List.length_take]; omega) (at_ S i) w2.heap.size (World.alloc_heap_new _ _) (by simp; omega) 23
  have hl : (S.take (i + 1)).length = (S.take i).length + 1 := by simp; omega
  rw [← takeAt S i hi] at ho4
  have hv2 : ∀ k, vc.ownBlock = some k → v2.ownBlock ≠ some k := fun k hk e => by
    rcases l.jump k e with e2 | e2
    · exact (h.ap k hk).1 e2
    · have := (hlt k hk).2; omega
  have hrw : r < w2.heap.size := l.at1.top.lt
  have q3 := (l.at1.only oa (by simp) (by simp)).only o4 (fun hk => (h.ap r (by simpa using hk)).2 rfl) (fun k hk hm => hv2 k (by simpa using hm) hk)
  refine ⟨vc', w3, fun _ => hr0, q3, by rw [hl]; exact ho4, ?_, ?_, ?_, by omega, ?_⟩
  · refine Only.step (G := vc.ownBlock.toList) (h.only.trans (l.only)) (fun k hk => .inr (hlt k (by simpa using hk)).1) ?_
    exact ⟨o4.os, o4.tape, o4.output, Nat.le_trans oa.size o4.size, fun k hk hn => (o4.block k (Nat.lt_of_lt_of_le hk oa.size) hn).trans (oa.block k hk (by simp))⟩
  · intro k hk
    rcases l.jump k hk with e | e
    · exact h.jump k e
    · exact .inr (Nat.le_trans h.only.size e)
  · intro k hk
    rcases hjump k hk with e | e
    · exact ⟨hv2 k e, (h.ap k e).2⟩
    · simp at e
      refine ⟨fun e2 => ?_, by omega⟩
      have := (l.at1.row.lt k e2).2
      omega
  · intro j hj
    rcases Nat.lt_or_ge j i with h1 | h1
    · exact h.ds j h1
    · obtain rfl : j = i := by omega
      exact hd
end
/-- What the document's Tick leaves. -/
def RTickPost (now : Int) (W : World) (r N : Nat) (v : Value) (S : List Itm) (last : Nat) (e : Ending) (w' : World) : Prop := ∃ n vc v', e = .returned vc ∧ RTickI (now + 1) W r N v S last w' n v' vc ∧ (∀ y T, S.drop n = y :: T → now + 1 < y.d)
theorem RefC.setNow {t : Int} {W : World} {r N : Nat} {v : Value} {S : List Itm} {last : Nat} (h : RefC t W r N v S last) (u : Int) : RefC u (W.setCell ⟨r, 0, none⟩ (.int .u64 u)) r N v S last := by
  have o : Only [r] W (W.setCell ⟨r, 0, none⟩ (.int .u64 u)) := (Only.refl [r] W).setCell (p := ⟨r, 0, none⟩) (Or.inl (by simp)) _
  exact ⟨by simpa using h.top.set 0 (by simp) (.int .u64 u), ownsRow_only h.row o (fun k hk => by have := (h.row.lt k hk).1; have := h.rN; simp; omega), h.rN, Nat.le_trans h.NW o.size⟩
set_option maxHeartbeats 4000000 in
set_option maxRecDepth 100000 in
theorem crefTick {now : Int} {W : World} {r N : Nat} {v : Value} {S : List Itm} {last : Nat} (h : RefC now W r N v S last) (h0 : 0 ≤ now) (h1 : now < 18446744073709551615) (hS : S.length < 1073741824) :
    Calls Tryd.prog 28 #[.pointer (some ⟨r, 0, none⟩)] W (RTickPost now W r N v S last) := by
  have c0 : W.cell? ⟨r, 0, none⟩ = some (.int .u64 now) := h.top.cell 0 (by simp)
  have f0 : W.frozen? ⟨r, 0, none⟩ = false := h.top.free 0 (by simp)
  have hw : IntKind.u64.wrap (now + 1) = now + 1 := by rw [IntKind.wrap_u64]; omega
  have hrN := h.rN
  have hNW := h.NW
  have ST := Lib.hid (show RTickI (now + 1) W r N v S last (W.setCell ⟨r, 0, none⟩ (.int .u64 (now + 1))) 0 v (.slice none 0 0) from
    ⟨by simpa using h.setNow (now + 1), by simpa [idsV] using World.ownsRow_nil _ _ _ _, (Only.refl [r] W).setCell (p := ⟨r, 0, none⟩) (Or.inl (by simp)) _, fun k hk => .inl hk, fun k hk => by (cases hk), Nat.zero_le _, fun j hj => by omega⟩)
  have PY := Lib.hid (fun wr i v' vc (hi : RTickI (now + 1) W r N v S last wr i v' vc) (h1 : i < S.length) (h2 : (at_ S i).d ≤ now + 1) => (by
    have q := hi.q
    rw [dropAt S i h1] at q
    exact crefPop_yes (q.only (Only.refl [] wr).drew (by simp) (by simp)) (now + 1) h2 (by rw [← dropAt S i h1]; simp; omega) :
    Calls Tryd.prog 59 #[.pointer (some ⟨r, 1, none⟩), .int .u64 (now + 1)] wr.drew fun e w' => e = .returned (.tuple #[.int .u64 (at_ S i).w, .bool true]) ∧ ∃ v2, RefCLed (now + 1) wr.drew r N v' w' v2 (S.drop (i + 1)) last))
  have PN := Lib.hid (fun wr i v' vc (hi : RTickI (now + 1) W r N v S last wr i v' vc) (hn : ∀ y T, S.drop i = y :: T → now + 1 < y.d) => crefPop_no (hi.q.only (Only.refl [] wr).drew (by simp) (by simp)) (now + 1) hn (by simp; omega))
  clear h hNW
  go_enter Tryd.func28, Tryd.ntmps28
  go_wp2_with fail
  go_loopw [3] (fun v3 wr => ∃ (i : Nat) (v' : Value), lenV v3 = i ∧ Hid (RTickI (now + 1) W r N v S last wr i v' v3)) (fun v3 _ => S.length - lenV v3)
  case atStart => exact ⟨0, v, rfl, ST⟩
  case round =>
    obtain ⟨i, v', hi, ht⟩ := hrel
    have d0 : wr.cell? ⟨r, 0, none⟩ = some (.int .u64 (now + 1)) := ht.out.q.top.cell 0 (by simp)
    by_cases hy : i < S.length ∧ (at_ S i).d ≤ now + 1
    · obtain ⟨h1, h2⟩ := hy
      have PP := Lib.hid (PY.out wr i v' _ ht.out h1 h2)
      go_upto_region 3 with fail
      go_region_held3 (fun w' => w'.cell? ⟨r, 0, none⟩ = some (.int .u64 (now + 1))) (go_keep)
        (first
          | (go_at_call 59; ((with_reducible refine PP.out.mono ?_); rintro e w2 ⟨rfl, v2, l⟩; have d1 : w2.cell? ⟨r, 0, none⟩ = some (.int .u64 (now + 1)) := l.at1.top.cell 0 (by simp))))
      all_goals
        obtain ⟨vc', w3, hr, hn⟩ := RTickI.next (wr := wr.drew) ⟨ht.out.q.only (Only.refl [] wr).drew (by simp) (by simp), ht.out.own.drew, ht.out.only.drew, ht.out.jump, ht.out.ap, ht.out.le, ht.out.ds⟩ h1 h2 hS l
        have HR := Lib.hid hr
        have HN := Lib.hid hn
        have e3 := owns_len hn.own
        clear hr hn l
        go_wp2_with (at_builtin; refine Lib.wpList_append_run _ rfl _ _ 23 23 rfl _ _ rfl rfl _ _ (HR.out _) ?_)
        go_roundw
        case rel => exact ⟨i + 1, v2, by rw [e3, List.length_take]; omega, HN⟩
        case measure =>
          rw [List.length_take] at e3
          show S.length - lenV vc' < S.length - lenV u3
          omega
    · have hno : ∀ y T, S.drop i = y :: T → now + 1 < y.d := fun y T e => by
        have h1 : i < S.length := by
          rcases Nat.lt_or_ge i S.length with h | h
          · exact h
          · rw [List.drop_of_length_le h] at e; cases e
        rw [dropAt S i h1] at e
        cases e
        rcases Int.lt_or_le (now + 1) (at_ S i).d with h | h
        · exact h
        · exact absurd ⟨h1, h⟩ hy
      have PP := Lib.hid (PN.out wr i v' _ ht.out hno)
      have HNO := Lib.hid hno
      clear hno hy
      go_upto_region 3 with fail
      go_region_held3 (fun w' => w'.cell? ⟨r, 0, none⟩ = some (.int .u64 (now + 1))) (go_keep)
        (first
          | (go_at_call 59; ((with_reducible refine PP.out.mono ?_); rintro e w2 ⟨rfl, rfl⟩)))
      all_goals
        go_wp2_with fail
        go_ret
        exact ⟨i, _, v', rfl, ⟨ht.out.q.only (Only.refl [] wr).drew (by simp) (by simp), ht.out.own.drew, ht.out.only.drew, ht.out.jump, ht.out.ap, ht.out.le, ht.out.ds⟩, HNO.out⟩
end Go.Proofs.YtobbmhboahognaaDoor

namespace Go.Proofs.YtobbmhboahognaaDoor
open Go.RowKit
set_option linter.unusedVariables false

set_option maxHeartbeats 4000000 in
set_option maxRecDepth 100000 in
theorem clkDisarm_yes {W : World} {F : List Nat} {b : Nat} {now : Int} {A B : List Itm} {y : Itm} {last m : Nat} (h : ClockAt W F b now (A ++ y :: B) last m) (hm : m ≤ 4000) :
    Calls Tryd.prog 22 #[.pointer (some ⟨b, 0, none⟩), .int .u64 y.w] W fun e w' => e = .returned (.bool true) ∧ ∃ F', CLed W F b w' F' now (A ++ B) last m := by
  obtain ⟨qb, mb, N, mc, v, c, cc, k, rfl, hP, hwd, hwf, hk, hlast, hcc, hc⟩ := h
  have hid := hwf y (by simp)
  have hf := fOf_mem hwd (x := y) (by simp)
  have lk := hP.al.look y.w hid
  rw [hf] at lk
  have lk' : (Instr.lookup 120 (.map (some mc)) (.int .u64 y.w) true).run Tryd.prog W = .ok (.tuple #[.agg #[.int .i64 y.h, .int .u64 y.d], .bool true]) W := lk
  have c1 := hP.c1
  have c2 := hP.c2
  have hbl := hP.row.lt
  have hsome : (fOf (A ++ y :: B) y.w).isSome = true := by rw [hf]; rfl
  have DROP := Lib.hid (fun W1 (hb : Below W.heap.size W W1) => dropS_yes (hP.heap.below hb) y.h rfl (by omega) (by omega) (by unfold maxLen; omega))
  have NEXT := Lib.hid (fun W1 W2 v' W3 (hb : Below W.heap.size W W1) (l : Led W1 qb mb N v W2 v' (c + 2 * (A ++ y :: B).length + 1) (A ++ B) last) (ha : AlIs W3 mc cc ((A ++ y :: B).length - 1) (adel (fOf (A ++ y :: B)) y.w)) (hg : W2.grownBy W3 (some mc)) => (show ∃ F', CLed W (clkF b qb mb mc v) b W3 F' now (A ++ B) last m by
    have h1 := hP.only (Only.of_below (F := []) hb) (by simp)
    have h2 := h1.step l
    have h3 := h2.mapped (grown_only hg) ha
    have e := fOf_del hwd
    have el : (A ++ y :: B).length - 1 = (A ++ B).length := by simp
    refine ⟨clkF b qb mb mc v', ⟨qb, mb, N, mc, v', c + 2 * (A ++ y :: B).length + 1, cc, k + 1, rfl, ?_, hwd.del, fun x hx => hwf x ?_, ?_, by omega, by omega, by omega⟩, ?_, ?_⟩
    · rw [e, ← el]; exact h3
    · rcases List.mem_append.1 hx with h | h
      · simp [h]
      · simp [h]
    · simp at hk ⊢; omega
    · intro j hj
      rcases clk_jump (b := b) (mc := mc) l j hj with h | h
      · exact .inl h
      · exact .inr (Nat.le_trans hb.size h)
    · exact ((Only.of_below hb).trans (clk_only l)).trans ((grown_only hg).mono (by simp))))
  have AL := Lib.hid hP
  have HID := Lib.hid hid
  have HS := Lib.hid hsome
  have hb0 : Below W.heap.size W (W.alloc (.cells #[.int .i64 y.h, .int .u64 y.d] 124)) := (Below.refl _ _).alloc (Nat.le_refl _) _
  have ROW := Lib.hid (Row.new W [.int .i64 y.h, .int .u64 y.d] 124)
  have hlt := hP.lt
  have HX := Lib.hid (show ∀ k, k ∈ qb :: mb :: v.ownBlock.toList → k ≠ W.heap.size from fun k hk e => by
    have := hlt k (by simp only [List.mem_cons] at *; exact .inr (.inr hk)); omega)
  clear hP hwd hwf hk hlast hcc hc lk hf hid hsome hlt
  go_enter Tryd.func22, Tryd.ntmps22
  go_upto_region 3 with fail
  have c1 : (W.alloc (.cells #[.int .i64 y.h, .int .u64 y.d] 124)).cell? ⟨b, 1, none⟩ = some (.pointer (some ⟨qb, 0, none⟩)) := (hb0.cell (p := ⟨b, 1, none⟩) hbl).trans c1
  have c2 : (W.alloc (.cells #[.int .i64 y.h, .int .u64 y.d] 124)).cell? ⟨b, 2, none⟩ = some (.map (some mc)) := (hb0.cell (p := ⟨b, 2, none⟩) hbl).trans c2
  have R1 := ROW.out
  have c3 : (W.alloc (.cells #[.int .i64 y.h, .int .u64 y.d] 124)).cell? ⟨W.heap.size, 0, none⟩ = some (.int .i64 y.h) := R1.cell 0 (by simp)
  obtain ⟨X, hX⟩ : ∃ X, X = W.heap.size := ⟨_, rfl⟩
  rw [← hX] at c3 R1 HX ⊢
  have hXl := R1.lt
  generalize (W.alloc (.cells #[.int .i64 y.h, .int .u64 y.d] 124)) = W1 at hb0 c1 c2 c3 R1 hXl ⊢
  have HB0 := Lib.hid hb0.drew
  clear hb0 R1 hX ROW
  go_region_held3 (fun w' => w'.cell? ⟨b, 1, none⟩ = some (.pointer (some ⟨qb, 0, none⟩)) ∧ w'.cell? ⟨X, 0, none⟩ = some (.int .i64 y.h)) (go_keep)
    (first
      | (go_at_call 55; ((with_reducible refine (DROP.out _ HB0.out).mono ?_); rintro e w2 ⟨rfl, v', l⟩; have P2 := Lib.hid ((AL.out.only (Only.of_below (F := []) HB0.out) (by simp)).step l); have d1 := P2.out.c1; have d2 := P2.out.c2; have d3 : w2.cell? ⟨X, 0, none⟩ = some (.int .i64 y.h) := (World.cell?_of_block (w := W1) (a := ⟨X, 0, none⟩) (l.only.block X hXl (fun hk => HX.out X hk rfl))).trans c3)))
  all_goals
    go_wp2_with (at_delete; refine wpList_delete_al rfl _ _ rfl rfl P2.out.al _ HID.out HS.out rfl ?_; intro w3 ha hg hs)
    go_ret
    exact ⟨rfl, NEXT.out _ _ _ _ HB0.out l ha hg⟩
end Go.Proofs.YtobbmhboahognaaDoor

namespace Go.Proofs.YtobbmhboahognaaDoor
open Go.RowKit
set_option linter.unusedVariables false

theorem ClockAt.small {W : World} {F : List Nat} {b : Nat} {now : Int} {S : List Itm} {last m : Nat} (h : ClockAt W F b now S last m) : S.length ≤ m ∧ last ≤ m := by
  obtain ⟨qb, mb, N, mc, v, c, cc, k, rfl, hP, hwd, hwf, hk, hlast, hcc, hc⟩ := h
  omega
theorem ClockAt.facts {W : World} {F : List Nat} {b : Nat} {now : Int} {S : List Itm} {last m : Nat} (h : ClockAt W F b now S last m) : WD S ∧ (∀ x ∈ S, x.h ≤ last) ∧ (∀ i j, i < S.length → j < S.length → (at_ S i).h = (at_ S j).h → i = j) ∧ b ∈ F := by
  obtain ⟨qb, mb, N, mc, v, c, cc, k, rfl, hP, hwd, hwf, hk, hlast, hcc, hc⟩ := h
  have hh := hP.heap.hs
  obtain ⟨L, hL, hp, hs⟩ := hP.heap
  have hd : Distinct S := by
    rw [distinct_iff]
    exact (hp.map (·.h)).nodup_iff.1 ((distinct_iff L).1 hL.dist)
  exact ⟨hwd, fun x hx => (hh x hx).2, hd, by simp⟩
/-- A step of the document's clock. -/
structure RStep (W : World) (r N : Nat) (v : Value) (t : Int) (W' : World) (v' : Value) (T : List Itm) (last : Nat) : Prop where
  at1 : RefC t W' r N v' T last
  jump : ∀ k, v'.ownBlock = some k → v.ownBlock = some k ∨ W.heap.size ≤ k
  only : Only [r] W W'
structure PlayH (w : World) (B0 : Nat) (W : World) (F : List Nat) (b : Nat) (now : Int) (S : List Itm) (last m r N : Nat) (v : Value) (t : Int) (T : List Itm) (l2 : Nat) : Prop where
  q : ClkSince w B0 W F b now S last m
  p : RefC t W r N v T l2
  hr : B0 ≤ r
  hN : B0 ≤ N
  d : r ∉ F
  n : ∀ k, v.ownBlock = some k → k ∉ F
section
variable {w W W' : World} {B0 : Nat} {F F' : List Nat} {b : Nat} {now now' : Int} {S S' : List Itm} {last last' m m' r N : Nat} {v v' : Value} {t t' : Int} {T T' : List Itm} {l2 l2' : Nat}
theorem PlayH.led (h : PlayH w B0 W F b now S last m r N v t T l2) (l : CLed W F b W' F' now' S' last' m') : PlayH w B0 W' F' b now' S' last' m' r N v t T l2 := by
  have hrl := h.p.top.lt
  have hown := h.p.row.lt
  refine ⟨h.q.led l, h.p.only l.only h.d h.n, h.hr, h.hN, fun e => ?_, fun k hk e => ?_⟩
  · rcases l.jump r e with e | e
    · exact h.d e
    · omega
  · rcases l.jump k e with e | e
    · exact h.n k hk e
    · have := (hown k hk).2; omega
theorem PlayH.ref (h : PlayH w B0 W F b now S last m r N v t T l2) (l : RStep W r N v t' W' v' T' l2') : PlayH w B0 W' F b now S last m r N v' t' T' l2' := by
  have hlt := h.q.at1.lt
  refine ⟨⟨h.q.at1.only l.only (fun k hk => by simp; rintro rfl; exact h.d hk), h.q.hF, h.q.bel.trans (l.only.below (by simp; exact h.hr) h.q.hB), Nat.le_trans h.q.hB l.only.size⟩, l.at1, h.hr, h.hN, h.d, fun k hk e => ?_⟩
  rcases l.jump k hk with e2 | e2
  · exact h.n k e2 e
  · have := hlt k e; omega
theorem PlayH.below (h : PlayH w B0 W F b now S last m r N v t T l2) (hb : Below W.heap.size W W') : PlayH w B0 W' F b now S last m r N v t T l2 := h.led (CLed.same h.q.at1 hb)
theorem RefCLed.step (l : RefCLed t W r N v W' v' T' l2') : RStep W r N v t W' v' T' l2' := ⟨l.at1, l.jump, l.only⟩
theorem errAt_world (hg : ErrType w) (hB : 0 < B0) (hb : Below B0 w W) : ErrType W := errType_below hb hg hB
theorem only_cons {r : Nat} (l : Only F W W') : Only (r :: F) W W' := l.mono (fun k hk => List.mem_cons_of_mem _ hk)
theorem only_one {r : Nat} (l : Only [r] W W') : Only (r :: F) W W' := l.mono (by simp)
theorem find_cases (S : List Itm) (k : Int) : ((∀ x ∈ S, x.w ≠ k) ∧ ∀ j, j < S.length → (at_ S j).w ≠ k) ∨ ∃ j, j < S.length ∧ (at_ S j).w = k ∧ (∀ i, i < j → (at_ S i).w ≠ k) ∧ at_ S j ∈ S ∧ S = S.take j ++ at_ S j :: S.drop (j + 1) := by
  have hm : ∀ (S : List Itm) i, i < S.length → at_ S i ∈ S := fun S i hi => by rw [at_get _ _ hi]; exact List.getElem_mem _
  have base : (∀ j, j < S.length → (at_ S j).w ≠ k) ∨ ∃ j, j < S.length ∧ (at_ S j).w = k ∧ ∀ i, i < j → (at_ S i).w ≠ k := by
    induction S with
    | nil => exact .inl (fun j hj => by simp at hj)
    | cons y S ih =>
      by_cases hy : y.w = k
      · exact .inr ⟨0, by simp, by simpa [at_] using hy, fun i hi => by omega⟩
      · rcases ih with h | ⟨j, h1, h2, h3⟩
        · refine .inl (fun j hj => ?_)
          cases j with
          | zero => simpa [at_] using hy
          | succ j => have := h j (by simpa using hj); simpa [at_] using this
        · refine .inr ⟨j + 1, by simpa using h1, by simpa [at_] using h2, fun i hi => ?_⟩
          cases i with
          | zero => simpa [at_] using hy
          | succ i => have := h3 i (by omega); simpa [at_] using this
  rcases base with h | ⟨j, h1, h2, h3⟩
  · refine .inl ⟨fun x hx => ?_, h⟩
    obtain ⟨i, hi, rfl⟩ := List.mem_iff_getElem.1 hx
    have := h i hi
    rwa [at_get _ _ hi] at this
  · exact .inr ⟨j, h1, h2, h3, hm S j h1, by rw [at_get _ _ h1]; simp⟩
end
/-- Both hold the same. -/
abbrev PlayC (w : World) (B0 : Nat) (W : World) (F : List Nat) (b : Nat) (now : Int) (S : List Itm) (last m r N : Nat) (v : Value) : Prop := PlayH w B0 W F b now S last m r N v now S last
/-- What two calls leave. -/
def CNext (w : World) (B0 : Nat) (W : World) (b : Nat) (now : Int) (m r N : Nat) : Prop := ∃ F v S last, PlayC w B0 W F b now S last m r N v
/-- What both calls of Arm leave: answers that are the same. -/
def ANext (w : World) (B0 : Nat) (W : World) (b : Nat) (now : Int) (m r N : Nat) (E V : Value) : Prop := CNext w B0 W b now m r N ∧ Calls Tryd.prog 14 #[E, V] W fun e w' => e = .returned (.bool true) ∧ Below W.heap.size W w'
section
variable {w W : World} {B0 : Nat} {F : List Nat} {b : Nat} {now : Int} {S : List Itm} {last m r N : Nat} {v : Value}
theorem anext_fault {W1 W2 : World} {q z : Nat} {k : Int} (h2 : PlayC w B0 W2 F b now S last m r N v) (hg : ErrType w) (hB : 0 < B0) (hE : ErrBlk W2 q clockS 0 k) (hF : FailBlk W2 z clockS 0 k) (h1 : 1 ≤ k) (h10 : k ≤ 10) (m' : Nat) (hm : m ≤ m') :
    ANext w B0 W2 b now m' r N (.iface 108 (.pointer (some ⟨q, 0, none⟩))) (.pointer (some ⟨z + 1 + 1, 0, none⟩)) := by
  refine ⟨⟨F, v, S, last, ?_⟩, same_blk hE hF h1 h10 (errAt_world hg hB h2.q.bel)⟩
  obtain ⟨⟨hat, hF', hbel, hBB⟩, hp, hr, hN, hd, hn⟩ := h2
  obtain ⟨qb, mb, N', mc, v', c, cc, k', rfl, hP, hwd, hwf, hk, hrest⟩ := hat
  exact ⟨⟨⟨qb, mb, N', mc, v', c, cc, k', rfl, hP, hwd, hwf, by omega, hrest⟩, hF', hbel, hBB⟩, hp, hr, hN, hd, hn⟩
theorem PlayH.up {t : Int} {T : List Itm} {l2 m' : Nat} (h : PlayH w B0 W F b now S last m r N v t T l2) (hm : m ≤ m') : PlayH w B0 W F b now S last m' r N v t T l2 := by
  obtain ⟨⟨hat, hF', hbel, hBB⟩, hp, hr, hN, hd, hn⟩ := h
  obtain ⟨qb, mb, N', mc, v', c, cc, k', rfl, hP, hwd, hwf, hk, hrest⟩ := hat
  exact ⟨⟨⟨qb, mb, N', mc, v', c, cc, k', rfl, hP, hwd, hwf, by omega, hrest⟩, hF', hbel, hBB⟩, hp, hr, hN, hd, hn⟩
theorem wf0 : (Lit.int .u64 0).wf = true := by decide

/-- The program's Arm first. -/
theorem armA (h : PlayC w B0 W F b now S last m r N v) (hg : ErrType w) (hB : 0 < B0) (id d : Int) (hid : (Lit.int .u64 id).wf = true) (hm : m ≤ 4000) :
    Calls Tryd.prog 29 #[.pointer (some ⟨b, 0, none⟩), .int .u64 id, .int .u64 d] W fun e w1 => ∃ E, e = .returned E ∧ Only (r :: F) W w1 ∧
      Hid (Calls Tryd.prog 30 #[.pointer (some ⟨r, 0, none⟩), .int .u64 id, .int .u64 d] w1 fun e w2 => ∃ V, e = .returned V ∧ Only (r :: F) W w2 ∧ ANext w B0 w2 b now (m + 2) r N E V) := by
  obtain ⟨sm1, sm2⟩ := h.q.at1.small
  obtain ⟨hwd, hh, hhd, hbF⟩ := h.q.at1.facts
  by_cases h0 : id = 0
  · subst h0
    refine (clkArm_zero b d W).mono ?_
    rintro e w1 ⟨q, rfl, hq, hE, hb⟩
    have h1 := h.below hb
    refine ⟨_, rfl, Only.of_below hb, Lib.hid ((crefArm_zero r d w1).mono ?_)⟩
    rintro e w2 ⟨z, rfl, hz, hF, hb2⟩
    exact ⟨_, rfl, (Only.of_below hb).trans (Only.of_below hb2), anext_fault (W1 := w1) (h1.below hb2) hg hB (hE.only (F := []) (Only.of_below hb2) (by simp)) hF (by omega) (by omega) _ (by omega)⟩
  · rcases find_cases S id with ⟨hn1, hn2⟩ | ⟨j, hj, hjw, hjn, hjm, hjs⟩
    · by_cases hd : d = 18446744073709551615
      · subst hd
        refine (clkArm_forever h.q.at1 id hid h0 hn1).mono ?_
        rintro e w1 ⟨rfl, hb⟩
        have h1 := h.below hb
        refine ⟨_, rfl, Only.of_below hb, Lib.hid ((crefArm_forever h1.p id h0 hn2 (by omega)).mono ?_)⟩
        rintro e w2 ⟨rfl, hb2⟩
        exact ⟨_, rfl, (Only.of_below hb).trans (Only.of_below hb2), ⟨F, v, S, last, (h1.below hb2).up (by omega)⟩, (same_nil w2).mono (fun e w' h => ⟨h.1, h.2 ▸ Below.refl _ _⟩)⟩
      · refine (clkArm_yes h.q.at1 id d hid h0 hn1 hd hm).mono ?_
        rintro e w1 ⟨rfl, F', l⟩
        have h1 := h.led l
        refine ⟨_, rfl, only_cons l.only, Lib.hid ((crefArm_yes h1.p id d h0 hd hn2 (by omega) (by omega)).mono ?_)⟩
        rintro e w2 ⟨rfl, v', l2⟩
        have h2 := h1.ref l2.step
        rw [← spot_ins ⟨d, id, (last : Int) + 1⟩ S (fun y hy => by have := hh y hy; show y.h < (last : Int) + 1; omega)] at h2
        exact ⟨_, rfl, (only_cons l.only).trans (only_one l2.only), ⟨_, _, _, _, h2⟩, (same_nil w2).mono (fun e w' h => ⟨h.1, h.2 ▸ Below.refl _ _⟩)⟩
    · refine (clkArm_state h.q.at1 id d hid h0 hjm hjw).mono ?_
      rintro e w1 ⟨q, rfl, hq, hE, hb⟩
      have h1 := h.below hb
      refine ⟨_, rfl, Only.of_below hb, Lib.hid ((crefArm_state h1.p id d h0 j hj hjw hjn (by omega)).mono ?_)⟩
      rintro e w2 ⟨z, rfl, hz, hF, hb2⟩
      exact ⟨_, rfl, (Only.of_below hb).trans (Only.of_below hb2), anext_fault (W1 := w1) (h1.below hb2) hg hB (hE.only (F := []) (Only.of_below hb2) (by simp)) hF (by omega) (by omega) _ (by omega)⟩
/-- The document's Arm first. -/
theorem armB (h : PlayC w B0 W F b now S last m r N v) (hg : ErrType w) (hB : 0 < B0) (id d : Int) (hid : (Lit.int .u64 id).wf = true) (hm : m ≤ 4000) :
    Calls Tryd.prog 30 #[.pointer (some ⟨r, 0, none⟩), .int .u64 id, .int .u64 d] W fun e w1 => ∃ V, e = .returned V ∧ Only (r :: F) W w1 ∧
      Hid (Calls Tryd.prog 29 #[.pointer (some ⟨b, 0, none⟩), .int .u64 id, .int .u64 d] w1 fun e w2 => ∃ E, e = .returned E ∧ Only (r :: F) W w2 ∧ ANext w B0 w2 b now (m + 2) r N E V) := by
  obtain ⟨sm1, sm2⟩ := h.q.at1.small
  obtain ⟨hwd, hh, hhd, hbF⟩ := h.q.at1.facts
  by_cases h0 : id = 0
  · subst h0
    refine (crefArm_zero r d W).mono ?_
    rintro e w1 ⟨z, rfl, hz, hF, hb⟩
    have h1 := h.below hb
    refine ⟨_, rfl, Only.of_below hb, Lib.hid ((clkArm_zero b d w1).mono ?_)⟩
    rintro e w2 ⟨q, rfl, hq, hE, hb2⟩
    exact ⟨_, rfl, (Only.of_below hb).trans (Only.of_below hb2), anext_fault (W1 := w1) (h1.below hb2) hg hB hE (hF.only (F := []) (Only.of_below hb2) (by simp) (by simp) (by simp)) (by omega) (by omega) _ (by omega)⟩
  · rcases find_cases S id with ⟨hn1, hn2⟩ | ⟨j, hj, hjw, hjn, hjm, hjs⟩
    · by_cases hd : d = 18446744073709551615
      · subst hd
        refine (crefArm_forever h.p id h0 hn2 (by omega)).mono ?_
        rintro e w1 ⟨rfl, hb⟩
        have h1 := h.below hb
        refine ⟨_, rfl, Only.of_below hb, Lib.hid ((clkArm_forever h1.q.at1 id hid h0 hn1).mono ?_)⟩
        rintro e w2 ⟨rfl, hb2⟩
        exact ⟨_, rfl, (Only.of_below hb).trans (Only.of_below hb2), ⟨F, v, S, last, (h1.below hb2).up (by omega)⟩, (same_nil w2).mono (fun e w' h => ⟨h.1, h.2 ▸ Below.refl _ _⟩)⟩
      · refine (crefArm_yes h.p id d h0 hd hn2 (by omega) (by omega)).mono ?_
        rintro e w1 ⟨rfl, v', l2⟩
        have h1 := h.ref l2.step
        refine ⟨_, rfl, only_one l2.only, Lib.hid ((clkArm_yes h1.q.at1 id d hid h0 hn1 hd hm).mono ?_)⟩
        rintro e w2 ⟨rfl, F', l⟩
        have h2 := h1.led l
        rw [← spot_ins ⟨d, id, (last : Int) + 1⟩ S (fun y hy => by have := hh y hy; show y.h < (last : Int) + 1; omega)] at h2
        exact ⟨_, rfl, (only_one l2.only).trans (only_cons l.only), ⟨_, _, _, _, h2⟩, (same_nil w2).mono (fun e w' h => ⟨h.1, h.2 ▸ Below.refl _ _⟩)⟩
    · refine (crefArm_state h.p id d h0 j hj hjw hjn (by omega)).mono ?_
      rintro e w1 ⟨z, rfl, hz, hF, hb⟩
      have h1 := h.below hb
      refine ⟨_, rfl, Only.of_below hb, Lib.hid ((clkArm_state h1.q.at1 id d hid h0 hjm hjw).mono ?_)⟩
      rintro e w2 ⟨q, rfl, hq, hE, hb2⟩
      exact ⟨_, rfl, (Only.of_below hb).trans (Only.of_below hb2), anext_fault (W1 := w1) (h1.below hb2) hg hB hE (hF.only (F := []) (Only.of_below hb2) (by simp) (by simp) (by simp)) (by omega) (by omega) _ (by omega)⟩
theorem disA (h : PlayC w B0 W F b now S last m r N v) (id : Int) (hid : (Lit.int .u64 id).wf = true) (hm : m ≤ 4000) :
    Calls Tryd.prog 22 #[.pointer (some ⟨b, 0, none⟩), .int .u64 id] W fun e w1 => ∃ x, e = .returned (.bool x) ∧ Only (r :: F) W w1 ∧
      Hid (Calls Tryd.prog 23 #[.pointer (some ⟨r, 0, none⟩), .int .u64 id] w1 fun e w2 => e = .returned (.bool x) ∧ Only (r :: F) W w2 ∧ CNext w B0 w2 b now m r N) := by
  obtain ⟨sm1, sm2⟩ := h.q.at1.small
  obtain ⟨hwd, hh, hhd, hbF⟩ := h.q.at1.facts
  rcases find_cases S id with ⟨hn1, hn2⟩ | ⟨j, hj, hjw, hjn, hjm, hjs⟩
  · refine (clkDisarm_no h.q.at1 id hid hn1).mono ?_
    rintro e w1 ⟨rfl, hb⟩
    have h1 := h.below hb
    refine ⟨_, rfl, Only.of_below hb, Lib.hid ((crefDisarm_no h1.p id hn2 (by omega)).mono ?_)⟩
    rintro e w2 ⟨rfl, hb2⟩
    exact ⟨rfl, (Only.of_below hb).trans (Only.of_below hb2), F, v, S, last, h1.below hb2⟩
  · have hat := h.q.at1
    rw [hjs] at hat
    have hc := clkDisarm_yes hat hm
    rw [hjw] at hc
    refine hc.mono ?_
    rintro e w1 ⟨rfl, F', l⟩
    have h1 := h.led l
    refine ⟨_, rfl, only_cons l.only, Lib.hid ((crefDisarm_yes h1.p id j hj hjw hjn (fun i hi e => by have := hhd i j (by omega) hj e; omega) (by omega)).mono ?_)⟩
    rintro e w2 ⟨rfl, v', l2⟩
    exact ⟨rfl, (only_cons l.only).trans (only_one l2.only), _, _, _, _, h1.ref l2.step⟩
theorem disB (h : PlayC w B0 W F b now S last m r N v) (id : Int) (hid : (Lit.int .u64 id).wf = true) (hm : m ≤ 4000) :
    Calls Tryd.prog 23 #[.pointer (some ⟨r, 0, none⟩), .int .u64 id] W fun e w1 => ∃ x, e = .returned (.bool x) ∧ Only (r :: F) W w1 ∧
      Hid (Calls Tryd.prog 22 #[.pointer (some ⟨b, 0, none⟩), .int .u64 id] w1 fun e w2 => e = .returned (.bool x) ∧ Only (r :: F) W w2 ∧ CNext w B0 w2 b now m r N) := by
  obtain ⟨sm1, sm2⟩ := h.q.at1.small
  obtain ⟨hwd, hh, hhd, hbF⟩ := h.q.at1.facts
  rcases find_cases S id with ⟨hn1, hn2⟩ | ⟨j, hj, hjw, hjn, hjm, hjs⟩
  · refine (crefDisarm_no h.p id hn2 (by omega)).mono ?_
    rintro e w1 ⟨rfl, hb⟩
    have h1 := h.below hb
    refine ⟨_, rfl, Only.of_below hb, Lib.hid ((clkDisarm_no h1.q.at1 id hid hn1).mono ?_)⟩
    rintro e w2 ⟨rfl, hb2⟩
    exact ⟨rfl, (Only.of_below hb).trans (Only.of_below hb2), F, v, S, last, h1.below hb2⟩
  · refine (crefDisarm_yes h.p id j hj hjw hjn (fun i hi e => by have := hhd i j (by omega) hj e; omega) (by omega)).mono ?_
    rintro e w1 ⟨rfl, v', l2⟩
    have h1 := h.ref l2.step
    have hat := h1.q.at1
    rw [hjs] at hat
    have hc := clkDisarm_yes hat hm
    rw [hjw] at hc
    refine ⟨_, rfl, only_one l2.only, Lib.hid (hc.mono ?_)⟩
    rintro e w2 ⟨rfl, F', l⟩
    exact ⟨rfl, (only_one l2.only).trans (only_cons l.only), _, _, _, _, h1.led l⟩
theorem dlAB (h : PlayC w B0 W F b now S last m r N v) (id : Int) (hid : (Lit.int .u64 id).wf = true) (hm : m ≤ 4000) :
    Calls Tryd.prog 24 #[.pointer (some ⟨b, 0, none⟩), .int .u64 id] W fun e w1 => ∃ x y, e = .returned (.tuple #[.int .u64 x, .bool y]) ∧ Only (r :: F) W w1 ∧
      Hid (Calls Tryd.prog 25 #[.pointer (some ⟨r, 0, none⟩), .int .u64 id] w1 fun e w2 => e = .returned (.tuple #[.int .u64 x, .bool y]) ∧ CNext w B0 w2 b now m r N) := by
  obtain ⟨sm1, sm2⟩ := h.q.at1.small
  obtain ⟨hwd, hh, hhd, hbF⟩ := h.q.at1.facts
  refine (clkDeadline h.q.at1 id hid).mono ?_
  rintro e w1 ⟨rfl, hb⟩
  have h1 := h.below hb
  unfold dlV
  refine ⟨_, _, rfl, Only.of_below hb, Lib.hid ?_⟩
  rcases find_cases S id with ⟨hn1, hn2⟩ | ⟨j, hj, hjw, hjn, hjm, hjs⟩
  · rw [fOf_none hn1]
    refine (crefDeadline_no h1.p id hn2 (by omega)).mono ?_
    rintro e w2 ⟨rfl, hb2⟩
    exact ⟨rfl, F, v, S, last, h1.below hb2⟩
  · have hf := fOf_mem hwd hjm
    rw [hjw] at hf
    rw [hf]
    refine (crefDeadline_yes h1.p id j hj hjw hjn (by omega)).mono ?_
    rintro e w2 ⟨rfl, hb2⟩
    exact ⟨rfl, F, v, S, last, h1.below hb2⟩
/-- What both ticks leave: two rows of the same ids. -/
def TNext (w : World) (B0 : Nat) (W : World) (b : Nat) (now : Int) (m r N : Nat) (V1 V2 : Value) : Prop := CNext w B0 W b (now + 1) m r N ∧ ∃ L B1 B2, L.length ≤ m ∧ W.ownsRow B1 47 1 V1 L.length (idsV L) ∧ W.ownsRow B2 47 1 V2 L.length (idsV L)
theorem tickAB (h : PlayC w B0 W F b now S last m r N v) (h0 : 0 ≤ now) (h1 : now < 18446744073709551615) (hm : m ≤ 4000) :
    Calls Tryd.prog 27 #[.pointer (some ⟨b, 0, none⟩)] W fun e w1 => ∃ V1, e = .returned V1 ∧
      Hid (Calls Tryd.prog 28 #[.pointer (some ⟨r, 0, none⟩)] w1 fun e w2 => ∃ V2, e = .returned V2 ∧ TNext w B0 w2 b now m r N V1 V2) := by
  obtain ⟨sm1, sm2⟩ := h.q.at1.small
  refine (clkTick h.q.at1 h0 h1 hm).mono ?_
  rintro e w1 ⟨n, vc, F', hn, rfl, ho, l, hd, hp, hq⟩
  have hh1 := h.led l
  refine ⟨vc, rfl, Lib.hid ((crefTick hh1.p h0 h1 (by omega)).mono ?_)⟩
  rintro e w2 ⟨n2, v2, v', rfl, ht, hq2⟩
  obtain rfl : n2 = n := by
    rcases Nat.lt_trichotomy n2 n with h | h | h
    · have := hq2 _ _ (dropAt S n2 (by omega))
      have := hp n2 h; omega
    · exact h
    · have := hq _ _ (dropAt S n (by have := ht.le; omega))
      have := ht.ds n h; omega
  refine ⟨v2, rfl, ⟨F', v', _, _, hh1.ref ⟨ht.q, ht.jump, ht.only⟩⟩, S.take n2, W.heap.size, w1.heap.size, (by rw [List.length_take]; omega), ownsRow_only ho ht.only (fun k hk => ?_), ht.own⟩
  have := (ho.lt k hk).1
  have := h.p.top.lt
  simp; omega
end
end Go.Proofs.YtobbmhboahognaaDoor

namespace Go.Proofs.YtobbmhboahognaaDoor
open Go.RowKit
set_option linter.unusedVariables false

theorem owns_sliceW {W : World} {B : Nat} {t : TypeId} {s : Nat} {v : Value} {n : Nat} {xs : List Value} (h : W.ownsRow B t s v n xs) : ∃ ad c, v = .slice ad n c := by
  rcases h.2 with ⟨rfl, e⟩ | ⟨g, cap, cur, rfl, _⟩
  · exact ⟨none, 0, by rw [e]⟩
  · exact ⟨_, _, rfl⟩
theorem below_drewW (w : World) (n : Nat) : Below w.heap.size w (w.drewN n) := ⟨rfl, rfl, rfl, Nat.le_refl _, fun _ _ => rfl⟩
set_option maxHeartbeats 4000000 in
set_option maxRecDepth 100000 in
theorem words_same {W : World} {V1 V2 : Value} {L : List Itm} {B1 B2 : Nat} (h1 : W.ownsRow B1 47 1 V1 L.length (idsV L)) (h2 : W.ownsRow B2 47 1 V2 L.length (idsV L)) (hl : L.length < 1073741824) :
    Calls Tryd.prog 26 #[V1, V2] W fun e w' => e = .returned (.bool true) ∧ Below W.heap.size W w' := by
  have HC := Lib.hid (fun i (hi : i < L.length) => (show ∃ g1 c1 g2 c2, V1 = .slice (some ⟨g1, 0, none⟩) L.length c1 ∧ V2 = .slice (some ⟨g2, 0, none⟩) L.length c2 ∧ W.cell? ⟨g1, i, none⟩ = some (.int .u64 (at_ L i).w) ∧ W.cell? ⟨g2, i, none⟩ = some (.int .u64 (at_ L i).w) by
    obtain ⟨g1, c1, e1, q1⟩ := ids_at h1 (by omega)
    obtain ⟨g2, c2, e2, q2⟩ := ids_at h2 (by omega)
    exact ⟨g1, c1, g2, c2, e1, e2, q1 i hi, q2 i hi⟩))
  obtain ⟨a1, k1, rfl⟩ := owns_sliceW h1
  obtain ⟨a2, k2, rfl⟩ := owns_sliceW h2
  obtain ⟨n, hn⟩ : ∃ n, n = L.length := ⟨_, rfl⟩
  rw [← hn] at hl HC ⊢
  have hne : ((n : Int) != (n : Int)) = false := by simp
  clear h1 h2 hn
  go_enter Tryd.func26, Tryd.ntmps26
  go_wp2_with fail
  go_loopw [5] (fun vi wr => ∃ (i : Nat), i ≤ n ∧ vi = .int .i64 i ∧ Hid (∃ m, wr = W.drewN m)) (fun vi _ => n - (intOf vi).toNat)
  case atStart => exact ⟨0, Nat.zero_le _, rfl, Lib.hid ⟨0, rfl⟩⟩
  case round =>
    obtain ⟨i, hi, rfl, hwr⟩ := hrel
    have hcw : ∀ a, wr.cell? a = W.cell? a := fun a => by obtain ⟨m, rfl⟩ := hwr.out; rfl
    by_cases hlt : i < n
    · obtain ⟨g1, c1, g2, c2, e1, e2, q1, q2⟩ := HC.out i hlt
      cases e1
      cases e2
      rw [← hcw] at q1 q2
      generalize (at_ L i).w = x at q1 q2
      have hx : (x != x) = false := by simp
      have hin : (i : Int) < (n : Int) := by omega
      clear hcw
      go_upto_region 6 with fail
      go_quiet (fail)
      go_wp2_with fail
      go_roundw
      case rel => exact ⟨i + 1, by omega, by go_num, Lib.hid (by obtain ⟨m, e⟩ := hwr.out; exact ⟨_, by rw [e, World.drewN_drewN]⟩)⟩
      case measure => simp [intOf]; omega
    · obtain rfl : n = i := by omega
      clear hcw
      go_wp2_with fail
      go_ret
      exact ⟨rfl, by obtain ⟨m, rfl⟩ := hwr.out; exact below_drewW _ _⟩
end Go.Proofs.YtobbmhboahognaaDoor

namespace Go.Proofs.YtobbmhboahognaaDoor
open Go.RowKit Go.ChangeShapes Go.WideShapes
set_option linter.unusedVariables false

/-- A slice of calls: at each place its three fields. -/
def OpsIn (W : World) (A : Option Addr) (len : Nat) : Prop := ∀ i, i < len → ∃ p, A = some p ∧ p.block < W.heap.size ∧ ∃ (d a n : Int),
  (W.cell? (p.add (i * 3)) = some (.int .i64 d) ∧ W.cell? ⟨(p.add (i * 3)).block, (p.add (i * 3)).off + 1, none⟩ = some (.int .u64 a) ∧ W.cell? ⟨(p.add (i * 3)).block, (p.add (i * 3)).off + 2, none⟩ = some (.int .u64 n)) ∧
  (Lit.int .u64 a).wf = true

theorem ops_of_trod {H : Type} {enc : TypeId × Value → H} {W : World} {A : Option Addr} {len cap : Nat} {d : DataW H} {p : List MemPlace} (h : DataW.Trod enc Tryd.prog W 0 (fun _ => true) true 59 (.slice A len cap) d p) : len ≤ maxLen ∧ OpsIn W A len := by
  obtain ⟨hl, hi⟩ := structs_of_trod Tryd.underlying59 Tryd.underlying69 (by kernel_rfl) (by kernel_rfl) (by decide) h
  refine ⟨hl, fun i hlt => ?_⟩
  obtain ⟨p, e, hb, hf⟩ := hi i hlt
  obtain ⟨x0, e0, w0⟩ := hf 0 _ .i64 rfl Tryd.underlying3
  obtain ⟨x1, e1, w1⟩ := hf 1 _ .u64 rfl Tryd.underlying47
  obtain ⟨x2, e2, w2⟩ := hf 2 _ .u64 rfl Tryd.underlying47
  have at_ : ∀ j x, 0 < j → W.cell? (p.add (i * 3 + j)) = some x → W.cell? ⟨(p.add (i * 3)).block, (p.add (i * 3)).off + j, none⟩ = some x := fun j x hj h => by
    rw [← Go.Deep.add_add, add_pos _ _ hj] at h; exact h
  exact ⟨p, e, hb, x0, x1, x2, ⟨e0, at_ 1 _ (by omega) e1, at_ 2 _ (by omega) e2⟩, w1⟩
end Go.Proofs.YtobbmhboahognaaDoor

namespace Go.Proofs.YtobbmhboahognaaDoor
open Go.RowKit
set_option linter.unusedVariables false

theorem opbox8 {W : World} {X : Nat} {d a u : Int} (hx : Row W X [.int .i64 d, .int .u64 a, .int .u64 u]) : W.cell? ⟨X, 0, none⟩ = some (.int .i64 d) ∧ W.cell? ⟨X, 1, none⟩ = some (.int .u64 a) ∧ W.cell? ⟨X, 2, none⟩ = some (.int .u64 u) :=
  ⟨hx.cell 0 (by simp), hx.cell 1 (by simp), hx.cell 2 (by simp)⟩
set_option maxHeartbeats 8000000 in
set_option maxRecDepth 100000 in
theorem clockPlays_walk (w : World) (A : Option Addr) (len cap : Nat) (hl : len ≤ maxLen) (hs : OpsIn w A len) (hg : ErrType w) :
    Calls Tryd.prog 5 #[.slice A len cap] w fun e w' => e = .returned (.bool true) ∧ Below w.heap.size w w' := by
  have NW := Lib.hid (clkNew w w.heap.size w (Below.refl _ _) (Nat.le_refl _))
  have AW := Lib.hid awake_any
  have S0 := Lib.hid hs
  have HG := Lib.hid hg
  have GB := Lib.hid (show 0 < w.heap.size from cell_lt hg)
  have WN := Lib.hid (fun x W => within_any x 7 (by omega) (by omega) W)
  unfold maxLen at hl
  clear hs hg
  go_enter Tryd.func5, Tryd.ntmps5
  go_wp2_with fail
  go_at_call 21
  refine NW.out.mono ?_
  rintro e w1 ⟨b, F1, rfl, h1⟩
  obtain ⟨r, hr⟩ : ∃ r, r = w1.heap.size := ⟨_, rfl⟩
  have hb2 : Below w1.heap.size w1 (w1.alloc (.cells #[.int .u64 0, .slice none 0 0, .int .i64 0] 67)) := (Below.refl _ _).alloc (Nat.le_refl _) _
  have rw2 := Row.new w1 [.int .u64 0, .slice none 0 0, .int .i64 0] 67
  have hlt1 := h1.at1.lt
  have hB1 := h1.hB
  have P0 : PlayC w w.heap.size (w1.alloc (.cells #[.int .u64 0, .slice none 0 0, .int .i64 0] 67)) F1 b 0 [] 0 (2 * 0) r (r + 1) (.slice none 0 0) := by
    refine ⟨h1.below hb2, ⟨?_, World.ownsRow_nil _ _ _ _, by omega, by simp; omega⟩, by omega, by omega, fun e => by have := hlt1 r e; omega, (fun k hk => by cases hk)⟩
    rw [hr]; exact rw2
  have HP0 := Lib.hid P0
  clear P0 h1 hb2 rw2 hlt1 hB1
  go_wp2_with fail
  simp only [← hr]
  generalize w1.alloc (.cells #[.int .u64 0, .slice none 0 0, .int .i64 0] 67) = W1 at *
  clear hr
  go_loopw [5] (fun vi wr => ∃ (i nw : Nat) (F : List Nat) (v : Value) (S : List Itm) (last : Nat), i ≤ 120 ∧ i ≤ len ∧ vi = .int .i64 i ∧ Hid (nw ≤ i) ∧ Hid (PlayC w w.heap.size wr F b (nw : Int) S last (2 * i) r (r + 1) v)) (fun vi _ => 120 - (intOf vi).toNat)
  case atStart => exact ⟨0, 0, F1, _, [], 0, by omega, by omega, rfl, Lib.hid (by omega), HP0⟩
  case round =>
    obtain ⟨i, nw, F, v, S, last, hi, hil, rfl, HNW, hp⟩ := hrel
    by_cases hlt : i < len ∧ i < 120
    · obtain ⟨hlm, hl120⟩ := hlt
      obtain ⟨p, rfl, hpb, d, a, u, ⟨f0, f1, f2⟩, wa⟩ := S0.out i hlm
      have pb : (p.add (i * 3)).block < w.heap.size := by rw [ChangeShapes.block_add]; exact hpb
      have hbl := hp.out.q.bel
      have f0 : wr.cell? (p.add (i * 3)) = some (.int .i64 d) := by rw [hbl.cell pb]; exact f0
      have f1 : wr.cell? ⟨(p.add (i * 3)).block, (p.add (i * 3)).off + 1, none⟩ = some (.int .u64 a) := by rw [hbl.cell (p := ⟨_, _, none⟩) pb]; exact f1
      have f2 : wr.cell? ⟨(p.add (i * 3)).block, (p.add (i * 3)).off + 2, none⟩ = some (.int .u64 u) := by rw [hbl.cell (p := ⟨_, _, none⟩) pb]; exact f2
      have hD : PlayC w w.heap.size (wr.alloc (.cells #[.int .i64 d, .int .u64 a, .int .u64 u] 69)) F b (nw : Int) S last (2 * i) r (r + 1) v := hp.out.below ((Below.refl _ _).alloc (Nat.le_refl _) _)
      have xx := Row.new wr [.int .i64 d, .int .u64 a, .int .u64 u] 69
      have hX1 := hp.out.q.at1.lt
      have hX2 := hp.out.p.top.lt
      obtain ⟨X, hX⟩ : ∃ X, X = wr.heap.size := ⟨_, rfl⟩
      have ni : X ∉ r :: F := by
        simp only [List.mem_cons, not_or]
        exact ⟨by omega, fun e => by have := hX1 X e; omega⟩
      rw [← hX] at xx
      have HD := Lib.hid hD
      have XX := Lib.hid xx
      have NI := Lib.hid ni
      have WA := Lib.hid wa
      have WI := WN.out d
      have hdm : d % 7 = 3 ∨ d % 7 = 4 ∨ d % 7 = 5 ∨ d % 7 = 6 ∨ (d % 7 ≠ 3 ∧ d % 7 ≠ 4 ∧ d % 7 ≠ 5 ∧ d % 7 ≠ 6) := by omega
      have hn0 : nw ≤ 120 := by have := HNW.out; omega
      clear hD xx ni hX1 hX2 hbl pb hp wa
      go_wp2_with fail
      simp only [← hX]
      clear hX
      rcases hdm with hm | hm | hm | hm | hm
      · rw [hm] at WI
        have WI2 := Lib.hid WI
        obtain ⟨k0, k1, k2⟩ := opbox8 XX.out
        clear WI
        have PA := Lib.hid (disA (HD.out.below (Below.refl _ _).drew) a WA.out (by omega))
        have PB := Lib.hid (disB (HD.out.below (Below.refl _ _).drew) a WA.out (by omega))
        have XD := Lib.hid XX.out.drew
        go_wp2_with fail
        go_at_call 11
        refine (WI2.out _).mono ?_
        rintro e w2 ⟨rfl, rfl⟩
        go_upto_region 13 with fail
        go_region_held3 (fun w' => w'.cell? ⟨X, 1, none⟩ = some (.int .u64 a)) (go_keep)
          (first
            | (go_at_call 22; ((with_reducible refine PA.out.mono ?_); rintro e w3 ⟨x, rfl, ho3, hR⟩; obtain ⟨k0, k1, k2⟩ := opbox8 (XD.out.only ho3 NI.out)))
            | (go_at_call 23; ((with_reducible refine PB.out.mono ?_); rintro e w3 ⟨x, rfl, ho3, hP⟩; obtain ⟨k0, k1, k2⟩ := opbox8 (XD.out.only ho3 NI.out)))
            | (go_at_call 23; ((with_reducible refine hR.out.mono ?_); rintro e w4 ⟨rfl, ho4, hnx⟩; obtain ⟨k0, k1, k2⟩ := opbox8 (XD.out.only ho4 NI.out)))
            | (go_at_call 22; ((with_reducible refine hP.out.mono ?_); rintro e w4 ⟨rfl, ho4, hnx⟩; obtain ⟨k0, k1, k2⟩ := opbox8 (XD.out.only ho4 NI.out))))
        all_goals
          have tx : (x != x) = false := bne_self_eq_false x
          clear PA PB
          obtain ⟨F', v', S', last', hp'⟩ := hnx
          have HP := Lib.hid (hp'.up (m' := 2 * (i + 1)) (by omega))
          clear hp'
          obtain ⟨n2, hn2⟩ : ∃ n2, n2 = nw := ⟨_, rfl⟩
          rw [← hn2] at HP
          have HNN := Lib.hid (show n2 ≤ i + 1 by have := HNW.out; omega)
          clear hn2
          have NN := Lib.hid (show ∀ q, Calls Tryd.prog 31 #[.pointer (some ⟨b, 0, none⟩)] (w4.drewN q) (fun e w' => e = .returned (.int .u64 n2) ∧ w' = w4.drewN q) from fun q => (clkNow (HP.out.below (below_drewW _ q)).q.at1).mono (fun e W' h => ⟨h.1, h.2.symm⟩))
          have LN := Lib.hid (show ∀ q, Calls Tryd.prog 32 #[.pointer (some ⟨b, 0, none⟩)] (w4.drewN q) (fun e w' => e = .returned (.int .i64 S'.length) ∧ w' = w4.drewN q) from fun q => (clkArmed (HP.out.below (below_drewW _ q)).q.at1).mono (fun e W' h => ⟨h.1, h.2.symm⟩))
          have cr := HP.out.p.c0
          have ct : w4.cell? ⟨r, 0, none⟩ = some (.int .u64 n2) := HP.out.p.top.cell 0 (by simp)
          obtain ⟨pr, ccr, hvr⟩ := ownsT_slice HP.out.p.row
          rw [hvr] at cr
          clear hvr
          obtain ⟨kk, hkk⟩ : ∃ kk, kk = S'.length := ⟨_, rfl⟩
          rw [← hkk] at cr LN
          have tkk : ((kk : Int) != (kk : Int)) = false := bne_self_eq_false (kk : Int)
          have tnn : ((n2 : Int) != (n2 : Int)) = false := bne_self_eq_false (n2 : Int)
          have hrW := HP.out.p.top.lt
          clear hkk
          go_wp2_with fail
          go_quiet (first | (go_at_call 31; exact Calls.quiet_of_same (NN.out _)) | (go_at_call 32; exact Calls.quiet_of_same (LN.out _)))
          have HP9 := Lib.hid (HP.out.below (below_drewW _ nq))
          go_wp2_with fail
          go_roundw
          case rel => exact ⟨i + 1, n2, F', v', S', last', by omega, by omega, by go_num, HNN, HP9⟩
          case measure => simp [intOf]; omega
      · rw [hm] at WI
        have WI2 := Lib.hid WI
        obtain ⟨k0, k1, k2⟩ := opbox8 XX.out
        clear WI
        have AB := Lib.hid (dlAB HD.out a WA.out (by omega))
        go_wp2_with fail
        go_at_call 11
        refine (WI2.out _).mono ?_
        rintro e w2 ⟨rfl, rfl⟩
        go_wp2_with fail
        go_at_call 24
        refine AB.out.mono ?_
        rintro e w3 ⟨x, y, rfl, ho3, hR3⟩
        clear k0 k1 k2
        obtain ⟨k0, k1, k2⟩ := opbox8 (XX.out.only ho3 NI.out)
        clear ho3 AB
        have t0 : (x != x) = false := bne_self_eq_false x
        have t1 : (y != y) = false := bne_self_eq_false y
        go_wp2_with fail
        go_at_call 25
        refine hR3.out.mono ?_
        rintro e w4 ⟨rfl, hnx⟩
        clear hR3 k0 k1 k2
        obtain ⟨F', v', S', last', hp'⟩ := hnx
        have HP := Lib.hid (hp'.up (m' := 2 * (i + 1)) (by omega))
        clear hp'
        obtain ⟨n2, hn2⟩ : ∃ n2, n2 = nw := ⟨_, rfl⟩
        rw [← hn2] at HP
        have HNN := Lib.hid (show n2 ≤ i + 1 by have := HNW.out; omega)
        clear hn2
        have NN := Lib.hid (show ∀ q, Calls Tryd.prog 31 #[.pointer (some ⟨b, 0, none⟩)] (w4.drewN q) (fun e w' => e = .returned (.int .u64 n2) ∧ w' = w4.drewN q) from fun q => (clkNow (HP.out.below (below_drewW _ q)).q.at1).mono (fun e W' h => ⟨h.1, h.2.symm⟩))
        have LN := Lib.hid (show ∀ q, Calls Tryd.prog 32 #[.pointer (some ⟨b, 0, none⟩)] (w4.drewN q) (fun e w' => e = .returned (.int .i64 S'.length) ∧ w' = w4.drewN q) from fun q => (clkArmed (HP.out.below (below_drewW _ q)).q.at1).mono (fun e W' h => ⟨h.1, h.2.symm⟩))
        have cr := HP.out.p.c0
        have ct : w4.cell? ⟨r, 0, none⟩ = some (.int .u64 n2) := HP.out.p.top.cell 0 (by simp)
        obtain ⟨pr, ccr, hvr⟩ := ownsT_slice HP.out.p.row
        rw [hvr] at cr
        clear hvr
        obtain ⟨kk, hkk⟩ : ∃ kk, kk = S'.length := ⟨_, rfl⟩
        rw [← hkk] at cr LN
        have tkk : ((kk : Int) != (kk : Int)) = false := bne_self_eq_false (kk : Int)
        have tnn : ((n2 : Int) != (n2 : Int)) = false := bne_self_eq_false (n2 : Int)
        have hrW := HP.out.p.top.lt
        clear hkk
        go_wp2_with fail
        go_quiet (first | (go_at_call 31; exact Calls.quiet_of_same (NN.out _)) | (go_at_call 32; exact Calls.quiet_of_same (LN.out _)))
        have HP9 := Lib.hid (HP.out.below (below_drewW _ nq))
        go_wp2_with fail
        go_roundw
        case rel => exact ⟨i + 1, n2, F', v', S', last', by omega, by omega, by go_num, HNN, HP9⟩
        case measure => simp [intOf]; omega
      · rw [hm] at WI
        have WI2 := Lib.hid WI
        obtain ⟨k0, k1, k2⟩ := opbox8 XX.out
        clear WI
        have AB := Lib.hid (tickAB HD.out (by omega) (by omega) (by omega))
        go_wp2_with fail
        go_at_call 11
        refine (WI2.out _).mono ?_
        rintro e w2 ⟨rfl, rfl⟩
        go_wp2_with fail
        go_at_call 27
        refine AB.out.mono ?_
        rintro e w3 ⟨V1, rfl, hR3⟩
        clear AB k0 k1 k2
        go_wp2_with fail
        go_at_call 28
        refine hR3.out.mono ?_
        rintro e w5 ⟨V2, rfl, hnx, L, B1, B2, hL, o1, o2⟩
        have HLL : L.length < 1073741824 := by omega
        have WS := Lib.hid (words_same o1 o2 HLL)
        have HNX := Lib.hid hnx
        clear hR3 o1 o2 hnx
        go_wp2_with fail
        go_at_call 26
        refine WS.out.mono ?_
        rintro e w4 ⟨rfl, hb4⟩
        obtain ⟨Fx, vx, Sx, lx, hx⟩ := HNX.out
        have hnx : CNext w w.heap.size w4 b ((nw : Int) + 1) (2 * i) r (r + 1) := ⟨Fx, vx, Sx, lx, hx.below hb4⟩
        clear hx hb4 WS HNX
        obtain ⟨F', v', S', last', hp'⟩ := hnx
        have HP := Lib.hid (hp'.up (m' := 2 * (i + 1)) (by omega))
        clear hp'
        obtain ⟨n2, hn2⟩ : ∃ n2, n2 = nw + 1 := ⟨_, rfl⟩
        rw [show (nw : Int) + 1 = (n2 : Int) by omega] at HP
        have HNN := Lib.hid (show n2 ≤ i + 1 by have := HNW.out; omega)
        clear hn2
        have NN := Lib.hid (show ∀ q, Calls Tryd.prog 31 #[.pointer (some ⟨b, 0, none⟩)] (w4.drewN q) (fun e w' => e = .returned (.int .u64 n2) ∧ w' = w4.drewN q) from fun q => (clkNow (HP.out.below (below_drewW _ q)).q.at1).mono (fun e W' h => ⟨h.1, h.2.symm⟩))
        have LN := Lib.hid (show ∀ q, Calls Tryd.prog 32 #[.pointer (some ⟨b, 0, none⟩)] (w4.drewN q) (fun e w' => e = .returned (.int .i64 S'.length) ∧ w' = w4.drewN q) from fun q => (clkArmed (HP.out.below (below_drewW _ q)).q.at1).mono (fun e W' h => ⟨h.1, h.2.symm⟩))
        have cr := HP.out.p.c0
        have ct : w4.cell? ⟨r, 0, none⟩ = some (.int .u64 n2) := HP.out.p.top.cell 0 (by simp)
        obtain ⟨pr, ccr, hvr⟩ := ownsT_slice HP.out.p.row
        rw [hvr] at cr
        clear hvr
        obtain ⟨kk, hkk⟩ : ∃ kk, kk = S'.length := ⟨_, rfl⟩
        rw [← hkk] at cr LN
        have tkk : ((kk : Int) != (kk : Int)) = false := bne_self_eq_false (kk : Int)
        have tnn : ((n2 : Int) != (n2 : Int)) = false := bne_self_eq_false (n2 : Int)
        have hrW := HP.out.p.top.lt
        clear hkk
        go_wp2_with fail
        go_quiet (first | (go_at_call 31; exact Calls.quiet_of_same (NN.out _)) | (go_at_call 32; exact Calls.quiet_of_same (LN.out _)))
        have HP9 := Lib.hid (HP.out.below (below_drewW _ nq))
        go_wp2_with fail
        go_roundw
        case rel => exact ⟨i + 1, n2, F', v', S', last', by omega, by omega, by go_num, HNN, HP9⟩
        case measure => simp [intOf]; omega
      · rw [hm] at WI
        have WI2 := Lib.hid WI
        obtain ⟨k0, k1, k2⟩ := opbox8 XX.out
        clear WI
        have AB := Lib.hid (tickAB HD.out (by omega) (by omega) (by omega))
        go_wp2_with fail
        go_at_call 11
        refine (WI2.out _).mono ?_
        rintro e w2 ⟨rfl, rfl⟩
        go_wp2_with fail
        go_at_call 27
        refine AB.out.mono ?_
        rintro e w3 ⟨V1, rfl, hR3⟩
        clear AB k0 k1 k2
        go_wp2_with fail
        go_at_call 28
        refine hR3.out.mono ?_
        rintro e w5 ⟨V2, rfl, hnx, L, B1, B2, hL, o1, o2⟩
        have HLL : L.length < 1073741824 := by omega
        have WS := Lib.hid (words_same o1 o2 HLL)
        have HNX := Lib.hid hnx
        clear hR3 o1 o2 hnx
        go_wp2_with fail
        go_at_call 26
        refine WS.out.mono ?_
        rintro e w4 ⟨rfl, hb4⟩
        obtain ⟨Fx, vx, Sx, lx, hx⟩ := HNX.out
        have hnx : CNext w w.heap.size w4 b ((nw : Int) + 1) (2 * i) r (r + 1) := ⟨Fx, vx, Sx, lx, hx.below hb4⟩
        clear hx hb4 WS HNX
        obtain ⟨F', v', S', last', hp'⟩ := hnx
        have HP := Lib.hid (hp'.up (m' := 2 * (i + 1)) (by omega))
        clear hp'
        obtain ⟨n2, hn2⟩ : ∃ n2, n2 = nw + 1 := ⟨_, rfl⟩
        rw [show (nw : Int) + 1 = (n2 : Int) by omega] at HP
        have HNN := Lib.hid (show n2 ≤ i + 1 by have := HNW.out; omega)
        clear hn2
        have NN := Lib.hid (show ∀ q, Calls Tryd.prog 31 #[.pointer (some ⟨b, 0, none⟩)] (w4.drewN q) (fun e w' => e = .returned (.int .u64 n2) ∧ w' = w4.drewN q) from fun q => (clkNow (HP.out.below (below_drewW _ q)).q.at1).mono (fun e W' h => ⟨h.1, h.2.symm⟩))
        have LN := Lib.hid (show ∀ q, Calls Tryd.prog 32 #[.pointer (some ⟨b, 0, none⟩)] (w4.drewN q) (fun e w' => e = .returned (.int .i64 S'.length) ∧ w' = w4.drewN q) from fun q => (clkArmed (HP.out.below (below_drewW _ q)).q.at1).mono (fun e W' h => ⟨h.1, h.2.symm⟩))
        have cr := HP.out.p.c0
        have ct : w4.cell? ⟨r, 0, none⟩ = some (.int .u64 n2) := HP.out.p.top.cell 0 (by simp)
        obtain ⟨pr, ccr, hvr⟩ := ownsT_slice HP.out.p.row
        rw [hvr] at cr
        clear hvr
        obtain ⟨kk, hkk⟩ : ∃ kk, kk = S'.length := ⟨_, rfl⟩
        rw [← hkk] at cr LN
        have tkk : ((kk : Int) != (kk : Int)) = false := bne_self_eq_false (kk : Int)
        have tnn : ((n2 : Int) != (n2 : Int)) = false := bne_self_eq_false (n2 : Int)
        have hrW := HP.out.p.top.lt
        clear hkk
        go_wp2_with fail
        go_quiet (first | (go_at_call 31; exact Calls.quiet_of_same (NN.out _)) | (go_at_call 32; exact Calls.quiet_of_same (LN.out _)))
        have HP9 := Lib.hid (HP.out.below (below_drewW _ nq))
        go_wp2_with fail
        go_roundw
        case rel => exact ⟨i + 1, n2, F', v', S', last', by omega, by omega, by go_num, HNN, HP9⟩
        case measure => simp [intOf]; omega
      · have hdd : ∃ dd, dd = d % 7 ∧ dd ≠ 3 ∧ dd ≠ 4 ∧ dd ≠ 5 ∧ dd ≠ 6 := ⟨_, rfl, hm⟩
        obtain ⟨dd, hdd0, hd3, hd4, hd5, hd6⟩ := hdd
        rw [← hdd0] at WI
        have WI2 := Lib.hid WI
        have e3 : (dd == 3) = false := beq_eq_false_iff_ne.2 hd3
        have e4 : (dd == 4) = false := beq_eq_false_iff_ne.2 hd4
        have e5 : (dd == 5) = false := beq_eq_false_iff_ne.2 hd5
        have e6 : (dd == 6) = false := beq_eq_false_iff_ne.2 hd6
        have PA := Lib.hid (armA (HD.out.below (Below.refl _ _).drew) HG.out GB.out a u WA.out (by omega))
        have PB := Lib.hid (armB (HD.out.below (Below.refl _ _).drew) HG.out GB.out a u WA.out (by omega))
        have XD := Lib.hid XX.out.drew
        obtain ⟨k0, k1, k2⟩ := opbox8 XX.out
        clear WI hdd0 hm
        go_wp2_with fail
        go_at_call 11
        refine (WI2.out _).mono ?_
        rintro e w2 ⟨rfl, rfl⟩
        go_upto_region 10 with fail
        go_region_held3 (fun w' => w'.cell? ⟨X, 1, none⟩ = some (.int .u64 a) ∧ w'.cell? ⟨X, 2, none⟩ = some (.int .u64 u)) (go_keep)
          (first
            | (go_at_call 29; ((with_reducible refine PA.out.mono ?_); rintro e w3 ⟨E, rfl, ho3, hR⟩; obtain ⟨k0, k1, k2⟩ := opbox8 (XD.out.only ho3 NI.out)))
            | (go_at_call 30; ((with_reducible refine PB.out.mono ?_); rintro e w3 ⟨V, rfl, ho3, hP⟩; obtain ⟨k0, k1, k2⟩ := opbox8 (XD.out.only ho3 NI.out)))
            | (go_at_call 30; ((with_reducible refine hR.out.mono ?_); rintro e w5 ⟨V, rfl, ho4, hnx, hsm⟩; obtain ⟨k0, k1, k2⟩ := opbox8 (XD.out.only ho4 NI.out)))
            | (go_at_call 29; ((with_reducible refine hP.out.mono ?_); rintro e w5 ⟨E, rfl, ho4, hnx, hsm⟩; obtain ⟨k0, k1, k2⟩ := opbox8 (XD.out.only ho4 NI.out)))
            | (go_at_call 14; ((with_reducible refine hsm.mono ?_); rintro e w4 ⟨rfl, hb4⟩; have q1 : w4.cell? ⟨X, 1, none⟩ = some (.int .u64 a) := (hb4.cell (p := ⟨X, 1, none⟩) (World.block_lt_of_cell? _ _ k1)).trans k1; have q2 : w4.cell? ⟨X, 2, none⟩ = some (.int .u64 u) := (hb4.cell (p := ⟨X, 2, none⟩) (World.block_lt_of_cell? _ _ k2)).trans k2)))
        all_goals
          obtain ⟨Fx, vx, Sx, lx, hx⟩ := hnx
          have hnx : CNext w w.heap.size w4 b (nw : Int) (2 * i + 2) r (r + 1) := ⟨Fx, vx, Sx, lx, hx.below hb4⟩
          clear hx hb4 PA PB
          obtain ⟨F', v', S', last', hp'⟩ := hnx
          have HP := Lib.hid (hp'.up (m' := 2 * (i + 1)) (by omega))
          clear hp'
          obtain ⟨n2, hn2⟩ : ∃ n2, n2 = nw := ⟨_, rfl⟩
          rw [← hn2] at HP
          have HNN := Lib.hid (show n2 ≤ i + 1 by have := HNW.out; omega)
          clear hn2
          have NN := Lib.hid (show ∀ q, Calls Tryd.prog 31 #[.pointer (some ⟨b, 0, none⟩)] (w4.drewN q) (fun e w' => e = .returned (.int .u64 n2) ∧ w' = w4.drewN q) from fun q => (clkNow (HP.out.below (below_drewW _ q)).q.at1).mono (fun e W' h => ⟨h.1, h.2.symm⟩))
          have LN := Lib.hid (show ∀ q, Calls Tryd.prog 32 #[.pointer (some ⟨b, 0, none⟩)] (w4.drewN q) (fun e w' => e = .returned (.int .i64 S'.length) ∧ w' = w4.drewN q) from fun q => (clkArmed (HP.out.below (below_drewW _ q)).q.at1).mono (fun e W' h => ⟨h.1, h.2.symm⟩))
          have cr := HP.out.p.c0
          have ct : w4.cell? ⟨r, 0, none⟩ = some (.int .u64 n2) := HP.out.p.top.cell 0 (by simp)
          obtain ⟨pr, ccr, hvr⟩ := ownsT_slice HP.out.p.row
          rw [hvr] at cr
          clear hvr
          obtain ⟨kk, hkk⟩ : ∃ kk, kk = S'.length := ⟨_, rfl⟩
          rw [← hkk] at cr LN
          have tkk : ((kk : Int) != (kk : Int)) = false := bne_self_eq_false (kk : Int)
          have tnn : ((n2 : Int) != (n2 : Int)) = false := bne_self_eq_false (n2 : Int)
          have hrW := HP.out.p.top.lt
          clear hkk
          go_wp2_with fail
          go_quiet (first | (go_at_call 31; exact Calls.quiet_of_same (NN.out _)) | (go_at_call 32; exact Calls.quiet_of_same (LN.out _)))
          have HP9 := Lib.hid (HP.out.below (below_drewW _ nq))
          go_wp2_with fail
          go_roundw
          case rel => exact ⟨i + 1, n2, F', v', S', last', by omega, by omega, by go_num, HNN, HP9⟩
          case measure => simp [intOf]; omega
    · have hend : (¬ i < len) ∨ (i < len ∧ ¬ i < 120) := by omega
      have HB := Lib.hid hp.out.q.bel
      clear hlt hp
      rcases hend with hend | ⟨hend0, hend⟩
      all_goals
        go_wp2_with fail
        go_at_call 33
        refine (AW.out _).mono ?_
        rintro e w3 ⟨rfl, hb3⟩
        go_wp2_with fail
        go_ret
        exact ⟨rfl, HB.out.trans (hb3.mono HB.out.size)⟩
end Go.Proofs.YtobbmhboahognaaDoor
