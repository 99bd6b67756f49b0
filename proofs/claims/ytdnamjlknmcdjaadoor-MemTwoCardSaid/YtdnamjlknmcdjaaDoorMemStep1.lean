/- The statements' help do (layer 2) at the accesses: it answers true, and both memories are in one state behind it. The conditions: both lie there in one state, whose count is below an int's greatest; the library's variable errors.errorType holds the type error. -/
import Derived.Test.YtdnamjlknmcdjaaDoorMemStep0
namespace Go.Proofs.YtdnamjlknmcdjaaDoor
open Go.RowKit
set_option linter.unusedVariables false

theorem refDo4 {w : World} {b bw bh : Nat} {m : Cells} (h : RefMem w b bw bh m) (hl : m.ws.length < 2147483648) (hn0 : 0 ≤ m.n) (hn : m.n < 9223372036854775807) (at' : Nat) (old v : Int) (hv0 : 0 ≤ v) (hv : v ≤ 18446744073709551615)
    (ho0 : 0 ≤ old) (ho : old ≤ 18446744073709551615) (hh0 : 0 ≤ m.hs.getD at' 0) (hh : m.hs.getD at' 0 ≤ 18446744073709551615) (hi : at' < m.ws.length) (hw : widthAt m.ws at' ≠ 0) :
    Calls Tryd.prog 30 #[.pointer (some ⟨b, 0, none⟩), .int .i64 4, .int .u64 at', .int .u64 old, .int .u64 v] w fun e w' =>
      e = .returned (.tuple #[.int .u64 (m.hs.getD at' 0), .pointer none]) ∧ RefMem w' b bw bh { ws := m.ws, hs := m.hs.set at' (casVal (widthAt m.ws at') (m.hs.getD at' 0) old v), n := m.n + 1 } ∧ Only [b, bw, bh] w w' := by
  by_cases hc : m.hs.getD at' 0 = cut (widthAt m.ws at') old
  · rw [casVal, if_pos hc]; exact refDo4y h hl hn0 hn at' old v hv0 hv ho0 ho hh0 hh hi hw hc
  · rw [casVal, if_neg hc]; exact refDo4n h hl hn0 hn at' old v hv0 hv ho0 ho hh0 hh hi hw hc

set_option maxHeartbeats 8000000 in
set_option maxRecDepth 100000 in
theorem do_3g {W : World} {b bc r bw bh : Nat} {m : Cells} (HB : Both W b bc r bw bh m) (d a n k : Int) (ad : Nat) (old v : Int) (hn0 : 0 ≤ m.n) (hn : m.n < 9223372036854775807) (had : ad < 18446744073709551616) (o0 : 0 ≤ old) (o1 : old ≤ 18446744073709551615) (v0 : 0 ≤ v) (v1 : v ≤ 18446744073709551615) (hd : d % 9 = 3) (hw : widthAt m.ws ad ≠ 0) :
    Calls Tryd.prog 10 #[.pointer (some ⟨b, 0, none⟩), .pointer (some ⟨r, 0, none⟩), .agg #[.int .i64 d, .int .i64 a, .int .i64 n, .int .i64 k, .int .u64 ad, .int .u64 old, .int .u64 v]] W (StepPost b bc r bw bh m W) := by
  have g := HB.g
  have B0 : Both (W.alloc (.cells #[.int .i64 d, .int .i64 a, .int .i64 n, .int .i64 k, .int .u64 ad, .int .u64 old, .int .u64 v] 36)) b bc r bw bh m := HB.below ((Below.refl _ _).alloc (Nat.le_refl _) _)
  have XB := Row.new W [.int .i64 d, .int .i64 a, .int .i64 n, .int .i64 k, .int .u64 ad, .int .u64 old, .int .u64 v] 36
  have o0' : Only (allB b bc r bw bh) W (W.alloc (.cells #[.int .i64 d, .int .i64 a, .int .i64 n, .int .i64 k, .int .u64 ad, .int .u64 old, .int .u64 v] 36)) := (Only.refl _ _).alloc _
  have nin := HB.notIn (Nat.le_refl W.heap.size)
  have WI := Lib.hid (fun w => within_any d 9 (by omega) (by omega) w)
  rw [hd] at WI
  have P0 := memLoad B0.p g hn0 hn ad hw
  unfold AccPost at P0
  have nin2 : W.heap.size ∉ [b, bc] := notIn2 nin
  have gg : Good { ws := m.ws, hs := m.hs.set ad (m.hs.getD ad 0), n := m.n + 1 } := by
    obtain ⟨y0, y1, yc⟩ : 0 ≤ m.hs.getD ad 0 ∧ m.hs.getD ad 0 ≤ 18446744073709551615 ∧ cut (widthAt m.ws ad) (m.hs.getD ad 0) = m.hs.getD ad 0 := ⟨g.h0 ad, g.h1 ad, g.hc ad⟩
    exact g.acc (Good.inLen hw) y0 y1 yc
  have RD : Hid (∀ w, RefMem w r bw bh m → Calls Tryd.prog 30 #[.pointer (some ⟨r, 0, none⟩), .int .i64 0, .int .u64 ad, .int .u64 old, .int .u64 v] w fun e w' =>
      e = .returned (.tuple #[.int .u64 (m.hs.getD ad 0), .pointer none]) ∧ RefMem w' r bw bh { ws := m.ws, hs := m.hs.set ad (m.hs.getD ad 0), n := m.n + 1 } ∧ Only [r, bw, bh] w w') :=
    fun w h => refDo0 h g.small hn0 hn ad old v v0 v1 o0 o1 (g.h0 ad) (g.h1 ad) (Good.inLen hw) hw
  obtain ⟨m1, em⟩ : ∃ m1, m1 = ({ ws := m.ws, hs := m.hs.set ad (m.hs.getD ad 0), n := m.n + 1 } : Cells) := ⟨_, rfl⟩
  have lm : m1.ws = m.ws := by rw [em]
  have nm : m1.n = m.n + 1 := by rw [em]
  rw [← em] at P0 RD gg
  obtain ⟨x, hx⟩ : ∃ x, x = m.hs.getD ad 0 := ⟨_, rfl⟩
  rw [← hx] at RD
  rw [← hx] at P0
  have P1 := Lib.hid P0
  have fin : Hid (∀ w1 w2, MemAt w1 b bc m1 (countNZ m.ws) → Only [b, bc] (W.alloc (.cells #[.int .i64 d, .int .i64 a, .int .i64 n, .int .i64 k, .int .u64 ad, .int .u64 old, .int .u64 v] 36)) w1 → ErrType w1 → RefMem w2 r bw bh m1 → Only [r, bw, bh] w1 w2 → StepPost b bc r bw bh m W (.returned (.bool true)) w2) := fun w1 w2 p1 ho1 e1 q2 ho2 => by
    obtain ⟨⟨n1, n2, n3⟩, ⟨n4, n5, n6⟩, n7, n8, n9, n10, n11⟩ := HB.ne
    rw [← lm] at p1
    exact ⟨rfl, m1, by rw [lm], by omega, by omega, ⟨p1.only ho2 (by simp; exact ⟨n1, n2, n3⟩) (by simp; exact ⟨n4, n5, n6⟩), q2, gg, errType_only ho2 (by simp; exact ⟨n9, n10, n11⟩) e1, HB.ne⟩,
      (o0'.trans (ho1.mono (by simp))).trans (ho2.mono (by simp))⟩
  have BB := Lib.hid B0
  have XX := Lib.hid XB
  have NI := Lib.hid nin2
  obtain ⟨x0, x1, x2, x3, x4, x5, x6⟩ := opbox XB
  have tx : (x == x) = true := beq_self_eq_true x
  clear nin nin2 B0 XB o0' HB hx P0 em lm nm gg hw hd g
  go_enter Tryd.func10, Tryd.ntmps10
  go_wp2_with (go_at_call 7; refine (WI.out _).mono ?_; rintro e w' ⟨rfl, rfl⟩)
  go_at_call 21
  refine P1.out.mono ?_
  rintro e w1 ⟨rfl, p1, ho1⟩
  obtain ⟨q1, e1⟩ := BB.out.ofP ho1
  have R1 := Lib.hid (RD.out w1 q1)
  obtain ⟨k0, k1, k2, k3, k4, k5, k6⟩ := opbox (XX.out.only ho1 NI.out)
  have Q := Lib.hid (And.intro p1 (And.intro ho1 e1))
  clear p1 ho1 q1 e1 x0 x1 x2 x3 x4 x5 x6
  go_wp2_with fail
  go_at_call 30
  refine R1.out.mono ?_
  rintro e w2 ⟨rfl, q2, ho2⟩
  have FIN := Lib.hid (fin.out w1 w2 Q.out.1 Q.out.2.1 Q.out.2.2 q2 ho2)
  clear q2 ho2 k0 k1 k2 k3 k4 k5 k6
  go_wp2_with fail
  go_at_call 13
  refine (same_nil _).mono ?_
  rintro e w' ⟨rfl, rfl⟩
  go_wp2_with fail
  go_ret
  exact FIN.out

set_option maxHeartbeats 8000000 in
set_option maxRecDepth 100000 in
theorem do_3b {W : World} {b bc r bw bh : Nat} {m : Cells} (HB : Both W b bc r bw bh m) (d a n k : Int) (ad : Nat) (old v : Int) (hn0 : 0 ≤ m.n) (hn : m.n < 9223372036854775807) (had : ad < 18446744073709551616) (o0 : 0 ≤ old) (o1 : old ≤ 18446744073709551615) (v0 : 0 ≤ v) (v1 : v ≤ 18446744073709551615) (hd : d % 9 = 3) (hw : widthAt m.ws ad = 0) :
    Calls Tryd.prog 10 #[.pointer (some ⟨b, 0, none⟩), .pointer (some ⟨r, 0, none⟩), .agg #[.int .i64 d, .int .i64 a, .int .i64 n, .int .i64 k, .int .u64 ad, .int .u64 old, .int .u64 v]] W (StepPost b bc r bw bh m W) := by
  have g := HB.g
  have B0 : Both (W.alloc (.cells #[.int .i64 d, .int .i64 a, .int .i64 n, .int .i64 k, .int .u64 ad, .int .u64 old, .int .u64 v] 36)) b bc r bw bh m := HB.below ((Below.refl _ _).alloc (Nat.le_refl _) _)
  have XB := Row.new W [.int .i64 d, .int .i64 a, .int .i64 n, .int .i64 k, .int .u64 ad, .int .u64 old, .int .u64 v] 36
  have o0' : Only (allB b bc r bw bh) W (W.alloc (.cells #[.int .i64 d, .int .i64 a, .int .i64 n, .int .i64 k, .int .u64 ad, .int .u64 old, .int .u64 v] 36)) := (Only.refl _ _).alloc _
  have nin := HB.notIn (Nat.le_refl W.heap.size)
  have WI := Lib.hid (fun w => within_any d 9 (by omega) (by omega) w)
  rw [hd] at WI
  have P0 := memLoad_bad B0.p g ad had hw
  unfold AccBad at P0
  have B1 : Both ((W.alloc (.cells #[.int .i64 d, .int .i64 a, .int .i64 n, .int .i64 k, .int .u64 ad, .int .u64 old, .int .u64 v] 36)).alloc (.cells #[.string memS, .int .i64 (badPlace ad), .iface 42 (.int .i64 2)] 76)) b bc r bw bh m := B0.below ((Below.refl _ _).alloc (Nat.le_refl _) _)
  have R0 := refDoBad B1.q g.small 0 ad had old v hw
  unfold DoBadPost at R0
  have SA := Lib.hid (same_new memS (badPlace ad) 2 (by omega) (by omega) (W.alloc (.cells #[.int .i64 d, .int .i64 a, .int .i64 n, .int .i64 k, .int .u64 ad, .int .u64 old, .int .u64 v] 36)) B0.e)
  obtain ⟨x, hx⟩ : ∃ x, x = badPlace ad := ⟨_, rfl⟩
  rw [← hx] at P0 R0 SA B1
  simp only [World.size_alloc] at P0 R0 SA
  have RD := Lib.hid R0
  have P1 := Lib.hid P0
  have fin : Hid (∀ w3, Below (W.heap.size + 1) (W.alloc (.cells #[.int .i64 d, .int .i64 a, .int .i64 n, .int .i64 k, .int .u64 ad, .int .u64 old, .int .u64 v] 36)) w3 → StepPost b bc r bw bh m W (.returned (.bool true)) w3) := fun w3 hb3 => by
    have hb3 : Below (W.alloc (.cells #[.int .i64 d, .int .i64 a, .int .i64 n, .int .i64 k, .int .u64 ad, .int .u64 old, .int .u64 v] 36)).heap.size (W.alloc (.cells #[.int .i64 d, .int .i64 a, .int .i64 n, .int .i64 k, .int .u64 ad, .int .u64 old, .int .u64 v] 36)) w3 := by rw [World.size_alloc]; exact hb3
    exact ⟨rfl, m, rfl, by omega, by omega, B0.below hb3, o0'.trans (Only.of_below hb3)⟩
  have XX := Lib.hid XB
  obtain ⟨x0, x1, x2, x3, x4, x5, x6⟩ := opbox XB
  clear nin B0 XB o0' HB hx P0 R0 hw B1 hd g
  go_enter Tryd.func10, Tryd.ntmps10
  go_wp2_with (go_at_call 7; refine (WI.out _).mono ?_; rintro e w' ⟨rfl, rfl⟩)
  go_at_call 21
  refine P1.out.mono ?_
  rintro e w1 ⟨rfl, rfl⟩
  go_wp2_with fail
  go_at_call 30
  refine RD.out.mono ?_
  rintro e w2 ⟨rfl, rfl⟩
  go_wp2_with fail
  go_at_call 13
  refine SA.out.mono ?_
  rintro e w3 ⟨rfl, hb3⟩
  have FIN := Lib.hid (fin.out w3 hb3)
  clear hb3
  go_wp2_with fail
  go_ret
  exact FIN.out

set_option maxHeartbeats 8000000 in
set_option maxRecDepth 100000 in
theorem do_4g {W : World} {b bc r bw bh : Nat} {m : Cells} (HB : Both W b bc r bw bh m) (d a n k : Int) (ad : Nat) (old v : Int) (hn0 : 0 ≤ m.n) (hn : m.n < 9223372036854775807) (had : ad < 18446744073709551616) (o0 : 0 ≤ old) (o1 : old ≤ 18446744073709551615) (v0 : 0 ≤ v) (v1 : v ≤ 18446744073709551615) (hd : d % 9 = 4) (hw : widthAt m.ws ad ≠ 0) :
    Calls Tryd.prog 10 #[.pointer (some ⟨b, 0, none⟩), .pointer (some ⟨r, 0, none⟩), .agg #[.int .i64 d, .int .i64 a, .int .i64 n, .int .i64 k, .int .u64 ad, .int .u64 old, .int .u64 v]] W (StepPost b bc r bw bh m W) := by
  have g := HB.g
  have B0 : Both (W.alloc (.cells #[.int .i64 d, .int .i64 a, .int .i64 n, .int .i64 k, .int .u64 ad, .int .u64 old, .int .u64 v] 36)) b bc r bw bh m := HB.below ((Below.refl _ _).alloc (Nat.le_refl _) _)
  have XB := Row.new W [.int .i64 d, .int .i64 a, .int .i64 n, .int .i64 k, .int .u64 ad, .int .u64 old, .int .u64 v] 36
  have o0' : Only (allB b bc r bw bh) W (W.alloc (.cells #[.int .i64 d, .int .i64 a, .int .i64 n, .int .i64 k, .int .u64 ad, .int .u64 old, .int .u64 v] 36)) := (Only.refl _ _).alloc _
  have nin := HB.notIn (Nat.le_refl W.heap.size)
  have WI := Lib.hid (fun w => within_any d 9 (by omega) (by omega) w)
  rw [hd] at WI
  have P0 := memStore B0.p g hn0 hn ad v v0 v1 hw
  unfold StorePost at P0
  have nin2 : W.heap.size ∉ [b, bc] := notIn2 nin
  have gg : Good { ws := m.ws, hs := m.hs.set ad (cut (widthAt m.ws ad) v), n := m.n + 1 } := by
    obtain ⟨y0, y1, yc⟩ : 0 ≤ cut (widthAt m.ws ad) v ∧ cut (widthAt m.ws ad) v ≤ 18446744073709551615 ∧ cut (widthAt m.ws ad) (cut (widthAt m.ws ad) v) = cut (widthAt m.ws ad) v := cut_good _ v v0 v1
    exact g.acc (Good.inLen hw) y0 y1 yc
  have RD : Hid (∀ w, RefMem w r bw bh m → Calls Tryd.prog 30 #[.pointer (some ⟨r, 0, none⟩), .int .i64 1, .int .u64 ad, .int .u64 old, .int .u64 v] w fun e w' =>
      e = .returned (.tuple #[.int .u64 (m.hs.getD ad 0), .pointer none]) ∧ RefMem w' r bw bh { ws := m.ws, hs := m.hs.set ad (cut (widthAt m.ws ad) v), n := m.n + 1 } ∧ Only [r, bw, bh] w w') :=
    fun w h => refDo1 h g.small hn0 hn ad old v v0 v1 o0 o1 (g.h0 ad) (g.h1 ad) (Good.inLen hw) hw
  obtain ⟨m1, em⟩ : ∃ m1, m1 = ({ ws := m.ws, hs := m.hs.set ad (cut (widthAt m.ws ad) v), n := m.n + 1 } : Cells) := ⟨_, rfl⟩
  have lm : m1.ws = m.ws := by rw [em]
  have nm : m1.n = m.n + 1 := by rw [em]
  rw [← em] at P0 RD gg
  obtain ⟨x, hx⟩ : ∃ x, x = m.hs.getD ad 0 := ⟨_, rfl⟩
  rw [← hx] at RD
  skip
  have P1 := Lib.hid P0
  have fin : Hid (∀ w1 w2, MemAt w1 b bc m1 (countNZ m.ws) → Only [b, bc] (W.alloc (.cells #[.int .i64 d, .int .i64 a, .int .i64 n, .int .i64 k, .int .u64 ad, .int .u64 old, .int .u64 v] 36)) w1 → ErrType w1 → RefMem w2 r bw bh m1 → Only [r, bw, bh] w1 w2 → StepPost b bc r bw bh m W (.returned (.bool true)) w2) := fun w1 w2 p1 ho1 e1 q2 ho2 => by
    obtain ⟨⟨n1, n2, n3⟩, ⟨n4, n5, n6⟩, n7, n8, n9, n10, n11⟩ := HB.ne
    rw [← lm] at p1
    exact ⟨rfl, m1, by rw [lm], by omega, by omega, ⟨p1.only ho2 (by simp; exact ⟨n1, n2, n3⟩) (by simp; exact ⟨n4, n5, n6⟩), q2, gg, errType_only ho2 (by simp; exact ⟨n9, n10, n11⟩) e1, HB.ne⟩,
      (o0'.trans (ho1.mono (by simp))).trans (ho2.mono (by simp))⟩
  have BB := Lib.hid B0
  have XX := Lib.hid XB
  have NI := Lib.hid nin2
  obtain ⟨x0, x1, x2, x3, x4, x5, x6⟩ := opbox XB
  have tx : (x == x) = true := beq_self_eq_true x
  clear nin nin2 B0 XB o0' HB hx P0 em lm nm gg hw hd g
  by_cases hx0 : x = 0
  · subst hx0
    go_enter Tryd.func10, Tryd.ntmps10
    go_wp2_with (go_at_call 7; refine (WI.out _).mono ?_; rintro e w' ⟨rfl, rfl⟩)
    go_at_call 22
    refine P1.out.mono ?_
    rintro e w1 ⟨rfl, p1, ho1⟩
    obtain ⟨q1, e1⟩ := BB.out.ofP ho1
    have R1 := Lib.hid (RD.out w1 q1)
    obtain ⟨k0, k1, k2, k3, k4, k5, k6⟩ := opbox (XX.out.only ho1 NI.out)
    have Q := Lib.hid (And.intro p1 (And.intro ho1 e1))
    clear p1 ho1 q1 e1 x0 x1 x2 x3 x4 x5 x6
    go_wp2_with fail
    go_at_call 30
    refine R1.out.mono ?_
    rintro e w2 ⟨rfl, q2, ho2⟩
    have FIN := Lib.hid (fin.out w1 w2 Q.out.1 Q.out.2.1 Q.out.2.2 q2 ho2)
    clear q2 ho2 k0 k1 k2 k3 k4 k5 k6
    go_wp2_with fail
    go_at_call 13
    refine (same_nil _).mono ?_
    rintro e w' ⟨rfl, rfl⟩
    go_wp2_with fail
    go_ret
    exact FIN.out
  · have t0 : ((0 : Int) == x) = false := beq_eq_false_iff_ne.2 (Ne.symm hx0)
    clear hx0
    go_enter Tryd.func10, Tryd.ntmps10
    go_wp2_with (go_at_call 7; refine (WI.out _).mono ?_; rintro e w' ⟨rfl, rfl⟩)
    go_at_call 22
    refine P1.out.mono ?_
    rintro e w1 ⟨rfl, p1, ho1⟩
    obtain ⟨q1, e1⟩ := BB.out.ofP ho1
    have R1 := Lib.hid (RD.out w1 q1)
    obtain ⟨k0, k1, k2, k3, k4, k5, k6⟩ := opbox (XX.out.only ho1 NI.out)
    have Q := Lib.hid (And.intro p1 (And.intro ho1 e1))
    clear p1 ho1 q1 e1 x0 x1 x2 x3 x4 x5 x6
    go_wp2_with fail
    go_at_call 30
    refine R1.out.mono ?_
    rintro e w2 ⟨rfl, q2, ho2⟩
    have FIN := Lib.hid (fin.out w1 w2 Q.out.1 Q.out.2.1 Q.out.2.2 q2 ho2)
    clear q2 ho2 k0 k1 k2 k3 k4 k5 k6
    go_wp2_with fail
    go_at_call 13
    refine (same_nil _).mono ?_
    rintro e w' ⟨rfl, rfl⟩
    go_wp2_with fail
    go_ret
    exact FIN.out

set_option maxHeartbeats 8000000 in
set_option maxRecDepth 100000 in
theorem do_4b {W : World} {b bc r bw bh : Nat} {m : Cells} (HB : Both W b bc r bw bh m) (d a n k : Int) (ad : Nat) (old v : Int) (hn0 : 0 ≤ m.n) (hn : m.n < 9223372036854775807) (had : ad < 18446744073709551616) (o0 : 0 ≤ old) (o1 : old ≤ 18446744073709551615) (v0 : 0 ≤ v) (v1 : v ≤ 18446744073709551615) (hd : d % 9 = 4) (hw : widthAt m.ws ad = 0) :
    Calls Tryd.prog 10 #[.pointer (some ⟨b, 0, none⟩), .pointer (some ⟨r, 0, none⟩), .agg #[.int .i64 d, .int .i64 a, .int .i64 n, .int .i64 k, .int .u64 ad, .int .u64 old, .int .u64 v]] W (StepPost b bc r bw bh m W) := by
  have g := HB.g
  have B0 : Both (W.alloc (.cells #[.int .i64 d, .int .i64 a, .int .i64 n, .int .i64 k, .int .u64 ad, .int .u64 old, .int .u64 v] 36)) b bc r bw bh m := HB.below ((Below.refl _ _).alloc (Nat.le_refl _) _)
  have XB := Row.new W [.int .i64 d, .int .i64 a, .int .i64 n, .int .i64 k, .int .u64 ad, .int .u64 old, .int .u64 v] 36
  have o0' : Only (allB b bc r bw bh) W (W.alloc (.cells #[.int .i64 d, .int .i64 a, .int .i64 n, .int .i64 k, .int .u64 ad, .int .u64 old, .int .u64 v] 36)) := (Only.refl _ _).alloc _
  have nin := HB.notIn (Nat.le_refl W.heap.size)
  have WI := Lib.hid (fun w => within_any d 9 (by omega) (by omega) w)
  rw [hd] at WI
  have P0 := memStore_bad B0.p g ad had v hw
  unfold FaultPost at P0
  have B1 : Both ((W.alloc (.cells #[.int .i64 d, .int .i64 a, .int .i64 n, .int .i64 k, .int .u64 ad, .int .u64 old, .int .u64 v] 36)).alloc (.cells #[.string memS, .int .i64 (badPlace ad), .iface 42 (.int .i64 2)] 76)) b bc r bw bh m := B0.below ((Below.refl _ _).alloc (Nat.le_refl _) _)
  have R0 := refDoBad B1.q g.small 1 ad had old v hw
  unfold DoBadPost at R0
  have SA := Lib.hid (same_new memS (badPlace ad) 2 (by omega) (by omega) (W.alloc (.cells #[.int .i64 d, .int .i64 a, .int .i64 n, .int .i64 k, .int .u64 ad, .int .u64 old, .int .u64 v] 36)) B0.e)
  obtain ⟨x, hx⟩ : ∃ x, x = badPlace ad := ⟨_, rfl⟩
  rw [← hx] at P0 R0 SA B1
  simp only [World.size_alloc] at P0 R0 SA
  have RD := Lib.hid R0
  have P1 := Lib.hid P0
  have fin : Hid (∀ w3, Below (W.heap.size + 1) (W.alloc (.cells #[.int .i64 d, .int .i64 a, .int .i64 n, .int .i64 k, .int .u64 ad, .int .u64 old, .int .u64 v] 36)) w3 → StepPost b bc r bw bh m W (.returned (.bool true)) w3) := fun w3 hb3 => by
    have hb3 : Below (W.alloc (.cells #[.int .i64 d, .int .i64 a, .int .i64 n, .int .i64 k, .int .u64 ad, .int .u64 old, .int .u64 v] 36)).heap.size (W.alloc (.cells #[.int .i64 d, .int .i64 a, .int .i64 n, .int .i64 k, .int .u64 ad, .int .u64 old, .int .u64 v] 36)) w3 := by rw [World.size_alloc]; exact hb3
    exact ⟨rfl, m, rfl, by omega, by omega, B0.below hb3, o0'.trans (Only.of_below hb3)⟩
  have XX := Lib.hid XB
  obtain ⟨x0, x1, x2, x3, x4, x5, x6⟩ := opbox XB
  clear nin B0 XB o0' HB hx P0 R0 hw B1 hd g
  go_enter Tryd.func10, Tryd.ntmps10
  go_wp2_with (go_at_call 7; refine (WI.out _).mono ?_; rintro e w' ⟨rfl, rfl⟩)
  go_at_call 22
  refine P1.out.mono ?_
  rintro e w1 ⟨rfl, rfl⟩
  go_wp2_with fail
  go_at_call 30
  refine RD.out.mono ?_
  rintro e w2 ⟨rfl, rfl⟩
  go_wp2_with fail
  go_at_call 13
  refine SA.out.mono ?_
  rintro e w3 ⟨rfl, hb3⟩
  have FIN := Lib.hid (fin.out w3 hb3)
  clear hb3
  go_wp2_with fail
  go_ret
  exact FIN.out

set_option maxHeartbeats 8000000 in
set_option maxRecDepth 100000 in
theorem do_5g {W : World} {b bc r bw bh : Nat} {m : Cells} (HB : Both W b bc r bw bh m) (d a n k : Int) (ad : Nat) (old v : Int) (hn0 : 0 ≤ m.n) (hn : m.n < 9223372036854775807) (had : ad < 18446744073709551616) (o0 : 0 ≤ old) (o1 : old ≤ 18446744073709551615) (v0 : 0 ≤ v) (v1 : v ≤ 18446744073709551615) (hd : d % 9 = 5) (hw : widthAt m.ws ad ≠ 0) :
    Calls Tryd.prog 10 #[.pointer (some ⟨b, 0, none⟩), .pointer (some ⟨r, 0, none⟩), .agg #[.int .i64 d, .int .i64 a, .int .i64 n, .int .i64 k, .int .u64 ad, .int .u64 old, .int .u64 v]] W (StepPost b bc r bw bh m W) := by
  have g := HB.g
  have B0 : Both (W.alloc (.cells #[.int .i64 d, .int .i64 a, .int .i64 n, .int .i64 k, .int .u64 ad, .int .u64 old, .int .u64 v] 36)) b bc r bw bh m := HB.below ((Below.refl _ _).alloc (Nat.le_refl _) _)
  have XB := Row.new W [.int .i64 d, .int .i64 a, .int .i64 n, .int .i64 k, .int .u64 ad, .int .u64 old, .int .u64 v] 36
  have o0' : Only (allB b bc r bw bh) W (W.alloc (.cells #[.int .i64 d, .int .i64 a, .int .i64 n, .int .i64 k, .int .u64 ad, .int .u64 old, .int .u64 v] 36)) := (Only.refl _ _).alloc _
  have nin := HB.notIn (Nat.le_refl W.heap.size)
  have WI := Lib.hid (fun w => within_any d 9 (by omega) (by omega) w)
  rw [hd] at WI
  have P0 := memSwap B0.p g hn0 hn ad v v0 v1 hw
  unfold AccPost at P0
  have nin2 : W.heap.size ∉ [b, bc] := notIn2 nin
  have gg : Good { ws := m.ws, hs := m.hs.set ad (cut (widthAt m.ws ad) v), n := m.n + 1 } := by
    obtain ⟨y0, y1, yc⟩ : 0 ≤ cut (widthAt m.ws ad) v ∧ cut (widthAt m.ws ad) v ≤ 18446744073709551615 ∧ cut (widthAt m.ws ad) (cut (widthAt m.ws ad) v) = cut (widthAt m.ws ad) v := cut_good _ v v0 v1
    exact g.acc (Good.inLen hw) y0 y1 yc
  have RD : Hid (∀ w, RefMem w r bw bh m → Calls Tryd.prog 30 #[.pointer (some ⟨r, 0, none⟩), .int .i64 2, .int .u64 ad, .int .u64 old, .int .u64 v] w fun e w' =>
      e = .returned (.tuple #[.int .u64 (m.hs.getD ad 0), .pointer none]) ∧ RefMem w' r bw bh { ws := m.ws, hs := m.hs.set ad (cut (widthAt m.ws ad) v), n := m.n + 1 } ∧ Only [r, bw, bh] w w') :=
    fun w h => refDo2 h g.small hn0 hn ad old v v0 v1 o0 o1 (g.h0 ad) (g.h1 ad) (Good.inLen hw) hw
  obtain ⟨m1, em⟩ : ∃ m1, m1 = ({ ws := m.ws, hs := m.hs.set ad (cut (widthAt m.ws ad) v), n := m.n + 1 } : Cells) := ⟨_, rfl⟩
  have lm : m1.ws = m.ws := by rw [em]
  have nm : m1.n = m.n + 1 := by rw [em]
  rw [← em] at P0 RD gg
  obtain ⟨x, hx⟩ : ∃ x, x = m.hs.getD ad 0 := ⟨_, rfl⟩
  rw [← hx] at RD
  rw [← hx] at P0
  have P1 := Lib.hid P0
  have fin : Hid (∀ w1 w2, MemAt w1 b bc m1 (countNZ m.ws) → Only [b, bc] (W.alloc (.cells #[.int .i64 d, .int .i64 a, .int .i64 n, .int .i64 k, .int .u64 ad, .int .u64 old, .int .u64 v] 36)) w1 → ErrType w1 → RefMem w2 r bw bh m1 → Only [r, bw, bh] w1 w2 → StepPost b bc r bw bh m W (.returned (.bool true)) w2) := fun w1 w2 p1 ho1 e1 q2 ho2 => by
    obtain ⟨⟨n1, n2, n3⟩, ⟨n4, n5, n6⟩, n7, n8, n9, n10, n11⟩ := HB.ne
    rw [← lm] at p1
    exact ⟨rfl, m1, by rw [lm], by omega, by omega, ⟨p1.only ho2 (by simp; exact ⟨n1, n2, n3⟩) (by simp; exact ⟨n4, n5, n6⟩), q2, gg, errType_only ho2 (by simp; exact ⟨n9, n10, n11⟩) e1, HB.ne⟩,
      (o0'.trans (ho1.mono (by simp))).trans (ho2.mono (by simp))⟩
  have BB := Lib.hid B0
  have XX := Lib.hid XB
  have NI := Lib.hid nin2
  obtain ⟨x0, x1, x2, x3, x4, x5, x6⟩ := opbox XB
  have tx : (x == x) = true := beq_self_eq_true x
  clear nin nin2 B0 XB o0' HB hx P0 em lm nm gg hw hd g
  go_enter Tryd.func10, Tryd.ntmps10
  go_wp2_with (go_at_call 7; refine (WI.out _).mono ?_; rintro e w' ⟨rfl, rfl⟩)
  go_at_call 27
  refine P1.out.mono ?_
  rintro e w1 ⟨rfl, p1, ho1⟩
  obtain ⟨q1, e1⟩ := BB.out.ofP ho1
  have R1 := Lib.hid (RD.out w1 q1)
  obtain ⟨k0, k1, k2, k3, k4, k5, k6⟩ := opbox (XX.out.only ho1 NI.out)
  have Q := Lib.hid (And.intro p1 (And.intro ho1 e1))
  clear p1 ho1 q1 e1 x0 x1 x2 x3 x4 x5 x6
  go_wp2_with fail
  go_at_call 30
  refine R1.out.mono ?_
  rintro e w2 ⟨rfl, q2, ho2⟩
  have FIN := Lib.hid (fin.out w1 w2 Q.out.1 Q.out.2.1 Q.out.2.2 q2 ho2)
  clear q2 ho2 k0 k1 k2 k3 k4 k5 k6
  go_wp2_with fail
  go_at_call 13
  refine (same_nil _).mono ?_
  rintro e w' ⟨rfl, rfl⟩
  go_wp2_with fail
  go_ret
  exact FIN.out

set_option maxHeartbeats 8000000 in
set_option maxRecDepth 100000 in
theorem do_5b {W : World} {b bc r bw bh : Nat} {m : Cells} (HB : Both W b bc r bw bh m) (d a n k : Int) (ad : Nat) (old v : Int) (hn0 : 0 ≤ m.n) (hn : m.n < 9223372036854775807) (had : ad < 18446744073709551616) (o0 : 0 ≤ old) (o1 : old ≤ 18446744073709551615) (v0 : 0 ≤ v) (v1 : v ≤ 18446744073709551615) (hd : d % 9 = 5) (hw : widthAt m.ws ad = 0) :
    Calls Tryd.prog 10 #[.pointer (some ⟨b, 0, none⟩), .pointer (some ⟨r, 0, none⟩), .agg #[.int .i64 d, .int .i64 a, .int .i64 n, .int .i64 k, .int .u64 ad, .int .u64 old, .int .u64 v]] W (StepPost b bc r bw bh m W) := by
  have g := HB.g
  have B0 : Both (W.alloc (.cells #[.int .i64 d, .int .i64 a, .int .i64 n, .int .i64 k, .int .u64 ad, .int .u64 old, .int .u64 v] 36)) b bc r bw bh m := HB.below ((Below.refl _ _).alloc (Nat.le_refl _) _)
  have XB := Row.new W [.int .i64 d, .int .i64 a, .int .i64 n, .int .i64 k, .int .u64 ad, .int .u64 old, .int .u64 v] 36
  have o0' : Only (allB b bc r bw bh) W (W.alloc (.cells #[.int .i64 d, .int .i64 a, .int .i64 n, .int .i64 k, .int .u64 ad, .int .u64 old, .int .u64 v] 36)) := (Only.refl _ _).alloc _
  have nin := HB.notIn (Nat.le_refl W.heap.size)
  have WI := Lib.hid (fun w => within_any d 9 (by omega) (by omega) w)
  rw [hd] at WI
  have P0 := memSwap_bad B0.p g ad had v hw
  unfold AccBad at P0
  have B1 : Both ((W.alloc (.cells #[.int .i64 d, .int .i64 a, .int .i64 n, .int .i64 k, .int .u64 ad, .int .u64 old, .int .u64 v] 36)).alloc (.cells #[.string memS, .int .i64 (badPlace ad), .iface 42 (.int .i64 2)] 76)) b bc r bw bh m := B0.below ((Below.refl _ _).alloc (Nat.le_refl _) _)
  have R0 := refDoBad B1.q g.small 2 ad had old v hw
  unfold DoBadPost at R0
  have SA := Lib.hid (same_new memS (badPlace ad) 2 (by omega) (by omega) (W.alloc (.cells #[.int .i64 d, .int .i64 a, .int .i64 n, .int .i64 k, .int .u64 ad, .int .u64 old, .int .u64 v] 36)) B0.e)
  obtain ⟨x, hx⟩ : ∃ x, x = badPlace ad := ⟨_, rfl⟩
  rw [← hx] at P0 R0 SA B1
  simp only [World.size_alloc] at P0 R0 SA
  have RD := Lib.hid R0
  have P1 := Lib.hid P0
  have fin : Hid (∀ w3, Below (W.heap.size + 1) (W.alloc (.cells #[.int .i64 d, .int .i64 a, .int .i64 n, .int .i64 k, .int .u64 ad, .int .u64 old, .int .u64 v] 36)) w3 → StepPost b bc r bw bh m W (.returned (.bool true)) w3) := fun w3 hb3 => by
    have hb3 : Below (W.alloc (.cells #[.int .i64 d, .int .i64 a, .int .i64 n, .int .i64 k, .int .u64 ad, .int .u64 old, .int .u64 v] 36)).heap.size (W.alloc (.cells #[.int .i64 d, .int .i64 a, .int .i64 n, .int .i64 k, .int .u64 ad, .int .u64 old, .int .u64 v] 36)) w3 := by rw [World.size_alloc]; exact hb3
    exact ⟨rfl, m, rfl, by omega, by omega, B0.below hb3, o0'.trans (Only.of_below hb3)⟩
  have XX := Lib.hid XB
  obtain ⟨x0, x1, x2, x3, x4, x5, x6⟩ := opbox XB
  clear nin B0 XB o0' HB hx P0 R0 hw B1 hd g
  go_enter Tryd.func10, Tryd.ntmps10
  go_wp2_with (go_at_call 7; refine (WI.out _).mono ?_; rintro e w' ⟨rfl, rfl⟩)
  go_at_call 27
  refine P1.out.mono ?_
  rintro e w1 ⟨rfl, rfl⟩
  go_wp2_with fail
  go_at_call 30
  refine RD.out.mono ?_
  rintro e w2 ⟨rfl, rfl⟩
  go_wp2_with fail
  go_at_call 13
  refine SA.out.mono ?_
  rintro e w3 ⟨rfl, hb3⟩
  have FIN := Lib.hid (fin.out w3 hb3)
  clear hb3
  go_wp2_with fail
  go_ret
  exact FIN.out

set_option maxHeartbeats 8000000 in
set_option maxRecDepth 100000 in
theorem do_6g {W : World} {b bc r bw bh : Nat} {m : Cells} (HB : Both W b bc r bw bh m) (d a n k : Int) (ad : Nat) (old v : Int) (hn0 : 0 ≤ m.n) (hn : m.n < 9223372036854775807) (had : ad < 18446744073709551616) (o0 : 0 ≤ old) (o1 : old ≤ 18446744073709551615) (v0 : 0 ≤ v) (v1 : v ≤ 18446744073709551615) (hd : d % 9 = 6) (hw : widthAt m.ws ad ≠ 0) :
    Calls Tryd.prog 10 #[.pointer (some ⟨b, 0, none⟩), .pointer (some ⟨r, 0, none⟩), .agg #[.int .i64 d, .int .i64 a, .int .i64 n, .int .i64 k, .int .u64 ad, .int .u64 old, .int .u64 v]] W (StepPost b bc r bw bh m W) := by
  have g := HB.g
  have B0 : Both (W.alloc (.cells #[.int .i64 d, .int .i64 a, .int .i64 n, .int .i64 k, .int .u64 ad, .int .u64 old, .int .u64 v] 36)) b bc r bw bh m := HB.below ((Below.refl _ _).alloc (Nat.le_refl _) _)
  have XB := Row.new W [.int .i64 d, .int .i64 a, .int .i64 n, .int .i64 k, .int .u64 ad, .int .u64 old, .int .u64 v] 36
  have o0' : Only (allB b bc r bw bh) W (W.alloc (.cells #[.int .i64 d, .int .i64 a, .int .i64 n, .int .i64 k, .int .u64 ad, .int .u64 old, .int .u64 v] 36)) := (Only.refl _ _).alloc _
  have nin := HB.notIn (Nat.le_refl W.heap.size)
  have WI := Lib.hid (fun w => within_any d 9 (by omega) (by omega) w)
  rw [hd] at WI
  have P0 := memAdd B0.p g hn0 hn ad v v0 v1 hw
  unfold AccPost at P0
  have nin2 : W.heap.size ∉ [b, bc] := notIn2 nin
  have gg : Good { ws := m.ws, hs := m.hs.set ad (summ (widthAt m.ws ad) (m.hs.getD ad 0) v), n := m.n + 1 } := by
    obtain ⟨y0, y1, yc⟩ : 0 ≤ summ (widthAt m.ws ad) (m.hs.getD ad 0) v ∧ summ (widthAt m.ws ad) (m.hs.getD ad 0) v ≤ 18446744073709551615 ∧ cut (widthAt m.ws ad) (summ (widthAt m.ws ad) (m.hs.getD ad 0) v) = summ (widthAt m.ws ad) (m.hs.getD ad 0) v := summ_good _ _ _
    exact g.acc (Good.inLen hw) y0 y1 yc
  have RD : Hid (∀ w, RefMem w r bw bh m → Calls Tryd.prog 30 #[.pointer (some ⟨r, 0, none⟩), .int .i64 3, .int .u64 ad, .int .u64 old, .int .u64 v] w fun e w' =>
      e = .returned (.tuple #[.int .u64 (m.hs.getD ad 0), .pointer none]) ∧ RefMem w' r bw bh { ws := m.ws, hs := m.hs.set ad (summ (widthAt m.ws ad) (m.hs.getD ad 0) v), n := m.n + 1 } ∧ Only [r, bw, bh] w w') :=
    fun w h => refDo3 h g.small hn0 hn ad old v v0 v1 o0 o1 (g.h0 ad) (g.h1 ad) (Good.inLen hw) hw
  obtain ⟨m1, em⟩ : ∃ m1, m1 = ({ ws := m.ws, hs := m.hs.set ad (summ (widthAt m.ws ad) (m.hs.getD ad 0) v), n := m.n + 1 } : Cells) := ⟨_, rfl⟩
  have lm : m1.ws = m.ws := by rw [em]
  have nm : m1.n = m.n + 1 := by rw [em]
  rw [← em] at P0 RD gg
  obtain ⟨x, hx⟩ : ∃ x, x = m.hs.getD ad 0 := ⟨_, rfl⟩
  rw [← hx] at RD
  rw [← hx] at P0
  have P1 := Lib.hid P0
  have fin : Hid (∀ w1 w2, MemAt w1 b bc m1 (countNZ m.ws) → Only [b, bc] (W.alloc (.cells #[.int .i64 d, .int .i64 a, .int .i64 n, .int .i64 k, .int .u64 ad, .int .u64 old, .int .u64 v] 36)) w1 → ErrType w1 → RefMem w2 r bw bh m1 → Only [r, bw, bh] w1 w2 → StepPost b bc r bw bh m W (.returned (.bool true)) w2) := fun w1 w2 p1 ho1 e1 q2 ho2 => by
    obtain ⟨⟨n1, n2, n3⟩, ⟨n4, n5, n6⟩, n7, n8, n9, n10, n11⟩ := HB.ne
    rw [← lm] at p1
    exact ⟨rfl, m1, by rw [lm], by omega, by omega, ⟨p1.only ho2 (by simp; exact ⟨n1, n2, n3⟩) (by simp; exact ⟨n4, n5, n6⟩), q2, gg, errType_only ho2 (by simp; exact ⟨n9, n10, n11⟩) e1, HB.ne⟩,
      (o0'.trans (ho1.mono (by simp))).trans (ho2.mono (by simp))⟩
  have BB := Lib.hid B0
  have XX := Lib.hid XB
  have NI := Lib.hid nin2
  obtain ⟨x0, x1, x2, x3, x4, x5, x6⟩ := opbox XB
  have tx : (x == x) = true := beq_self_eq_true x
  clear nin nin2 B0 XB o0' HB hx P0 em lm nm gg hw hd g
  go_enter Tryd.func10, Tryd.ntmps10
  go_wp2_with (go_at_call 7; refine (WI.out _).mono ?_; rintro e w' ⟨rfl, rfl⟩)
  go_at_call 28
  refine P1.out.mono ?_
  rintro e w1 ⟨rfl, p1, ho1⟩
  obtain ⟨q1, e1⟩ := BB.out.ofP ho1
  have R1 := Lib.hid (RD.out w1 q1)
  obtain ⟨k0, k1, k2, k3, k4, k5, k6⟩ := opbox (XX.out.only ho1 NI.out)
  have Q := Lib.hid (And.intro p1 (And.intro ho1 e1))
  clear p1 ho1 q1 e1 x0 x1 x2 x3 x4 x5 x6
  go_wp2_with fail
  go_at_call 30
  refine R1.out.mono ?_
  rintro e w2 ⟨rfl, q2, ho2⟩
  have FIN := Lib.hid (fin.out w1 w2 Q.out.1 Q.out.2.1 Q.out.2.2 q2 ho2)
  clear q2 ho2 k0 k1 k2 k3 k4 k5 k6
  go_wp2_with fail
  go_at_call 13
  refine (same_nil _).mono ?_
  rintro e w' ⟨rfl, rfl⟩
  go_wp2_with fail
  go_ret
  exact FIN.out

set_option maxHeartbeats 8000000 in
set_option maxRecDepth 100000 in
theorem do_6b {W : World} {b bc r bw bh : Nat} {m : Cells} (HB : Both W b bc r bw bh m) (d a n k : Int) (ad : Nat) (old v : Int) (hn0 : 0 ≤ m.n) (hn : m.n < 9223372036854775807) (had : ad < 18446744073709551616) (o0 : 0 ≤ old) (o1 : old ≤ 18446744073709551615) (v0 : 0 ≤ v) (v1 : v ≤ 18446744073709551615) (hd : d % 9 = 6) (hw : widthAt m.ws ad = 0) :
    Calls Tryd.prog 10 #[.pointer (some ⟨b, 0, none⟩), .pointer (some ⟨r, 0, none⟩), .agg #[.int .i64 d, .int .i64 a, .int .i64 n, .int .i64 k, .int .u64 ad, .int .u64 old, .int .u64 v]] W (StepPost b bc r bw bh m W) := by
  have g := HB.g
  have B0 : Both (W.alloc (.cells #[.int .i64 d, .int .i64 a, .int .i64 n, .int .i64 k, .int .u64 ad, .int .u64 old, .int .u64 v] 36)) b bc r bw bh m := HB.below ((Below.refl _ _).alloc (Nat.le_refl _) _)
  have XB := Row.new W [.int .i64 d, .int .i64 a, .int .i64 n, .int .i64 k, .int .u64 ad, .int .u64 old, .int .u64 v] 36
  have o0' : Only (allB b bc r bw bh) W (W.alloc (.cells #[.int .i64 d, .int .i64 a, .int .i64 n, .int .i64 k, .int .u64 ad, .int .u64 old, .int .u64 v] 36)) := (Only.refl _ _).alloc _
  have nin := HB.notIn (Nat.le_refl W.heap.size)
  have WI := Lib.hid (fun w => within_any d 9 (by omega) (by omega) w)
  rw [hd] at WI
  have P0 := memAdd_bad B0.p g ad had v hw
  unfold AccBad at P0
  have B1 : Both ((W.alloc (.cells #[.int .i64 d, .int .i64 a, .int .i64 n, .int .i64 k, .int .u64 ad, .int .u64 old, .int .u64 v] 36)).alloc (.cells #[.string memS, .int .i64 (badPlace ad), .iface 42 (.int .i64 2)] 76)) b bc r bw bh m := B0.below ((Below.refl _ _).alloc (Nat.le_refl _) _)
  have R0 := refDoBad B1.q g.small 3 ad had old v hw
  unfold DoBadPost at R0
  have SA := Lib.hid (same_new memS (badPlace ad) 2 (by omega) (by omega) (W.alloc (.cells #[.int .i64 d, .int .i64 a, .int .i64 n, .int .i64 k, .int .u64 ad, .int .u64 old, .int .u64 v] 36)) B0.e)
  obtain ⟨x, hx⟩ : ∃ x, x = badPlace ad := ⟨_, rfl⟩
  rw [← hx] at P0 R0 SA B1
  simp only [World.size_alloc] at P0 R0 SA
  have RD := Lib.hid R0
  have P1 := Lib.hid P0
  have fin : Hid (∀ w3, Below (W.heap.size + 1) (W.alloc (.cells #[.int .i64 d, .int .i64 a, .int .i64 n, .int .i64 k, .int .u64 ad, .int .u64 old, .int .u64 v] 36)) w3 → StepPost b bc r bw bh m W (.returned (.bool true)) w3) := fun w3 hb3 => by
    have hb3 : Below (W.alloc (.cells #[.int .i64 d, .int .i64 a, .int .i64 n, .int .i64 k, .int .u64 ad, .int .u64 old, .int .u64 v] 36)).heap.size (W.alloc (.cells #[.int .i64 d, .int .i64 a, .int .i64 n, .int .i64 k, .int .u64 ad, .int .u64 old, .int .u64 v] 36)) w3 := by rw [World.size_alloc]; exact hb3
    exact ⟨rfl, m, rfl, by omega, by omega, B0.below hb3, o0'.trans (Only.of_below hb3)⟩
  have XX := Lib.hid XB
  obtain ⟨x0, x1, x2, x3, x4, x5, x6⟩ := opbox XB
  clear nin B0 XB o0' HB hx P0 R0 hw B1 hd g
  go_enter Tryd.func10, Tryd.ntmps10
  go_wp2_with (go_at_call 7; refine (WI.out _).mono ?_; rintro e w' ⟨rfl, rfl⟩)
  go_at_call 28
  refine P1.out.mono ?_
  rintro e w1 ⟨rfl, rfl⟩
  go_wp2_with fail
  go_at_call 30
  refine RD.out.mono ?_
  rintro e w2 ⟨rfl, rfl⟩
  go_wp2_with fail
  go_at_call 13
  refine SA.out.mono ?_
  rintro e w3 ⟨rfl, hb3⟩
  have FIN := Lib.hid (fin.out w3 hb3)
  clear hb3
  go_wp2_with fail
  go_ret
  exact FIN.out

set_option maxHeartbeats 8000000 in
set_option maxRecDepth 100000 in
theorem do_7g {W : World} {b bc r bw bh : Nat} {m : Cells} (HB : Both W b bc r bw bh m) (d a n k : Int) (ad : Nat) (old v : Int) (hn0 : 0 ≤ m.n) (hn : m.n < 9223372036854775807) (had : ad < 18446744073709551616) (o0 : 0 ≤ old) (o1 : old ≤ 18446744073709551615) (v0 : 0 ≤ v) (v1 : v ≤ 18446744073709551615) (hd : d % 9 = 7 ∨ d % 9 = 8) (hw : widthAt m.ws ad ≠ 0) :
    Calls Tryd.prog 10 #[.pointer (some ⟨b, 0, none⟩), .pointer (some ⟨r, 0, none⟩), .agg #[.int .i64 d, .int .i64 a, .int .i64 n, .int .i64 k, .int .u64 ad, .int .u64 old, .int .u64 v]] W (StepPost b bc r bw bh m W) := by
  have g := HB.g
  have B0 : Both (W.alloc (.cells #[.int .i64 d, .int .i64 a, .int .i64 n, .int .i64 k, .int .u64 ad, .int .u64 old, .int .u64 v] 36)) b bc r bw bh m := HB.below ((Below.refl _ _).alloc (Nat.le_refl _) _)
  have XB := Row.new W [.int .i64 d, .int .i64 a, .int .i64 n, .int .i64 k, .int .u64 ad, .int .u64 old, .int .u64 v] 36
  have o0' : Only (allB b bc r bw bh) W (W.alloc (.cells #[.int .i64 d, .int .i64 a, .int .i64 n, .int .i64 k, .int .u64 ad, .int .u64 old, .int .u64 v] 36)) := (Only.refl _ _).alloc _
  have nin := HB.notIn (Nat.le_refl W.heap.size)
  have WI := Lib.hid (fun w => within_any d 9 (by omega) (by omega) w)
  obtain ⟨q, hq⟩ : ∃ q, q = d % 9 := ⟨_, rfl⟩
  rw [← hq] at WI hd
  clear hq
  have P0 := memCas B0.p g hn0 hn ad old o0 o1 v v0 v1 hw
  unfold AccPost at P0
  have nin2 : W.heap.size ∉ [b, bc] := notIn2 nin
  have gg : Good { ws := m.ws, hs := m.hs.set ad (casVal (widthAt m.ws ad) (m.hs.getD ad 0) old v), n := m.n + 1 } := by
    obtain ⟨y0, y1, yc⟩ : 0 ≤ casVal (widthAt m.ws ad) (m.hs.getD ad 0) old v ∧ casVal (widthAt m.ws ad) (m.hs.getD ad 0) old v ≤ 18446744073709551615 ∧ cut (widthAt m.ws ad) (casVal (widthAt m.ws ad) (m.hs.getD ad 0) old v) = casVal (widthAt m.ws ad) (m.hs.getD ad 0) old v := casVal_good _ _ old v v0 v1 (g.h0 ad) (g.h1 ad) (g.hc ad)
    exact g.acc (Good.inLen hw) y0 y1 yc
  have RD : Hid (∀ w, RefMem w r bw bh m → Calls Tryd.prog 30 #[.pointer (some ⟨r, 0, none⟩), .int .i64 4, .int .u64 ad, .int .u64 old, .int .u64 v] w fun e w' =>
      e = .returned (.tuple #[.int .u64 (m.hs.getD ad 0), .pointer none]) ∧ RefMem w' r bw bh { ws := m.ws, hs := m.hs.set ad (casVal (widthAt m.ws ad) (m.hs.getD ad 0) old v), n := m.n + 1 } ∧ Only [r, bw, bh] w w') :=
    fun w h => refDo4 h g.small hn0 hn ad old v v0 v1 o0 o1 (g.h0 ad) (g.h1 ad) (Good.inLen hw) hw
  obtain ⟨m1, em⟩ : ∃ m1, m1 = ({ ws := m.ws, hs := m.hs.set ad (casVal (widthAt m.ws ad) (m.hs.getD ad 0) old v), n := m.n + 1 } : Cells) := ⟨_, rfl⟩
  have lm : m1.ws = m.ws := by rw [em]
  have nm : m1.n = m.n + 1 := by rw [em]
  rw [← em] at P0 RD gg
  obtain ⟨x, hx⟩ : ∃ x, x = m.hs.getD ad 0 := ⟨_, rfl⟩
  rw [← hx] at RD
  rw [← hx] at P0
  have P1 := Lib.hid P0
  have fin : Hid (∀ w1 w2, MemAt w1 b bc m1 (countNZ m.ws) → Only [b, bc] (W.alloc (.cells #[.int .i64 d, .int .i64 a, .int .i64 n, .int .i64 k, .int .u64 ad, .int .u64 old, .int .u64 v] 36)) w1 → ErrType w1 → RefMem w2 r bw bh m1 → Only [r, bw, bh] w1 w2 → StepPost b bc r bw bh m W (.returned (.bool true)) w2) := fun w1 w2 p1 ho1 e1 q2 ho2 => by
    obtain ⟨⟨n1, n2, n3⟩, ⟨n4, n5, n6⟩, n7, n8, n9, n10, n11⟩ := HB.ne
    rw [← lm] at p1
    exact ⟨rfl, m1, by rw [lm], by omega, by omega, ⟨p1.only ho2 (by simp; exact ⟨n1, n2, n3⟩) (by simp; exact ⟨n4, n5, n6⟩), q2, gg, errType_only ho2 (by simp; exact ⟨n9, n10, n11⟩) e1, HB.ne⟩,
      (o0'.trans (ho1.mono (by simp))).trans (ho2.mono (by simp))⟩
  have BB := Lib.hid B0
  have XX := Lib.hid XB
  have NI := Lib.hid nin2
  obtain ⟨x0, x1, x2, x3, x4, x5, x6⟩ := opbox XB
  have tx : (x == x) = true := beq_self_eq_true x
  clear nin nin2 B0 XB o0' HB hx P0 em lm nm gg hw g
  rcases hd with rfl | rfl
  all_goals (
    go_enter Tryd.func10, Tryd.ntmps10
    go_wp2_with (go_at_call 7; refine (WI.out _).mono ?_; rintro e w' ⟨rfl, rfl⟩)
    go_at_call 29
    refine P1.out.mono ?_
    rintro e w1 ⟨rfl, p1, ho1⟩
    obtain ⟨q1, e1⟩ := BB.out.ofP ho1
    have R1 := Lib.hid (RD.out w1 q1)
    obtain ⟨k0, k1, k2, k3, k4, k5, k6⟩ := opbox (XX.out.only ho1 NI.out)
    have Q := Lib.hid (And.intro p1 (And.intro ho1 e1))
    clear p1 ho1 q1 e1 x0 x1 x2 x3 x4 x5 x6
    go_wp2_with fail
    go_at_call 30
    refine R1.out.mono ?_
    rintro e w2 ⟨rfl, q2, ho2⟩
    have FIN := Lib.hid (fin.out w1 w2 Q.out.1 Q.out.2.1 Q.out.2.2 q2 ho2)
    clear q2 ho2 k0 k1 k2 k3 k4 k5 k6
    go_wp2_with fail
    go_at_call 13
    refine (same_nil _).mono ?_
    rintro e w' ⟨rfl, rfl⟩
    go_wp2_with fail
    go_ret
    exact FIN.out)

set_option maxHeartbeats 8000000 in
set_option maxRecDepth 100000 in
theorem do_7b {W : World} {b bc r bw bh : Nat} {m : Cells} (HB : Both W b bc r bw bh m) (d a n k : Int) (ad : Nat) (old v : Int) (hn0 : 0 ≤ m.n) (hn : m.n < 9223372036854775807) (had : ad < 18446744073709551616) (o0 : 0 ≤ old) (o1 : old ≤ 18446744073709551615) (v0 : 0 ≤ v) (v1 : v ≤ 18446744073709551615) (hd : d % 9 = 7 ∨ d % 9 = 8) (hw : widthAt m.ws ad = 0) :
    Calls Tryd.prog 10 #[.pointer (some ⟨b, 0, none⟩), .pointer (some ⟨r, 0, none⟩), .agg #[.int .i64 d, .int .i64 a, .int .i64 n, .int .i64 k, .int .u64 ad, .int .u64 old, .int .u64 v]] W (StepPost b bc r bw bh m W) := by
  have g := HB.g
  have B0 : Both (W.alloc (.cells #[.int .i64 d, .int .i64 a, .int .i64 n, .int .i64 k, .int .u64 ad, .int .u64 old, .int .u64 v] 36)) b bc r bw bh m := HB.below ((Below.refl _ _).alloc (Nat.le_refl _) _)
  have XB := Row.new W [.int .i64 d, .int .i64 a, .int .i64 n, .int .i64 k, .int .u64 ad, .int .u64 old, .int .u64 v] 36
  have o0' : Only (allB b bc r bw bh) W (W.alloc (.cells #[.int .i64 d, .int .i64 a, .int .i64 n, .int .i64 k, .int .u64 ad, .int .u64 old, .int .u64 v] 36)) := (Only.refl _ _).alloc _
  have nin := HB.notIn (Nat.le_refl W.heap.size)
  have WI := Lib.hid (fun w => within_any d 9 (by omega) (by omega) w)
  obtain ⟨q, hq⟩ : ∃ q, q = d % 9 := ⟨_, rfl⟩
  rw [← hq] at WI hd
  clear hq
  have P0 := memCas_bad B0.p g ad had old v hw
  unfold AccBad at P0
  have B1 : Both ((W.alloc (.cells #[.int .i64 d, .int .i64 a, .int .i64 n, .int .i64 k, .int .u64 ad, .int .u64 old, .int .u64 v] 36)).alloc (.cells #[.string memS, .int .i64 (badPlace ad), .iface 42 (.int .i64 2)] 76)) b bc r bw bh m := B0.below ((Below.refl _ _).alloc (Nat.le_refl _) _)
  have R0 := refDoBad B1.q g.small 4 ad had old v hw
  unfold DoBadPost at R0
  have SA := Lib.hid (same_new memS (badPlace ad) 2 (by omega) (by omega) (W.alloc (.cells #[.int .i64 d, .int .i64 a, .int .i64 n, .int .i64 k, .int .u64 ad, .int .u64 old, .int .u64 v] 36)) B0.e)
  obtain ⟨x, hx⟩ : ∃ x, x = badPlace ad := ⟨_, rfl⟩
  rw [← hx] at P0 R0 SA B1
  simp only [World.size_alloc] at P0 R0 SA
  have RD := Lib.hid R0
  have P1 := Lib.hid P0
  have fin : Hid (∀ w3, Below (W.heap.size + 1) (W.alloc (.cells #[.int .i64 d, .int .i64 a, .int .i64 n, .int .i64 k, .int .u64 ad, .int .u64 old, .int .u64 v] 36)) w3 → StepPost b bc r bw bh m W (.returned (.bool true)) w3) := fun w3 hb3 => by
    have hb3 : Below (W.alloc (.cells #[.int .i64 d, .int .i64 a, .int .i64 n, .int .i64 k, .int .u64 ad, .int .u64 old, .int .u64 v] 36)).heap.size (W.alloc (.cells #[.int .i64 d, .int .i64 a, .int .i64 n, .int .i64 k, .int .u64 ad, .int .u64 old, .int .u64 v] 36)) w3 := by rw [World.size_alloc]; exact hb3
    exact ⟨rfl, m, rfl, by omega, by omega, B0.below hb3, o0'.trans (Only.of_below hb3)⟩
  have XX := Lib.hid XB
  obtain ⟨x0, x1, x2, x3, x4, x5, x6⟩ := opbox XB
  clear nin B0 XB o0' HB hx P0 R0 hw B1 g
  rcases hd with rfl | rfl
  all_goals (
    go_enter Tryd.func10, Tryd.ntmps10
    go_wp2_with (go_at_call 7; refine (WI.out _).mono ?_; rintro e w' ⟨rfl, rfl⟩)
    go_at_call 29
    refine P1.out.mono ?_
    rintro e w1 ⟨rfl, rfl⟩
    go_wp2_with fail
    go_at_call 30
    refine RD.out.mono ?_
    rintro e w2 ⟨rfl, rfl⟩
    go_wp2_with fail
    go_at_call 13
    refine SA.out.mono ?_
    rintro e w3 ⟨rfl, hb3⟩
    have FIN := Lib.hid (fin.out w3 hb3)
    clear hb3
    go_wp2_with fail
    go_ret
    exact FIN.out)
end Go.Proofs.YtdnamjlknmcdjaaDoor
