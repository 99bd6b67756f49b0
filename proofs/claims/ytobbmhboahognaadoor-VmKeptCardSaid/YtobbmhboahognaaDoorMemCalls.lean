/- The program's memory (layer 2): contracts of Load, Store, Swap, Add and Cas, over a state that is good (each cell holds a word of its width): what they return, and how the memory lies behind them; nothing else that was there has turned. The conditions: the memory lies there, with fewer than 2^31 cells, its count of accesses is below an int's greatest. -/
import Derived.Test.YtobbmhboahognaaDoorMemAcc
import Derived.Test.YtobbmhboahognaaDoorGood
namespace Go.Proofs.YtobbmhboahognaaDoor
open Go.RowKit
set_option linter.unusedVariables false

theorem summ_good (k x v : Int) : 0 ≤ summ k x v ∧ summ k x v ≤ 18446744073709551615 ∧ cut k (summ k x v) = summ k x v := ⟨(summ_range k x v).1, (summ_range k x v).2, cut_summ _ _ _⟩
theorem cut_good (k v : Int) (h0 : 0 ≤ v) (h1 : v ≤ 18446744073709551615) : 0 ≤ cut k v ∧ cut k v ≤ 18446744073709551615 ∧ cut k (cut k v) = cut k v := ⟨(cut_range k v h0 h1).1, (cut_range k v h0 h1).2, cut_cut _ _⟩
/-- What a cell of width k that held x holds behind a Cas. -/
def casVal (k x old v : Int) : Int := if x = cut k old then cut k v else x
theorem casVal_good (k x old v : Int) (h0 : 0 ≤ v) (h1 : v ≤ 18446744073709551615) (x0 : 0 ≤ x) (x1 : x ≤ 18446744073709551615) (xc : cut k x = x) : 0 ≤ casVal k x old v ∧ casVal k x old v ≤ 18446744073709551615 ∧ cut k (casVal k x old v) = casVal k x old v := by
  unfold casVal; split
  · exact cut_good k v h0 h1
  · exact ⟨x0, x1, xc⟩

/-- What a Store leaves. -/
def StorePost (b bc : Nat) (m : Cells) (t : Int) (at' : Nat) (y : Int) (w : World) (e : Ending) (w' : World) : Prop := e = .returned .nilIface ∧
  MemAt w' b bc { ws := m.ws, hs := m.hs.set at' y, n := m.n + 1 } t ∧ Only [b, bc] w w'

set_option maxHeartbeats 1000000 in
theorem memLoad {w : World} {b bc : Nat} {m : Cells} {t : Int} (h : MemAt w b bc m t) (g : Good m) (hn0 : 0 ≤ m.n) (hn : m.n < 9223372036854775807) (at' : Nat) (hw : widthAt m.ws at' ≠ 0) :
    Calls Tryd.prog 40 #[.pointer (some ⟨b, 0, none⟩), .int .u64 at'] w (AccPost b bc m t at' (m.hs.getD at' 0) w) := by
  have AC := Lib.hid (acc_load h g.small hn0 hn at' 0 0 (by omega) (by omega) (by omega) (by omega) (g.h0 at') (g.h1 at') (Good.inLen hw) hw (g.hc at'))
  clear h g hw
  go_enter Tryd.func40, Tryd.ntmps40
  go_wp2_with (go_at_call 67; refine AC.out.mono ?_; rintro e w1 ⟨rfl, hm, ho⟩; have HM := Lib.hid hm; clear hm)
  go_ret2
  exact ⟨rfl, HM.out, ho⟩

set_option maxHeartbeats 1000000 in
theorem memStore {w : World} {b bc : Nat} {m : Cells} {t : Int} (h : MemAt w b bc m t) (g : Good m) (hn0 : 0 ≤ m.n) (hn : m.n < 9223372036854775807) (at' : Nat) (v : Int) (hv0 : 0 ≤ v) (hv : v ≤ 18446744073709551615) (hw : widthAt m.ws at' ≠ 0) :
    Calls Tryd.prog 38 #[.pointer (some ⟨b, 0, none⟩), .int .u64 at', .int .u64 v] w (StorePost b bc m t at' (cut (widthAt m.ws at') v) w) := by
  have AC := Lib.hid (acc_swap h g.small hn0 hn at' 0 v hv0 hv (by omega) (by omega) (g.h0 at') (g.h1 at') (Good.inLen hw) hw (g.hc at'))
  clear h g hw
  go_enter Tryd.func38, Tryd.ntmps38
  go_wp2_with (go_at_call 67; refine AC.out.mono ?_; rintro e w1 ⟨rfl, hm, ho⟩; have HM := Lib.hid hm; clear hm)
  go_ret
  exact ⟨rfl, HM.out, ho⟩

set_option maxHeartbeats 1000000 in
theorem memSwap {w : World} {b bc : Nat} {m : Cells} {t : Int} (h : MemAt w b bc m t) (g : Good m) (hn0 : 0 ≤ m.n) (hn : m.n < 9223372036854775807) (at' : Nat) (v : Int) (hv0 : 0 ≤ v) (hv : v ≤ 18446744073709551615) (hw : widthAt m.ws at' ≠ 0) :
    Calls Tryd.prog 128 #[.pointer (some ⟨b, 0, none⟩), .int .u64 at', .int .u64 v] w (AccPost b bc m t at' (cut (widthAt m.ws at') v) w) := by
  have AC := Lib.hid (acc_swap h g.small hn0 hn at' 0 v hv0 hv (by omega) (by omega) (g.h0 at') (g.h1 at') (Good.inLen hw) hw (g.hc at'))
  clear h g hw
  go_enter Tryd.func128, Tryd.ntmps128
  go_wp2_with (go_at_call 67; refine AC.out.mono ?_; rintro e w1 ⟨rfl, hm, ho⟩; have HM := Lib.hid hm; clear hm)
  go_ret2
  exact ⟨rfl, HM.out, ho⟩

set_option maxHeartbeats 1000000 in
theorem memAdd {w : World} {b bc : Nat} {m : Cells} {t : Int} (h : MemAt w b bc m t) (g : Good m) (hn0 : 0 ≤ m.n) (hn : m.n < 9223372036854775807) (at' : Nat) (v : Int) (hv0 : 0 ≤ v) (hv : v ≤ 18446744073709551615) (hw : widthAt m.ws at' ≠ 0) :
    Calls Tryd.prog 126 #[.pointer (some ⟨b, 0, none⟩), .int .u64 at', .int .u64 v] w (AccPost b bc m t at' (summ (widthAt m.ws at') (m.hs.getD at' 0) v) w) := by
  have AC := Lib.hid (acc_add h g.small hn0 hn at' 0 v hv0 hv (by omega) (by omega) (g.h0 at') (g.h1 at') (Good.inLen hw) hw (g.hc at'))
  clear h g hw
  go_enter Tryd.func126, Tryd.ntmps126
  go_wp2_with (go_at_call 67; refine AC.out.mono ?_; rintro e w1 ⟨rfl, hm, ho⟩; have HM := Lib.hid hm; clear hm)
  go_ret2
  exact ⟨rfl, HM.out, ho⟩

theorem acc_cas {w : World} {b bc : Nat} {m : Cells} {t : Int} (h : MemAt w b bc m t) (g : Good m) (hn0 : 0 ≤ m.n) (hn : m.n < 9223372036854775807) (at' : Nat) (old : Int) (ho0 : 0 ≤ old) (ho : old ≤ 18446744073709551615) (v : Int) (hv0 : 0 ≤ v) (hv : v ≤ 18446744073709551615) (hw : widthAt m.ws at' ≠ 0) :
    Calls Tryd.prog 67 #[.pointer (some ⟨b, 0, none⟩), .int .i64 3, .int .u64 at', .int .u64 old, .int .u64 v] w (AccPost b bc m t at' (casVal (widthAt m.ws at') (m.hs.getD at' 0) old v) w) := by
  by_cases hc : m.hs.getD at' 0 = cut (widthAt m.ws at') old
  · rw [casVal, if_pos hc]; exact acc_casy h g.small hn0 hn at' old v hv0 hv ho0 ho (g.h0 at') (g.h1 at') (Good.inLen hw) hw (g.hc at') hc
  · rw [casVal, if_neg hc]; exact acc_casn h g.small hn0 hn at' old v hv0 hv ho0 ho (g.h0 at') (g.h1 at') (Good.inLen hw) hw (g.hc at') hc

set_option maxHeartbeats 1000000 in
theorem memCas {w : World} {b bc : Nat} {m : Cells} {t : Int} (h : MemAt w b bc m t) (g : Good m) (hn0 : 0 ≤ m.n) (hn : m.n < 9223372036854775807) (at' : Nat) (old : Int) (ho0 : 0 ≤ old) (ho : old ≤ 18446744073709551615) (v : Int) (hv0 : 0 ≤ v) (hv : v ≤ 18446744073709551615) (hw : widthAt m.ws at' ≠ 0) :
    Calls Tryd.prog 127 #[.pointer (some ⟨b, 0, none⟩), .int .u64 at', .int .u64 old, .int .u64 v] w (AccPost b bc m t at' (casVal (widthAt m.ws at') (m.hs.getD at' 0) old v) w) := by
  have AC := Lib.hid (acc_cas h g hn0 hn at' old ho0 ho v hv0 hv hw)
  clear h g hw
  go_enter Tryd.func127, Tryd.ntmps127
  go_wp2_with (go_at_call 67; refine AC.out.mono ?_; rintro e w1 ⟨rfl, hm, ho⟩; have HM := Lib.hid hm; clear hm)
  go_ret2
  exact ⟨rfl, HM.out, ho⟩

set_option maxHeartbeats 1000000 in
theorem memLoad_bad {w : World} {b bc : Nat} {m : Cells} {t : Int} (h : MemAt w b bc m t) (g : Good m) (at' : Nat) (hat : at' < 18446744073709551616) (hw : widthAt m.ws at' = 0) :
    Calls Tryd.prog 40 #[.pointer (some ⟨b, 0, none⟩), .int .u64 at'] w (AccBad (badPlace at') w) := by
  have AC := Lib.hid (acc_bad h g.small 0 at' hat 0 0 hw)
  clear h g hw
  go_enter Tryd.func40, Tryd.ntmps40
  go_wp2_with (go_at_call 67; refine AC.out.mono ?_; rintro e w1 ⟨rfl, rfl⟩)
  go_ret2
  exact ⟨rfl, rfl⟩

set_option maxHeartbeats 1000000 in
theorem memStore_bad {w : World} {b bc : Nat} {m : Cells} {t : Int} (h : MemAt w b bc m t) (g : Good m) (at' : Nat) (hat : at' < 18446744073709551616) (v : Int) (hw : widthAt m.ws at' = 0) :
    Calls Tryd.prog 38 #[.pointer (some ⟨b, 0, none⟩), .int .u64 at', .int .u64 v] w (FaultPost (badPlace at') 2 w) := by
  have AC := Lib.hid (acc_bad h g.small 1 at' hat 0 v hw)
  clear h g hw
  go_enter Tryd.func38, Tryd.ntmps38
  go_wp2_with (go_at_call 67; refine AC.out.mono ?_; rintro e w1 ⟨rfl, rfl⟩)
  go_ret
  exact ⟨rfl, rfl⟩

set_option maxHeartbeats 1000000 in
theorem memSwap_bad {w : World} {b bc : Nat} {m : Cells} {t : Int} (h : MemAt w b bc m t) (g : Good m) (at' : Nat) (hat : at' < 18446744073709551616) (v : Int) (hw : widthAt m.ws at' = 0) :
    Calls Tryd.prog 128 #[.pointer (some ⟨b, 0, none⟩), .int .u64 at', .int .u64 v] w (AccBad (badPlace at') w) := by
  have AC := Lib.hid (acc_bad h g.small 1 at' hat 0 v hw)
  clear h g hw
  go_enter Tryd.func128, Tryd.ntmps128
  go_wp2_with (go_at_call 67; refine AC.out.mono ?_; rintro e w1 ⟨rfl, rfl⟩)
  go_ret2
  exact ⟨rfl, rfl⟩

set_option maxHeartbeats 1000000 in
theorem memAdd_bad {w : World} {b bc : Nat} {m : Cells} {t : Int} (h : MemAt w b bc m t) (g : Good m) (at' : Nat) (hat : at' < 18446744073709551616) (v : Int) (hw : widthAt m.ws at' = 0) :
    Calls Tryd.prog 126 #[.pointer (some ⟨b, 0, none⟩), .int .u64 at', .int .u64 v] w (AccBad (badPlace at') w) := by
  have AC := Lib.hid (acc_bad h g.small 2 at' hat 0 v hw)
  clear h g hw
  go_enter Tryd.func126, Tryd.ntmps126
  go_wp2_with (go_at_call 67; refine AC.out.mono ?_; rintro e w1 ⟨rfl, rfl⟩)
  go_ret2
  exact ⟨rfl, rfl⟩

set_option maxHeartbeats 1000000 in
theorem memCas_bad {w : World} {b bc : Nat} {m : Cells} {t : Int} (h : MemAt w b bc m t) (g : Good m) (at' : Nat) (hat : at' < 18446744073709551616) (old v : Int) (hw : widthAt m.ws at' = 0) :
    Calls Tryd.prog 127 #[.pointer (some ⟨b, 0, none⟩), .int .u64 at', .int .u64 old, .int .u64 v] w (AccBad (badPlace at') w) := by
  have AC := Lib.hid (acc_bad h g.small 3 at' hat old v hw)
  clear h g hw
  go_enter Tryd.func127, Tryd.ntmps127
  go_wp2_with (go_at_call 67; refine AC.out.mono ?_; rintro e w1 ⟨rfl, rfl⟩)
  go_ret2
  exact ⟨rfl, rfl⟩
end Go.Proofs.YtobbmhboahognaaDoor
