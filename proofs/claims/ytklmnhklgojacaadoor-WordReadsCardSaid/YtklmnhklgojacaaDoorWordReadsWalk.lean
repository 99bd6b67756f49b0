/- The walk of WordReads: it returns true; of what was there nothing has turned. -/
import Derived.Test.YtklmnhklgojacaaDoorAwake
import Derived.Test.YtklmnhklgojacaaDoorRefParse
namespace Go.Proofs.YtklmnhklgojacaaDoor
open Go.RowKit

set_option maxHeartbeats 1000000 in
theorem wordReads_walk (a0 : ByteArray) (_w0 : a0.size ≤ maxLen) (w : World) (hg : ErrType w) (ht : Pow10 w) :
    Calls Tryd.prog 6 #[.string a0] w fun e w' => e = .returned (.bool true) ∧ Below w.heap.size w w' := by
  have p1 := parse_any a0
  have p2 := refparse_any a0
  have HG := Lib.hid hg
  have HT := Lib.hid ht
  clear hg ht
  cases hR : readAll a0.data.toList with
  | ok v =>
    rw [hR] at p1 p2
    have P1 := Lib.hid p1
    have P2 := Lib.hid p2
    clear p1 p2 hR
    go_enter Tryd.func6, Tryd.ntmps6
    go_wp2_with fail
    go_at_call 24
    refine (P1.out _).mono ?_
    rintro e w' ⟨rfl, rfl⟩
    go_wp2_with fail
    go_at_call 25
    refine (P2.out _).mono ?_
    rintro e w' ⟨rfl, rfl⟩
    go_wp2_with fail
    go_at_call 26
    refine (same_nil _).mono ?_
    rintro e w' ⟨rfl, rfl⟩
    go_wp2_with fail
    go_at_call 19
    refine (awake_any _ HG.out HT.out).mono ?_
    rintro e w2 ⟨rfl, hb2⟩
    go_wp2_with fail
    go_ret
    exact ⟨rfl, hb2⟩
  | bad n =>
    rw [hR] at p1 p2
    have P1 := Lib.hid p1
    have P2 := Lib.hid p2
    have SA := Lib.hid (same_at ⟨#[119, 111, 114, 100]⟩ (n : Int) 6 (by omega) (by omega) w HG.out)
    clear p1 p2 hR
    go_enter Tryd.func6, Tryd.ntmps6
    go_wp2_with fail
    go_at_call 24
    refine (P1.out _).mono ?_
    rintro e w' ⟨rfl, rfl⟩
    go_wp2_with fail
    go_at_call 25
    refine (P2.out _).mono ?_
    rintro e w' ⟨rfl, rfl⟩
    go_wp2_with fail
    go_at_call 26
    refine SA.out.mono ?_
    rintro e w1 ⟨rfl, hb⟩
    have HT1 := Lib.hid (pow10_below hb HT.out)
    have HG1 := Lib.hid (errType_below hb HG.out (cell_lt HG.out))
    go_wp2_with fail
    go_at_call 19
    refine (awake_any _ HG1.out HT1.out).mono ?_
    rintro e w2 ⟨rfl, hb2⟩
    go_wp2_with fail
    go_ret
    exact ⟨rfl, hb.trans (hb2.mono hb.size)⟩
end Go.Proofs.YtklmnhklgojacaaDoor
