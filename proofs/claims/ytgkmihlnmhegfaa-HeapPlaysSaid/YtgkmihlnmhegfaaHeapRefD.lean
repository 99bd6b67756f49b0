/- The document's queue (layer 7): the contract of Put. The condition: fewer than 2^30 things. -/
import Derived.Test.YtgkmihlnmhegfaaHeapRefD1
import Derived.Test.YtgkmihlnmhegfaaHeapRefD2
import Derived.Test.YtgkmihlnmhegfaaHeapRefD3
import Derived.Test.YtgkmihlnmhegfaaHeapRefD4
namespace Go.Proofs.Ytgkmihlnmhegfaa
open Go.RowKit
set_option linter.unusedVariables false

theorem refPut {w : World} {r N : Nat} {v : Value} {S : List Itm} {last : Nat} (h : RefQ w r N v S last) (d u : Int) (hl : S.length < 1073741823) (hlast : last < 1073741823) :
    Calls Try.prog 17 #[.pointer (some ⟨r, 0, none⟩), .int .u64 d, .int .u64 u] w fun e w' => e = .returned (.int .i64 ((last : Int) + 1)) ∧ ∃ v', RefLed w r N v w' v' (S.take (spot d S) ++ ⟨d, u, (last : Int) + 1⟩ :: S.drop (spot d S)) (last + 1) := by
  rcases h.two with ⟨rfl, rfl⟩ | ⟨g, cap, rfl, _⟩
  · exact refPut_nil h d u hlast
  · by_cases hc : cap = spot d S
    · exact refPut_end h d u hl hlast hc
    · by_cases hk : spot d S < S.length
      · exact refPut_mid h d u hl hlast hc hk
      · exact refPut_last h d u hl hlast hc hk
end Go.Proofs.Ytgkmihlnmhegfaa
