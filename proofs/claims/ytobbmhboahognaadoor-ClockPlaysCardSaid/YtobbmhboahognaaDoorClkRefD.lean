/- The document's queue (layer 8: in the clock): the contract of Put. The condition: fewer than 2^30 things. -/
import Derived.Test.YtobbmhboahognaaDoorClkRefD1
import Derived.Test.YtobbmhboahognaaDoorClkRefD2
import Derived.Test.YtobbmhboahognaaDoorClkRefD3
import Derived.Test.YtobbmhboahognaaDoorClkRefD4
namespace Go.Proofs.YtobbmhboahognaaDoor
open Go.RowKit
set_option linter.unusedVariables false
variable {t : Int}

theorem crefPut {w : World} {r N : Nat} {v : Value} {S : List Itm} {last : Nat} (h : RefC t w r N v S last) (d u : Int) (hl : S.length < 1073741823) (hlast : last < 1073741823) :
    Calls Tryd.prog 62 #[.pointer (some ⟨r, 1, none⟩), .int .u64 d, .int .u64 u] w fun e w' => e = .returned (.int .i64 ((last : Int) + 1)) ∧ ∃ v', RefCLed t w r N v w' v' (S.take (spot d S) ++ ⟨d, u, (last : Int) + 1⟩ :: S.drop (spot d S)) (last + 1) := by
  rcases h.two with ⟨rfl, rfl⟩ | ⟨g, cap, rfl, _⟩
  · exact crefPut_nil h d u hlast
  · by_cases hc : cap = spot d S
    · exact crefPut_end h d u hl hlast hc
    · by_cases hk : spot d S < S.length
      · exact crefPut_mid h d u hl hlast hc hk
      · exact crefPut_last h d u hl hlast hc hk
end Go.Proofs.YtobbmhboahognaaDoor
