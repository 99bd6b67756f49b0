/- What the row's conditions give a walk: the listed variables, the form's reach; a world that meets them. -/
import Derived.Test.YtneajiglkiffjaaGreatDoorRows
import Derived.Test.YtneajiglkiffjaaGreatDoorErrAs2
import Derived.Test.YtneajiglkiffjaaGreatDoorAsmOp
import Derived.Test.YtneajiglkiffjaaGreatDoorStrs
import Derived.ProofKit
import Derived.LaidMore
import Derived.LaidHandle
import Derived.OpenShut
import Derived.ShutString
import Derived.Stop.Joined
import Derived.Stop.LaidErr
import Derived.Lib.LaidU8
import Derived.Lib.LaidTab
import Derived.Lay
import Derived.RowKitTokens
import Derived.Test.YtneajiglkiffjaaGreatDoorPrint
import Derived.Test.YtneajiglkiffjaaGreatDoorInsIn
import Derived.SizedLaws
namespace Go.Proofs.YtneajiglkiffjaaGreatDoor
open Go.RowKit

theorem ownK : ownKnob Tryz.prog.godebug = none := by kernel_rfl

/-- The variables that the rows list. -/
def laidL : List (String × DataW Unit) := [("math/bits.deBruijn32tab", Rows.laid_math_bits_deBruijn32tab), ("math/bits.deBruijn64tab", Rows.laid_math_bits_deBruijn64tab), ("internal/strconv.uint64pow10", Rows.laid_internal_strconv_uint64pow10), ("unicode/utf8.acceptRanges", Rows.laid_unicode_utf8_acceptRanges), ("errors.errorType", Rows.laid_errors_errorType), ("distaff/asm.names", Rows.laid_distaff_asm_names), ("unicode/utf8.first", Rows.laid_unicode_utf8_first)]
/-- Without the handle. -/
def laidD : List (String × DataW Unit) := [("math/bits.deBruijn32tab", Rows.laid_math_bits_deBruijn32tab), ("math/bits.deBruijn64tab", Rows.laid_math_bits_deBruijn64tab), ("internal/strconv.uint64pow10", Rows.laid_internal_strconv_uint64pow10), ("unicode/utf8.acceptRanges", Rows.laid_unicode_utf8_acceptRanges), ("distaff/asm.names", Rows.laid_distaff_asm_names), ("unicode/utf8.first", Rows.laid_unicode_utf8_first)]
def laidG : List (String × DataW Unit) := [("unicode/utf8.first", Rows.laid_unicode_utf8_first)]
def laidR : List (String × DataW Unit) := [("math/bits.deBruijn32tab", Rows.laid_math_bits_deBruijn32tab), ("math/bits.deBruijn64tab", Rows.laid_math_bits_deBruijn64tab), ("internal/strconv.uint64pow10", Rows.laid_internal_strconv_uint64pow10), ("unicode/utf8.acceptRanges", Rows.laid_unicode_utf8_acceptRanges), ("distaff/asm.names", Rows.laid_distaff_asm_names)]
def laidB : List Nat := [6, 7, 3, 5, 0]

/-- The world of the witness: what the program's start leaves, and the pinned table. -/
noncomputable def laidW (os : Os) : World := (World.doorLaid Tryz.prog 400 os).layVars Tryz.prog laidG
theorem laidW_os (os : Os) : (laidW os).os = os := World.layVars_os _ _ _

set_option maxRecDepth 100000 in
theorem laidD_met (os : Os) (args : Array Value) : laidMet Tryz.prog laidD ((laidW os).forCall (fun _ _ => 0) ⟨#[], args, []⟩).memory := by
  have e1 : (laidD.filter fun x => ["unicode/utf8.first"].contains x.1) = laidG := by kernel_rfl
  have e2 : (laidD.filter fun x => !["unicode/utf8.first"].contains x.1) = laidR := by kernel_rfl
  have h : laidMet Tryz.prog laidD (laidW os) := laidMet_layVars (w0 := World.doorLaid Tryz.prog 400 os) ["unicode/utf8.first"] laidB (by rw [e1]; rfl) (by rw [e1]; kernel_rfl) (by rw [e1]; kernel_rfl)
    (by rw [e2]; exact LaidIn.of_run laidB 8 (by kernel_rfl) (by kernel_rfl) (by kernel_rfl) (by kernel_rfl))
  exact h.of_heap (by simp [World.memory, World.forCall, Input.heap])

set_option maxRecDepth 100000 in
theorem door_met (os : Os) (args : Array Value) : laidMetH Tryz.prog laidL ((laidW os).forCall (fun _ _ => 0) ⟨#[], args, []⟩).memory :=
  laidMetH_of_parts (by
    have e : (laidL.filter fun x => x.2.handleName?.isNone) = laidD := by kernel_rfl
    rw [e]
    exact laidD_met os args) (by kernel_rfl)

theorem et : Tryz.prog.globalNamed "errors.errorType" = some 1 := by kernel_rfl
theorem rt : (Tryz.prog.cutTypes.find? (·.1 == "internal/reflectlite.rtype")).map (·.2) = some 129 := by kernel_rfl
theorem oneRow : ((List.range 229).filter fun t => Tryz.prog.rowNamed t [101, 114, 114, 111, 114]) = [25] := by kernel_rfl
theorem typesN : Tryz.prog.types.size = 229 := by kernel_rfl

theorem laidL_met {W : World} (h : laidMetH Tryz.prog laidL W) : laidMet Tryz.prog laidD W ∧ handlesMet Tryz.prog [("errors.errorType", Rows.laid_errors_errorType)] W := h

theorem errType_of_laid {W : World} (h : laidMetH Tryz.prog laidL W) : ErrType W := by
  obtain ⟨name, u, ty, e1, e2, e3, e4, e5⟩ := (laidL_met h).2 _ (List.mem_singleton.2 rfl)
  have en : name = [101, 114, 114, 111, 114] := (Option.some.inj e1).symm
  subst en
  obtain rfl := Option.some.inj (rt.symm.trans e2)
  have hm : ty ∈ (List.range 229).filter fun t => Tryz.prog.rowNamed t [101, 114, 114, 111, 114] := List.mem_filter.2 ⟨List.mem_range.2 (by rw [← typesN]; exact e3), e4⟩
  rw [oneRow] at hm
  obtain rfl := List.mem_singleton.1 hm
  have hh : typeHandle Tryz.prog 25 = .pointer (some ⟨8, 25, none⟩) := by kernel_rfl
  rw [hh] at e5
  have c := World.var?_cell et e5 0
  unfold ErrType
  simpa using c

/-- An array of strings that reads as a table of texts holds them, cell for cell. -/
theorem strs_of_tab {H : Type} {enc : TypeId × Value → H} {P : Program} {w : World} {base : Nat} {sp : Nat → Bool} {held : Bool} {fuel : Nat} {t e : TypeId} {n : Nat} {cs : List Value} {zs : List (List UInt8)} {p : List MemPlace}
    (ht : P.underlying t = some (.array n e)) (he : P.underlying e = some .string) (hce : P.cellsOf e = 1) (hct : P.cellsOf t = n)
    (h : DataW.trod enc P w base sp held fuel t cs = some (.agg (zs.map fun z => .lit (.string z)), p)) : cs = zs.map fun z => Value.string (bytesA z) := by
  cases fuel with
  | zero => simp [DataW.trod] at h
  | succ fuel =>
    simp only [DataW.trod, ht, hce, hct, Nat.mul_one] at h
    split at h
    · rename_i hl
      obtain ⟨xs, hm, hx⟩ := Option.map_eq_some_iff.1 h
      have hxs : xs.map (·.1) = zs.map fun z => (DataW.lit (.string z) : DataW H) := by
        have := congrArg Prod.fst hx
        simpa using this
      have hxl : xs.length = n := by simpa using Lib.mapM_length hm
      have hzl : zs.length = n := by
        have := congrArg List.length hxs
        simp at this
        omega
      apply List.ext_getElem?
      intro i
      by_cases hi : i < n
      · obtain ⟨b, hb, hf⟩ := Lib.mapM_at hm i i (by simp [hi])
        obtain ⟨s, hc, rfl, _⟩ := DataW.trod_string he hf
        have h1 : cs[i]? = some (.string s) := by
          have := congrArg (·[0]?) hc
          simpa [List.getElem?_take, List.getElem?_drop] using this
        have h2 : (xs.map (·.1))[i]? = some (DataW.lit (.string s.data.toList) : DataW H) := by simp [hb]
        rw [hxs] at h2
        simp only [List.getElem?_map, Option.map_eq_some_iff, DataW.lit.injEq, Lit.string.injEq] at h2
        obtain ⟨z', hz', e'⟩ := h2
        rw [h1, List.getElem?_map, hz', e']
        simp [bytesA_eq]
      · rw [List.getElem?_eq_none (by omega), List.getElem?_eq_none (by simp; omega)]
    · cases h

theorem gNames : Tryz.prog.globalNamed "distaff/asm.names" = some 0 := by kernel_rfl
theorem tNames : (Tryz.prog.globals[0]?).map (·.type) = some 89 := by kernel_rfl
theorem namesData : (Rows.laid_distaff_asm_names : DataW Unit) = .agg (opTab.map fun z => .lit (.string z)) := by kernel_rfl

theorem namesAt_of_met {W : World} {l : List (String × DataW Unit)} (h : laidMet Tryz.prog l W) (hm : ("distaff/asm.names", Rows.laid_distaff_asm_names) ∈ l) : NamesAt W := by
  obtain ⟨g, t, cs, f, p, a1, a2, a3, a4⟩ := Lib.laidMet.reads h hm
  obtain rfl := Option.some.inj (gNames.symm.trans a1)
  obtain rfl := Option.some.inj (tNames.symm.trans a2)
  rw [namesData] at a4
  have e := strs_of_tab Tryz.underlying89 Tryz.underlying9 (by kernel_rfl) (by kernel_rfl) a4
  intro j v hv
  have c := World.var?_cell gNames a3 j
  rw [Nat.zero_add, c]
  rw [← hv, namesL, ← e, Array.getElem?_toList]

theorem namesAt_of_laid {W : World} (h : laidMetH Tryz.prog laidL W) : NamesAt W := namesAt_of_met (laidL_met h).1 (by simp [laidD])
end Go.Proofs.YtneajiglkiffjaaGreatDoor

namespace Go.Proofs.YtneajiglkiffjaaGreatDoor
open Go.RowKit

theorem gPow : Tryz.prog.globalNamed "internal/strconv.uint64pow10" = some 3 := by kernel_rfl
theorem tPow : (Tryz.prog.globals[3]?).map (·.type) = some 186 := by kernel_rfl
theorem pow10_of_laid {W : World} (h : laidMetH Tryz.prog laidL W) : Pow10 W := by
  have h' : laidMet Tryz.prog [("math/bits.deBruijn32tab", Rows.laid_math_bits_deBruijn32tab), ("math/bits.deBruijn64tab", Rows.laid_math_bits_deBruijn64tab), ("internal/strconv.uint64pow10", Lib.tabData .u64 Lib.pow10Tab), ("unicode/utf8.acceptRanges", Rows.laid_unicode_utf8_acceptRanges), ("distaff/asm.names", Rows.laid_distaff_asm_names), ("unicode/utf8.first", Rows.laid_unicode_utf8_first)] W := (laidL_met h).1
  exact Lib.tabIs_of_head gPow tPow Tryz.underlying186 Tryz.underlying42 (by kernel_rfl) (by kernel_rfl) (laidMet.tail (laidMet.tail h'))
end Go.Proofs.YtneajiglkiffjaaGreatDoor

namespace Go.Proofs.YtneajiglkiffjaaGreatDoor
open Go.RowKit Go.ChangeShapes Go.WideShapes
set_option linter.unusedVariables false

section
variable {H : Type} {enc : TypeId × Value → H} {P : Program} {W : World}
theorem weights_cons {t : TypeId} {ts : List TypeId} {d : DataW H} {ds : List (DataW H)} (h : (DataW.weightsEach P (t :: ts) (d :: ds)).all (· ≤ reachBytes) = true) :
    (d.weights P t).all (· ≤ reachBytes) = true ∧ (DataW.weightsEach P ts ds).all (· ≤ reachBytes) = true := by
  rw [DataW.weightsEach, List.all_append, Bool.and_eq_true] at h
  exact h
theorem reach_slice {t e : TypeId} {A : Option Addr} {len cap : Nat} {d : DataW H} {p : List MemPlace} (hu : P.underlying t = some (.slice e)) (h : DataW.Trod enc P W 0 (fun _ => true) true t (.slice A len cap) d p)
    (hs : (d.weights P t).all (· ≤ reachBytes) = true) : len * P.bytesOf e ≤ 140737488351232 := by
  obtain ⟨fuel, hf⟩ := h
  rcases Go.Deep.open_slice hu hf with ⟨hcs, _⟩ | ⟨a, len', cap', m, n, D, Pl, hcs, _, _, _, _, hx, _⟩
  · simp [Value.cells] at hcs
    obtain ⟨rfl, rfl, rfl⟩ := hcs
    simp
  · simp [Value.cells] at hcs
    obtain ⟨rfl, rfl, rfl⟩ := hcs
    obtain ⟨rfl, -⟩ := Prod.mk.inj hx
    have h2 := List.all_eq_true.1 hs ((len + (m - len)) * P.bytesOf e) (by simp [DataW.weights, hu])
    simp only [decide_eq_true_eq] at h2
    exact Nat.le_trans (Nat.mul_le_mul_right _ (Nat.le_add_right _ _)) h2
end

theorem bytes_ins : Tryz.prog.bytesOf 44 = 56 := by kernel_rfl

section
variable {H : Type} {enc : TypeId × Value → H} {W : World}
theorem code_reach {A : Option Addr} {len cap : Nat} {d : DataW H} {p : List MemPlace} (h : DataW.Trod enc Tryz.prog W 0 (fun _ => true) true 22 (.slice A len cap) d p)
    (hw : (d.weights Tryz.prog 22).all (· ≤ reachBytes) = true) : len * 56 ≤ 140737488355328 := by
  have := reach_slice Tryz.underlying22 h hw
  rw [bytes_ins] at this
  omega
end
end Go.Proofs.YtneajiglkiffjaaGreatDoor
