/- A queue as a list in order (layer 7): Drop. -/
import Derived.Test.YtobbmhboahognaaDoorHeapSpec
import Derived.Test.YtobbmhboahognaaDoorHeapDrop
namespace Go.Proofs.YtobbmhboahognaaDoor
open Go.RowKit
set_option linter.unusedVariables false

section
variable {W W' : World} {b mb N c : Nat} {v : Value} {S : List Itm} {last : Nat}
theorem dropS_no (h : HeapIs W b mb N v c S last) (k : Int) (hk : (Lit.int .i64 k).wf = true) (hn : ∀ x ∈ S, x.h ≠ k) : Calls Tryd.prog 55 #[.pointer (some ⟨b, 0, none⟩), .int .i64 k] W fun e w' => e = .returned (.tuple #[.int .u64 0, .bool false]) ∧ W = w' := by
  obtain ⟨L, hL, hp, hs⟩ := h
  exact drop_no hL k hk (fun x hx => hn x (hp.mem_iff.1 hx))
theorem dropS_yes {A B : List Itm} {y : Itm} (h : HeapIs W b mb N v c (A ++ y :: B) last) (k : Int) (hk : y.h = k) (hl : (A ++ y :: B).length < 1073741824) (hlast : last < 1073741824) (hc : c + 2 * (A ++ y :: B).length < maxLen) :
    Calls Tryd.prog 55 #[.pointer (some ⟨b, 0, none⟩), .int .i64 k] W (TakeS W b mb N v c (A ++ y :: B).length last y.w (A ++ B)) := by
  obtain ⟨L, hL, hp, hs⟩ := h
  have hle := hp.length_eq
  obtain ⟨i, hi, e⟩ := List.mem_iff_getElem.1 (hp.mem_iff.2 (show y ∈ A ++ y :: B by simp))
  have h0 : at_ L i = y := by rw [at_get _ _ hi]; exact e
  refine (drop_yes hL i hi k (by rw [h0]; exact hk) (by omega) hlast (by omega)).mono ?_
  rintro e w' ⟨rfl, v', c', L', ht, hp', hc'⟩
  rw [h0] at hp' ⊢
  refine ⟨rfl, v', HeapIs.mono ⟨L', ht.at1, ((hp'.trans hp).trans List.perm_middle).cons_inv, ?_⟩ (by omega), ht.jump, ht.only⟩
  exact List.Pairwise.sublist (List.Sublist.append_left (List.sublist_cons_self _ _) _) hs
end
end Go.Proofs.YtobbmhboahognaaDoor
