/- A plain law of the walk: a region that draws its order, once some of its operations have come up: if all that are left only read, one walk in the order of the text serves every order. -/
import Derived.Deep.QuietTactic
import Derived.BigQuiet
import Derived.RegionTactic
import Derived.KernelRfl
namespace Go.Proofs.YtobbmhboahognaaDoor

theorem wpAny_quiet_from {P : Program} {ops : Array Oper} {Q : Exit → Act → World → Prop} {fuel : Nat} {listed : Array Bool} {a : Act} {w : World} (k : Nat)
    (hs : Region.noSelect ops = true) (hf : (ops.toList.drop k).length = fuel) (hB : Region.lexFrom .any ops (ops.toList.drop k).length k listed = true)
    (h : wpQuiet P ops (fun w' => ∃ n, w' = w.drewN n) (fun a' => ∀ w', (∃ n, w' = w.drewN n) → Q .normal a' w') (ops.toList.drop k) a) : wpAny P .any ops Q fuel listed a w := by
  subst hf
  refine wpAny_of_quiet (C := fun w' => ∃ n, w' = w.drewN n) (Q := fun a' => ∀ w', (∃ n, w' = w.drewN n) → Q .normal a' w') (fun _ w' hw' h => h w' hw') _ _ _ _ ⟨0, by simp [World.drewN_zero]⟩ ?_
  exact wpAnyQ_lex hs (ops.toList.drop k) k listed a (fun j => by simp [List.getElem?_drop]) hB h
end Go.Proofs.YtobbmhboahognaaDoor
