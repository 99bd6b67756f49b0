/- Regions that draw their order, read alone, and end in one chain of operations that may write: walked once, outside a loop over a function's values and inside one of its rounds. Nothing of the program. -/
import Derived.WalkKit
import Derived.StillTailTactics
import Derived.RangeFuncNested
import Derived.OrdersIn
import Derived.KernelRfl
namespace Go.Proofs.YtobbmhboahognaaDoor
open Go.RowKit
set_option linter.unusedVariables false

/-- Left in the ordinary way alone. -/
def JustNormal (Q : Exit → Act → World → Prop) : Exit → Act → World → Prop
  | .normal, a, w => Q .normal a w
  | _, _, _ => False
theorem justNormal_imp {Q : Exit → Act → World → Prop} : ∀ (e : Exit) (a : Act) (w : World), JustNormal Q e a w → Q e a w := fun e a w h => by
  cases e <;> first | exact h | exact (h : False).elim

theorem justNormal_mk {Q : Exit → Act → World → Prop} {a : Act} {w : World} (h : Q .normal a w) : JustNormal Q .normal a w := h

section
variable {P : Program} {l n : Nat} {next : Act → World → Prop} {Q : Exit → Act → World → Prop} {a : Act} {w : World}

theorem oper_round {o : Oper} (hd : ∀ c, o.op ≠ .defer c) (h : o.wp P a w next (JustNormal Q)) : o.wpIn (Fence.wide.inRound l) n P a w next (JustNormal Q) := by
  refine ⟨fun _ _ => trivial, ?_⟩
  rw [Oper.semAt_eq _ _ _ hd]
  unfold Oper.wp at h
  revert h
  generalize (execOp a.eval o).run P w = r
  cases r with
  | ok x w' =>
    cases x with
    | value v => exact id
    | skip => exact id
    | defer d => exact id
    | enter f args =>
      intro h
      refine ⟨fun h => (by cases h), (callsIn_wide.2 (show Calls P f args w' _ from h)).mono ?_⟩
      intro e w'' he
      cases e <;> exact he
    | row r args => intro h; exact ⟨fun h => (by cases h), fun c cs _ => let ⟨v, w'', r, s⟩ := h c cs; ⟨v, w'', r, stepsIn_wide.2 s⟩⟩
    | _ => intro h; exact (show False from h).elim
  | halt x w' => cases x <;> first | exact id | (intro h; exact (show False from h).elim)

def noDefer (ops : Array Oper) : Bool := ops.all fun o => match o.op with
  | .defer _ => false
  | _ => true
theorem noDefer_at {ops : Array Oper} (h : noDefer ops = true) {i : Nat} {o : Oper} (hi : ops[i]? = some o) : ∀ c, o.op ≠ .defer c := by
  intro c hc
  obtain ⟨hl, e⟩ := Array.getElem?_eq_some_iff.1 hi
  have := (Array.all_eq_true.1 h) i hl
  rw [e, hc] at this
  cases this
theorem any_round {md : Region.Mode} {ops : Array Oper} (hd : noDefer ops = true) : ∀ (fuel : Nat) (listed : Array Bool) (a : Act) (w : World), wpAny P md ops (JustNormal Q) fuel listed a w →
    wpAnyIn (Fence.wide.inRound l) n P md ops (JustNormal Q) fuel listed a w := by
  intro fuel
  induction fuel with
  | zero => exact fun listed a w h => h
  | succ fuel ih =>
    intro listed a w h
    refine ⟨h.1, fun i hi => ?_⟩
    have h1 := h.2 i hi
    unfold wpOp at h1
    unfold wpOpIn
    cases ho : ops[i]? with
    | none => rw [ho] at h1; exact ih _ _ _ h1
    | some o =>
      rw [ho] at h1
      simp only at h1 ⊢
      by_cases hw : Region.wanted o (yielded ops a.tmps) = true
      · rw [if_pos hw] at h1 ⊢
        rcases h1 with h1 | ⟨_, a0, w0, h1⟩
        · exact oper_round (noDefer_at hd ho) (Oper.wp_mono (fun a w h => ih _ a w h) h1)
        · exact (show False from h1).elim
      · rw [if_neg hw] at h1 ⊢
        exact ⟨fun _ _ => trivial, ih _ _ _ h1⟩

/-- All reads first, then the chain. -/
theorem any_tail {ops : List Oper} (k : Nat) (hB : Region.lexTailB .any ops.toArray k = true)
    (h : wpStill P ops.toArray w (fun a' => wpList P ops.toArray Q (ops.drop k) a' w) (ops.take k) a) : wpAny P .any ops.toArray Q ops.toArray.size (Array.replicate ops.toArray.size false) a w := by
  unfold Region.lexTailB at hB
  simp only [Bool.and_eq_true, decide_eq_true_eq] at hB
  obtain ⟨⟨⟨⟨b1, b2⟩, b3⟩, b4⟩, b5⟩ := hB
  have hk : k < ops.length := by simpa using b2
  have ht : (ops.take k).length = k := by simp; omega
  have hr : (ops.drop k).length = ops.toArray.size - k := by simp
  have i0 : HeadInv .any ops.toArray k (Array.replicate ops.toArray.size false) :=
    ⟨by simp, fun j oj _ hl => (by rw [getD_replicate_false] at hl; cases hl), fun t _ ht => getD_in (by simpa using ht) (getD_replicate_false _ _)⟩
  have H := wpAnyL_lex (md := .any) (g := ops.toArray.size - k) b1 b3 b4 b2 (ops.take k) 0 _ a
    (fun j hj => by rw [ht] at hj; simp [hj]) (by rw [ht]; omega) i0 (by rw [ht]; exact b5) h
  have G := wpAny_of_head (Q' := Q) (g := ops.toArray.size - k) (fun listed a' hL => by
    have := wpAny_of_seq (md := .any) (Q' := Q) (ops.drop k) k listed a' w (fun j => by simp [List.getElem?_drop]) (by rw [hr]; exact hL.1) hL.2
    rwa [hr] at this) _ _ _ H
  rw [ht, show k + (ops.toArray.size - k) = ops.toArray.size by omega] at G
  exact G
theorem region_tail {id : Nat} {ops : List Oper} (k : Nat) (hm : P.follows .mixedOrders = true) (hB : Region.lexTailB .any ops.toArray k = true)
    (h : wpStill P ops.toArray w.drew (fun a' => wpList P ops.toArray Q (ops.drop k) a' w.drew) (ops.take k) a) : (Code.region id ops.toArray true).wp P Q a w :=
  wp_region_any hm (any_tail k hB h)
theorem round_tail {id : Nat} {ops : List Oper} (k : Nat) (hm : P.follows .mixedOrders = true) (hB : Region.lexTailB .any ops.toArray k = true) (hd : noDefer ops.toArray = true)
    (h : wpStill P ops.toArray w.drew (fun a' => wpList P ops.toArray (JustNormal Q) (ops.drop k) a' w.drew) (ops.take k) a) : (Code.region id ops.toArray true).wpIn (Fence.wide.inRound l) n P Q a w :=
  wpIn_mono (wpIn_region_any hm (any_round hd _ _ _ _ (any_tail k hB h))) justNormal_imp
/-- The walk over the reads, under a name that no tactic unfolds by itself (guarded operations). -/
structure WS (P : Program) (ops : Array Oper) (w : World) (L : Act → Prop) (l : List Oper) (a : Act) : Prop where
  out : wpStill P ops w L l a
theorem WS.want {ops : Array Oper} {L : Act → Prop} {o : Oper} {rest : List Oper} (hw : Region.wanted o (yielded ops a.tmps) = true) (h : ∀ K : Act → Prop, (∀ a, WS P ops w L rest a → K a) → o.still P a w K) : WS P ops w L (o :: rest) a :=
  ⟨wpStill_step fun K hK => by rw [if_pos hw]; exact h K fun a ha => hK a ha.out⟩
theorem WS.skip {ops : Array Oper} {L : Act → Prop} {o : Oper} {rest : List Oper} (hw : Region.wanted o (yielded ops a.tmps) = false) (h : ∀ K : Act → Prop, (∀ a, WS P ops w L rest a → K a) → K (a.put o.dst undef)) : WS P ops w L (o :: rest) a :=
  ⟨wpStill_step fun K hK => by rw [if_neg (by rw [hw]; simp)]; exact h K fun a ha => hK a ha.out⟩
theorem WS.nil {ops : Array Oper} {L : Act → Prop} (h : L a) : WS P ops w L [] a := ⟨wpStill_nil h⟩
theorem region_tail2 {id : Nat} {ops : List Oper} (k : Nat) (hm : P.follows .mixedOrders = true) (hB : Region.lexTailB .any ops.toArray k = true)
    (h : WS P ops.toArray w.drew (fun a' => wpList P ops.toArray Q (ops.drop k) a' w.drew) (ops.take k) a) : (Code.region id ops.toArray true).wp P Q a w := region_tail k hm hB h.out
end
end Go.Proofs.YtobbmhboahognaaDoor
