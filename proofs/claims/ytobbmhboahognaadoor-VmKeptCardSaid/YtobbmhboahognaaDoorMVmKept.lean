/- A law of drawn regions; the statements' frames with return places; what VmKept keeps; its walk (layer 6). The condition: the library's variable errors.errorType holds the type error. -/
import Derived.OrdersHeld
import Derived.Deep.RegionHeld
import Derived.KernelRfl
import Derived.Test.YtobbmhboahognaaDoorVmCopied
import Derived.Test.YtobbmhboahognaaDoorVmNewFrame
import Derived.Deep.RegionLaw
import Derived.Test.YtobbmhboahognaaDoorVmAwake
import Derived.Test.YtobbmhboahognaaDoorVmStepB
import Derived.Test.YtobbmhboahognaaDoorVmArr
import Derived.Test.YtobbmhboahognaaDoorKeepIn
import Derived.Test.YtobbmhboahognaaDoorMemCount
import Derived.Test.YtobbmhboahognaaDoorLawClose
import Derived.Test.YtobbmhboahognaaDoorProg
import Derived.WalkKit
import Derived.WalkSpells
import Derived.WalkLawsBesides
import Derived.Lib.Hide
import Derived.Deep.Cut
import Derived.Deep.QuietTactic
import Derived.BigQuiet
import Derived.Test.YtobbmhboahognaaDoorKeepWithin
import Derived.Test.YtobbmhboahognaaDoorSameAt
import Derived.Deep.RegionHeld3
namespace Go.Proofs.YtobbmhboahognaaDoor
open Go
section
variable {P : Program} {ops : Array Oper} {Q : Exit → Act → World → Prop} {md : Region.Mode} {S : World → Prop} {Z : List Nat}

/-- None of the operations Z has come up. -/
def NoneOf (Z : List Nat) (listed : Array Bool) : Prop := ∀ z ∈ Z, listed.getD z true = false
/-- Whatever order is picked from here on, and S holds behind every operation that comes up ahead of those of Z. -/
def wpAnyU (P : Program) (md : Region.Mode) (ops : Array Oper) (Q : Exit → Act → World → Prop) (S : World → Prop) (Z : List Nat) : Nat → Array Bool → Act → World → Prop
  | 0, listed, a, w => Region.ready md ops listed = [] ∧ Q .normal a w
  | fuel + 1, listed, a, w =>
    (Region.ready md ops listed = [] → Q .normal a w) ∧
    ∀ i ∈ Region.ready md ops listed, wpOp P ops Q i (fun a' w' => (NoneOf Z (listed.setIfInBounds i true) → S w') ∧ wpAnyU P md ops Q S Z fuel (listed.setIfInBounds i true) a' w') a w
theorem wpAny_of_until : ∀ (fuel : Nat) (listed : Array Bool) (a : Act) (w : World), wpAnyU P md ops Q S Z fuel listed a w → wpAny P md ops Q fuel listed a w
  | 0, _, _, _, h => h
  | fuel + 1, _, _, _, h => ⟨h.1, fun i hi => wpOp_mono (fun a' w' h' => wpAny_of_until fuel _ a' w' h'.2) (h.2 i hi)⟩
/-- Each of Z waits for number i. -/
def waitsB (md : Region.Mode) (ops : Array Oper) (Z : List Nat) (i : Nat) : Bool := Z.all fun z => z != i && ((ops[z]?).map (·.after.any fun e => Region.binds md e && e.on == i)).getD false
theorem waits_spec {i z : Nat} (h : waitsB md ops Z i = true) (hz : z ∈ Z) : z ≠ i ∧ ∃ oz, ops[z]? = some oz ∧ ∃ e ∈ oz.after, Region.binds md e = true ∧ e.on = i := by
  unfold waitsB at h
  have h1 := List.all_eq_true.1 h z hz
  simp only [Bool.and_eq_true, bne_iff_ne, ne_eq] at h1
  refine ⟨h1.1, ?_⟩
  cases ho : ops[z]? with
  | none => rw [ho] at h1; simp at h1
  | some oz =>
    rw [ho] at h1
    simp only [Option.map_some, Option.getD_some] at h1
    obtain ⟨e, he, hb⟩ := Array.any_eq_true'.1 h1.2
    simp only [Bool.and_eq_true, beq_iff_eq] at hb
    exact ⟨oz, rfl, e, he, hb.1, hb.2⟩
theorem wpAnyU_first {i : Nat} {oi : Oper} {v : Value} (hi : ops[i]? = some oi) (hsel : ∀ (j : Nat) (o : Oper) cs b, ops[j]? = some o → o.op ≠ .select cs b)
    (hQ : ∀ c a w, Q (.panic c) (a.put oi.dst v) w → Q (.panic c) a w) (hZ : waitsB md ops Z i = true) :
    ∀ (fuel : Nat) (listed : Array Bool) (a : Act) (w : World),
      (∀ j oj, ops[j]? = some oj → j ≠ i → listed.getD j true = false → (∀ e ∈ oj.after, Region.binds md e = true → e.on ≠ i) → oi.apart ops oj = true) →
      i ∈ Region.ready md ops listed → YieldsIf P ops S oi v a → S w → NoneOf Z listed →
      wpAnyU P md ops Q S Z fuel (listed.setIfInBounds i true) (a.put oi.dst v) w → wpAnyU P md ops Q S Z (fuel + 1) listed a w := by
  intro fuel
  induction fuel with
  | zero =>
    intro listed a w _ hr hy hS hU H
    refine ⟨fun h => (by rw [h] at hr; cases hr), fun j hj => ?_⟩
    by_cases hji : j = i
    · subst hji; exact hy.wpOp hi hS ⟨fun _ => hS, H⟩
    · have := ready_mono hj hji
      rw [H.1] at this
      cases this
  | succ fuel ih =>
    intro listed a w hfree hr hy hS hU H
    refine ⟨fun h => (by rw [h] at hr; cases hr), fun j hj => ?_⟩
    by_cases hji : j = i
    · subst hji; exact hy.wpOp hi hS ⟨fun _ => hS, H⟩
    · have h1 := H.2 j (ready_mono hj hji)
      obtain ⟨hjun, oj, hoj, hall⟩ := mem_ready.1 hj
      have hnot : ∀ e ∈ oj.after, Region.binds md e = true → e.on ≠ i := fun e he hb heq => by
        have h1 := hall e he hb
        have h0 := (mem_ready.1 hr).1
        rw [heq] at h1
        rcases Nat.lt_or_ge i listed.size with h' | h'
        · simp [h'] at h0 h1; rw [h0] at h1; cases h1
        · simp [Array.getElem?_eq_none h'] at h1
      have hjZ : j ∉ Z := fun hz => by
        obtain ⟨_, oz, hoz, e, he, hb, hon⟩ := waits_spec hZ hz
        rw [hoj] at hoz; cases hoz
        exact hnot e he hb hon
      have hU1 : NoneOf Z (listed.setIfInBounds j true) := fun z hz => by
        rw [getD_set_ne true (show j ≠ z from fun e => hjZ (by rw [e]; exact hz))]; exact hU z hz
      have hU2 : NoneOf Z ((listed.setIfInBounds i true).setIfInBounds j true) := fun z hz => by
        rw [getD_set_ne true (show j ≠ z from fun e => hjZ (by rw [e]; exact hz)), getD_set_ne true (show i ≠ z from fun e => (waits_spec hZ hz).1 e.symm)]; exact hU z hz
      have h2 := wpOp_putIf hoj (hfree j oj hoj hji hjun hnot) (fun cs b => hsel i oi cs b hi) (fun cs b => hsel j oj cs b hoj) hQ hy h1
      have hfree' : ∀ k ok, ops[k]? = some ok → k ≠ i → (listed.setIfInBounds j true).getD k true = false →
          (∀ e ∈ ok.after, Region.binds md e = true → e.on ≠ i) → oi.apart ops ok = true := fun k ok hk hki hun hno => by
        refine hfree k ok hk hki ?_ hno
        by_cases hjk : j = k
        · subst hjk; exact hjun
        · rw [getD_set_ne true hjk] at hun; exact hun
      refine wpOp_mono (fun a' w' h3 => ⟨fun _ => h3.2.1 hU2, ih (listed.setIfInBounds j true) a' w' hfree' (ready_mono hr (Ne.symm hji)) h3.1 (h3.2.1 hU2) hU1 ?_⟩) h2
      rw [Array.setIfInBounds_comm _ _ hji]
      exact h3.2.2
theorem wpAnyU_take {i : Nat} {oi : Oper} {v : Value} {fuel : Nat} {listed : Array Bool} {a : Act} {w : World} (hi : ops[i]? = some oi)
    (hs : Region.noSelect ops = true) (hf : Region.free md ops listed i = true) (hr : (Region.ready md ops listed).contains i = true) (hZ : waitsB md ops Z i = true) (hU : Z.all (fun z => !listed.getD z true) = true)
    (hQ : ∀ c a w, Q (.panic c) (a.put oi.dst v) w → Q (.panic c) a w) (hy : YieldsIf P ops S oi v a) (hS : S w)
    (h : wpAnyU P md ops Q S Z fuel (listed.setIfInBounds i true) (a.put oi.dst v) w) : wpAnyU P md ops Q S Z (fuel + 1) listed a w :=
  wpAnyU_first hi (Region.noSelect_spec hs) hQ hZ fuel listed a w (Region.free_spec hi hf) (by simpa using hr) hy hS (fun z hz => by simpa using List.all_eq_true.1 hU z hz) h
theorem wpAnyU_firstP {i : Nat} {oi : Oper} {v : Value} (hi : ops[i]? = some oi) (hsel : ∀ (j : Nat) (o : Oper) cs b, ops[j]? = some o → o.op ≠ .select cs b)
    (hQ : ∀ c a w, Q (.panic c) (a.put oi.dst v) w → Q (.panic c) a w) (hiZ : i ∉ Z) :
    ∀ (fuel : Nat) (listed : Array Bool) (a : Act) (w : World),
      (∀ j oj, ops[j]? = some oj → j ≠ i → listed.getD j true = false → (∀ e ∈ oj.after, Region.binds md e = true → e.on ≠ i) → oi.apart ops oj = true) →
      i ∈ Region.ready md ops listed → YieldsIf P ops (fun _ => True) oi v a → (NoneOf Z listed → S w) →
      wpAnyU P md ops Q S Z fuel (listed.setIfInBounds i true) (a.put oi.dst v) w → wpAnyU P md ops Q S Z (fuel + 1) listed a w := by
  have key : ∀ (l : Array Bool), NoneOf Z (l.setIfInBounds i true) ↔ NoneOf Z l := fun l => by
    constructor
    · intro h z hz
      have := h z hz
      rwa [getD_set_ne true (show i ≠ z from fun e => hiZ (by rw [e]; exact hz))] at this
    · intro h z hz
      rw [getD_set_ne true (show i ≠ z from fun e => hiZ (by rw [e]; exact hz))]; exact h z hz
  intro fuel
  induction fuel with
  | zero =>
    intro listed a w _ hr hy hS H
    refine ⟨fun h => (by rw [h] at hr; cases hr), fun j hj => ?_⟩
    by_cases hji : j = i
    · subst hji; exact hy.wpOp hi trivial ⟨fun hN => hS ((key _).1 hN), H⟩
    · have := ready_mono hj hji
      rw [H.1] at this
      cases this
  | succ fuel ih =>
    intro listed a w hfree hr hy hS H
    refine ⟨fun h => (by rw [h] at hr; cases hr), fun j hj => ?_⟩
    by_cases hji : j = i
    · subst hji; exact hy.wpOp hi trivial ⟨fun hN => hS ((key _).1 hN), H⟩
    · have h1 := H.2 j (ready_mono hj hji)
      obtain ⟨hjun, oj, hoj, hall⟩ := mem_ready.1 hj
      have hnot : ∀ e ∈ oj.after, Region.binds md e = true → e.on ≠ i := fun e he hb heq => by
        have h1 := hall e he hb
        have h0 := (mem_ready.1 hr).1
        rw [heq] at h1
        rcases Nat.lt_or_ge i listed.size with h' | h'
        · simp [h'] at h0 h1; rw [h0] at h1; cases h1
        · simp [Array.getElem?_eq_none h'] at h1
      have h2 := wpOp_putIf hoj (hfree j oj hoj hji hjun hnot) (fun cs b => hsel i oi cs b hi) (fun cs b => hsel j oj cs b hoj) hQ hy h1
      have hfree' : ∀ k ok, ops[k]? = some ok → k ≠ i → (listed.setIfInBounds j true).getD k true = false →
          (∀ e ∈ ok.after, Region.binds md e = true → e.on ≠ i) → oi.apart ops ok = true := fun k ok hk hki hun hno => by
        refine hfree k ok hk hki ?_ hno
        by_cases hjk : j = k
        · subst hjk; exact hjun
        · rw [getD_set_ne true hjk] at hun; exact hun
      have sw : ∀ w', (NoneOf Z ((listed.setIfInBounds i true).setIfInBounds j true) → S w') → NoneOf Z (listed.setIfInBounds j true) → S w' := fun w' h hN => h (by
        rw [Array.setIfInBounds_comm _ _ (Ne.symm hji)]; exact (key _).2 hN)
      refine wpOp_mono (fun a' w' h3 => ⟨sw w' h3.2.1, ih (listed.setIfInBounds j true) a' w' hfree' (ready_mono hr (Ne.symm hji)) h3.1 (sw w' h3.2.1) ?_⟩) h2
      rw [Array.setIfInBounds_comm _ _ hji]
      exact h3.2.2
/-- What yields in whatever world is taken first, S being as it is. -/
theorem wpAnyU_takeP {i : Nat} {oi : Oper} {v : Value} {fuel : Nat} {listed : Array Bool} {a : Act} {w : World} (hi : ops[i]? = some oi)
    (hs : Region.noSelect ops = true) (hf : Region.free md ops listed i = true) (hr : (Region.ready md ops listed).contains i = true) (hZ : Z.contains i = false)
    (hQ : ∀ c a w, Q (.panic c) (a.put oi.dst v) w → Q (.panic c) a w) (hy : YieldsIf P ops (fun _ => True) oi v a) (hS : S w)
    (h : wpAnyU P md ops Q S Z fuel (listed.setIfInBounds i true) (a.put oi.dst v) w) : wpAnyU P md ops Q S Z (fuel + 1) listed a w :=
  wpAnyU_firstP hi (Region.noSelect_spec hs) hQ (by simpa using hZ) fuel listed a w (Region.free_spec hi hf) (by simpa using hr) hy (fun _ => hS) h
/-- The same, once one of Z has come up. -/
theorem wpAnyU_takeQ {i : Nat} {oi : Oper} {v : Value} {fuel : Nat} {listed : Array Bool} {a : Act} {w : World} (hi : ops[i]? = some oi)
    (hs : Region.noSelect ops = true) (hf : Region.free md ops listed i = true) (hr : (Region.ready md ops listed).contains i = true) (hZ : Z.contains i = false) (hU : Z.any (fun z => listed.getD z true) = true)
    (hQ : ∀ c a w, Q (.panic c) (a.put oi.dst v) w → Q (.panic c) a w) (hy : YieldsIf P ops (fun _ => True) oi v a)
    (h : wpAnyU P md ops Q S Z fuel (listed.setIfInBounds i true) (a.put oi.dst v) w) : wpAnyU P md ops Q S Z (fuel + 1) listed a w :=
  wpAnyU_firstP hi (Region.noSelect_spec hs) hQ (by simpa using hZ) fuel listed a w (Region.free_spec hi hf) (by simpa using hr) hy (fun hN => by
    obtain ⟨z, hz, hl⟩ := List.any_eq_true.1 hU
    have := hN z hz
    rw [this] at hl; cases hl) h
/-- Each of the operations 'rs' comes up next. -/
def AllReadyU (P : Program) (md : Region.Mode) (ops : Array Oper) (Q : Exit → Act → World → Prop) (S : World → Prop) (Z : List Nat) (fuel : Nat) (listed : Array Bool) (a : Act) (w : World) (rs : List Nat) : Prop :=
  ∀ i ∈ rs, wpOp P ops Q i (fun a' w' => (NoneOf Z (listed.setIfInBounds i true) → S w') ∧ wpAnyU P md ops Q S Z fuel (listed.setIfInBounds i true) a' w') a w
theorem AllReadyU.nil {fuel : Nat} {listed : Array Bool} {a : Act} {w : World} : AllReadyU P md ops Q S Z fuel listed a w [] := fun _ h => by cases h
theorem AllReadyU.cons {fuel : Nat} {listed : Array Bool} {a : Act} {w : World} {i : Nat} {o : Oper} {rs : List Nat} (ho : ops[i]? = some o)
    (h : ∀ K' : Act → World → Prop, Shut (∀ a w, S w → wpAnyU P md ops Q S Z fuel (listed.setIfInBounds i true) a w → K' a w) → if Region.wanted o (yielded ops a.tmps) = true then Oper.wp P o a w K' Q else K' (a.put o.dst undef) w)
    (hs : AllReadyU P md ops Q S Z fuel listed a w rs) : AllReadyU P md ops Q S Z fuel listed a w (i :: rs) := fun j hj => by
  rcases List.mem_cons.1 hj with rfl | hj
  · exact wpOp_step ho (fun K' hK => h K' (fun a w hS hW => hK a w ⟨fun _ => hS, hW⟩))
  · exact hs j hj
/-- An operation of Z: nothing is asked behind it. -/
theorem AllReadyU.consZ {fuel : Nat} {listed : Array Bool} {a : Act} {w : World} {i : Nat} {o : Oper} {rs : List Nat} (ho : ops[i]? = some o) (hz : Z.contains i = true) (hl : decide (i < listed.size) = true)
    (h : ∀ K' : Act → World → Prop, Shut (∀ a w, wpAnyU P md ops Q S Z fuel (listed.setIfInBounds i true) a w → K' a w) → if Region.wanted o (yielded ops a.tmps) = true then Oper.wp P o a w K' Q else K' (a.put o.dst undef) w)
    (hs : AllReadyU P md ops Q S Z fuel listed a w rs) : AllReadyU P md ops Q S Z fuel listed a w (i :: rs) := fun j hj => by
  rcases List.mem_cons.1 hj with rfl | hj
  · refine wpOp_step ho (fun K' hK => h K' (fun a w hW => hK a w ⟨fun hN => ?_, hW⟩))
    have := hN j (by simpa using hz)
    rw [Array.getD_eq_getD_getElem?] at this
    simp [of_decide_eq_true hl] at this
  · exact hs j hj
theorem wpAnyU_ready {rs : List Nat} {fuel : Nat} {listed : Array Bool} {a : Act} {w : World} (hr : Region.ready md ops listed = rs) (hne : rs ≠ [])
    (h : AllReadyU P md ops Q S Z fuel listed a w rs) : wpAnyU P md ops Q S Z (fuel + 1) listed a w := ⟨fun h0 => absurd (hr ▸ h0) hne, hr ▸ h⟩
theorem wpAnyU_done {listed : Array Bool} {a : Act} {w : World} (hr : Region.ready md ops listed = []) (h : Q .normal a w) : ∀ fuel, wpAnyU P md ops Q S Z fuel listed a w
  | 0 => ⟨hr, h⟩
  | _ + 1 => ⟨fun _ => h, by rw [hr]; simp⟩
theorem wp_region_until (Z : List Nat) (S : World → Prop) {id : Nat} {a : Act} {w : World} (hm : P.follows .mixedOrders = true)
    (h : wpAnyU P .any ops Q S Z ops.size (Array.replicate ops.size false) a w.drew) : (Code.region id ops true).wp P Q a w :=
  wp_region_any hm (wpAny_of_until _ _ _ _ h)
end
end Go.Proofs.YtobbmhboahognaaDoor

namespace Go.Proofs.YtobbmhboahognaaDoor
open Go.RowKit
set_option linter.unusedVariables false

theorem addV0 (g j : Nat) : (⟨g, 0, none⟩ : Addr).add j = ⟨g, j, none⟩ := by unfold Addr.add; split <;> simp_all
theorem onlyV_of_grown {w w' : World} {v : Value} (h : w.grownBy w' v.ownBlock) : Only v.ownBlock.toList w w' := ⟨h.os, h.tape, h.output, h.size, fun k hk hn => h.block k hk (fun e => hn (by rw [← e]; simp))⟩
theorem ownI_only {F : List Nat} {W W' : World} {B : Nat} {v : Value} {zs : List Int} (h : OwnI W B v zs) (ho : Only F W W') (hF : ∀ k, v.ownBlock = some k → k ∉ F) : OwnI W' B v zs := by
  refine ⟨h.1, ?_⟩
  rcases h.2 with hn | ⟨g, cap, cur, rfl, hb, hgg, rest⟩
  · exact .inl hn
  · exact .inr ⟨g, cap, cur, rfl, hb, (ho.block g (Array.getElem?_eq_some_iff.1 hgg).1 (hF g rfl)).trans hgg, rest⟩
theorem OwnI.lts {W : World} {B : Nat} {v : Value} {zs : List Int} (h : OwnI W B v zs) : ∀ k, v.ownBlock = some k → B ≤ k ∧ k < W.heap.size := World.ownsRow.lt h
/-- One number behind the others, out of a block of its own; another slice is as it was. -/
theorem addInt_at {W : World} {B q : Nat} {v u : Value} {bs cs : List Int} (x : Int) (ov : OwnI W B v bs) (ou : OwnI W B u cs) (hap : ∀ k, v.ownBlock = some k → u.ownBlock ≠ some k) (hq : W.heap[q]? = some (.cells #[.int .i64 x] 3 (0, 0))) (hB : B ≤ W.heap.size) (hs : bs.length ≤ 100) :
    ∃ ad c W1, (∀ ty, (Builtin.append_ #[24, 24] ty #[v, .slice (some ⟨q, 0, none⟩) 1 1]).run Tryd.prog W = .ok (.slice ad (bs.length + 1) c) W1) ∧ OwnI W1 B (.slice ad (bs.length + 1) c) (bs ++ [x]) ∧ OwnI W1 B u cs ∧ (∀ k, (Value.slice ad (bs.length + 1) c).ownBlock = some k → u.ownBlock ≠ some k) ∧ Only v.ownBlock.toList W W1 := by
  obtain ⟨i0, hi0, hz0, hz1, hz2⟩ := info_parts info_vi
  have hsrc : ∀ j u, ([.int .i64 x] : List Value)[j]? = some u → W.cell? ((⟨q, 0, none⟩ : Addr).add j) = some u := fun j u hu => by
    rw [addV0, cell_of_row W q j _ _ (0, 0) hq]
    simpa using hu
  have h1 : ∀ u ∈ ([.int .i64 x] : List Value), u.oneCell' = true := by intro u hu; simp at hu; subst hu; rfl
  have hm : bs.length + 1 ≤ maxLen := by unfold maxLen; omega
  obtain ⟨v', w', hr, h2, h3, h4⟩ := run_append_own (P := Tryd.prog) W B 24 24 3 i0 _ 1 8 Tryd.underlying24 hi0 hz0 hz1 hz2 rfl (by decide) v bs.length _ ov ⟨q, 0, none⟩ 1 1 [.int .i64 x] rfl hsrc h1 hm (by omega) hB
  have hon := onlyV_of_grown h3
  have hj : ∀ k, v'.ownBlock = some k → v.ownBlock = some k ∨ W.heap.size ≤ k := by
    intro k hk
    rcases ov.2 with ⟨rfl, e⟩ | ⟨g, cap, cur, rfl, hb, hgg, hn, hmc, hsz, ht⟩
    · obtain ⟨v2, w2, hr2, k2, _, _⟩ := run_append_own (P := Tryd.prog) W W.heap.size 24 24 3 i0 _ 1 8 Tryd.underlying24 hi0 hz0 hz1 hz2 rfl (by decide) (.slice none 0 0) 0 [] (World.ownsRow_nil _ _ _ _) ⟨q, 0, none⟩ 1 1 [.int .i64 x] rfl hsrc h1 (by unfold maxLen; omega) (by omega) (Nat.le_refl _)
      rw [hr] at hr2
      cases hr2
      exact .inr (k2.lt k hk).1
    · by_cases hroom : bs.length + 1 ≤ cap
      · have hr2 := run_append_room (P := Tryd.prog) W 24 24 3 i0 Tryd.underlying24 hi0 g bs.length cap cur hgg ⟨q, 0, none⟩ 1 1 [.int .i64 x] (by rw [hz1]; rfl) hsrc h1 hroom (by rw [hz1, hsz]; simp; omega)
        rw [hr] at hr2
        cases hr2
        exact .inl hk
      · have hr2 := run_append_grow (P := Tryd.prog) W 24 24 3 i0 _ Tryd.underlying24 hi0 hz0 ⟨g, 0, none⟩ bs.length cap (bs.map (Value.int .i64)) (by rw [hz1, List.length_map]; simp) (by exact World.ownsRow.cells ov (g := g) rfl) ⟨q, 0, none⟩ 1 1 [.int .i64 x] (by rw [hz1]; rfl) hsrc (by omega) (by omega) (by rw [hz2]; exact growslice_fits (by omega) (by omega))
        rw [hr] at hr2
        cases hr2
        refine .inr ?_
        simp only [Value.ownBlock, Option.some.injEq] at hk
        omega
  obtain ⟨ad, c, rfl⟩ : ∃ ad c, v' = .slice ad (bs.length + 1) c := by
    rcases h2.2 with ⟨hv, hn⟩ | ⟨g, cap, cur, hv, _⟩
    · omega
    · exact ⟨_, _, hv⟩
  refine ⟨ad, c, w', fun ty => hr, ?_, ownI_only ou hon (fun k hk hm => hap k (by simpa using hm) hk), fun k hk e => ?_, hon⟩
  · unfold OwnI
    rw [List.length_append, List.map_append]
    exact h2
  · rcases hj k hk with e2 | e2
    · exact hap k e2 e
    · have := (ou.lts k e).2; omega

/-- A frame's cells, its slice as a value. -/
def csV (pc : Int) (r : List Int) (v : Value) : List Value := .int .i64 pc :: (r.map (Value.int .u64) ++ [v])
theorem csV_length (pc : Int) (r : List Int) (v : Value) (h : r.length = 32) : (csV pc r v).length = 34 := by simp [csV, h]
theorem csV_get (pc : Int) (r : List Int) (v : Value) (h : r.length = 32) : (csV pc r v)[33]? = some v := by
  rw [csV, List.getElem?_cons_succ, List.getElem?_append_right (by rw [List.length_map]; omega)]
  simp [h]
theorem csV_set (pc : Int) (r : List Int) (v v' : Value) (h : r.length = 32) : (csV pc r v).set 33 v' = csV pc r v' := by
  rw [csV, List.set_cons_succ, List.set_append_right _ _ (by rw [List.length_map]; omega), csV]
  simp [h]
/-- Two frames that hold the same, made since w. -/
structure TwoB (w W : World) (b : Nat) (pc : Int) (r bs : List Int) (v1 v2 : Value) : Prop where
  r1 : Row W b (csV pc r v1)
  r2 : Row W (b + 1) (csV pc r v2)
  o1 : OwnI W (b + 2) v1 bs
  o2 : OwnI W (b + 2) v2 bs
  ap : ∀ k, v1.ownBlock = some k → v2.ownBlock ≠ some k
  len : r.length = 32
  bel : Below b w W
  hb : b = w.heap.size
/-- Both slices have one number more. -/
structure MidB (W Wf : World) (B : Nat) (bs : List Int) (v1 v2 v1' v2' : Value) : Prop where
  o1 : OwnI Wf B v1' bs
  o2 : OwnI Wf B v2' bs
  ap : ∀ k, v1'.ownBlock = some k → v2'.ownBlock ≠ some k
  on : Only (v1.ownBlock.toList ++ v2.ownBlock.toList) W Wf
section
variable {w W Wf : World} {b : Nat} {pc : Int} {r bs bs' : List Int} {v1 v2 v1' v2' : Value}
theorem TwoB.c1 (h : TwoB w W b pc r bs v1 v2) : W.cell? ⟨b, 33, none⟩ = some v1 := by
  rw [h.r1.cell 33 (by rw [csV_length _ _ _ h.len]; omega), ← List.getElem?_eq_getElem]; exact csV_get pc r v1 h.len
theorem TwoB.c2 (h : TwoB w W b pc r bs v1 v2) : W.cell? ⟨b + 1, 33, none⟩ = some v2 := by
  rw [h.r2.cell 33 (by rw [csV_length _ _ _ h.len]; omega), ← List.getElem?_eq_getElem]; exact csV_get pc r v2 h.len
theorem TwoB.part (h : TwoB w W b pc r bs v1 v2) (on : Only (v1.ownBlock.toList ++ v2.ownBlock.toList) W Wf) : Row Wf b (csV pc r v1) ∧ Row Wf (b + 1) (csV pc r v2) ∧ Below b w Wf ∧ b + 1 < Wf.heap.size ∧ Wf.cell? ⟨b, 33, none⟩ = some v1 ∧ Wf.cell? ⟨b + 1, 33, none⟩ = some v2 ∧ Wf.frozen? ⟨b, 33, none⟩ = false ∧ Wf.frozen? ⟨b + 1, 33, none⟩ = false := by
  have hl : ∀ k ∈ v1.ownBlock.toList ++ v2.ownBlock.toList, b + 2 ≤ k := fun k hk => by
    rcases List.mem_append.1 hk with hk | hk
    · exact (h.o1.lts k (by simpa using hk)).1
    · exact (h.o2.lts k (by simpa using hk)).1
  have q1 := h.r1.only on (fun hk => by have := hl b hk; omega)
  have q2 := h.r2.only on (fun hk => by have := hl (b + 1) hk; omega)
  refine ⟨q1, q2, h.bel.trans (on.below (fun k hk => by have := hl k hk; omega) (by have := h.r1.lt; omega)), q2.lt, ?_, ?_, q1.free 33 (by rw [csV_length _ _ _ h.len]; omega), q2.free 33 (by rw [csV_length _ _ _ h.len]; omega)⟩
  · rw [q1.cell 33 (by rw [csV_length _ _ _ h.len]; omega), ← List.getElem?_eq_getElem]; exact csV_get pc r v1 h.len
  · rw [q2.cell 33 (by rw [csV_length _ _ _ h.len]; omega), ← List.getElem?_eq_getElem]; exact csV_get pc r v2 h.len
/-- What a region's walk wants of a world on its way. -/
theorem TwoB.way (h : TwoB w W b pc r bs v1 v2) (on : Only (v1.ownBlock.toList ++ v2.ownBlock.toList) W Wf) {p : Addr} {x : Value} (hp : p.block < b) (hc : w.cell? p = some x) :
    Wf.cell? ⟨b, 33, none⟩ = some v1 ∧ Wf.cell? ⟨b + 1, 33, none⟩ = some v2 ∧ Wf.cell? p = some x ∧ Wf.frozen? ⟨b, 33, none⟩ = false ∧ Wf.frozen? ⟨b + 1, 33, none⟩ = false ∧ b < Wf.heap.size ∧ b + 1 < Wf.heap.size := by
  obtain ⟨_, _, q3, q4, q5, q6, q7, q8⟩ := h.part on
  exact ⟨q5, q6, by rw [q3.cell (by omega)]; exact hc, q7, q8, by omega, q4⟩
theorem mid_fg {wr Wa W1 Wb W2 : World} {B : Nat} (h0 : Only [] wr Wa) (a4 : Only v1.ownBlock.toList Wa W1) (h1 : Only [] W1 Wb) (c4 : Only v2.ownBlock.toList Wb W2) (c1 : OwnI W2 B v2' bs) (c2 : OwnI W2 B v1' bs) (c3 : ∀ k, v2'.ownBlock = some k → v1'.ownBlock ≠ some k) : MidB wr W2 B bs v1 v2 v1' v2' :=
  ⟨c2, c1, fun k h e => c3 k e h, (((h0.mono (by simp)).trans (a4.mono (fun k hk => List.mem_append_left _ hk))).trans (h1.mono (by simp))).trans (c4.mono (fun k hk => List.mem_append_right _ hk))⟩
theorem mid_gf {wr Wa W1 Wb W2 : World} {B : Nat} (h0 : Only [] wr Wa) (a4 : Only v2.ownBlock.toList Wa W1) (h1 : Only [] W1 Wb) (c4 : Only v1.ownBlock.toList Wb W2) (c1 : OwnI W2 B v1' bs) (c2 : OwnI W2 B v2' bs) (c3 : ∀ k, v1'.ownBlock = some k → v2'.ownBlock ≠ some k) : MidB wr W2 B bs v1 v2 v1' v2' :=
  ⟨c1, c2, c3, (((h0.mono (by simp)).trans (a4.mono (fun k hk => List.mem_append_right _ hk))).trans (h1.mono (by simp))).trans (c4.mono (fun k hk => List.mem_append_left _ hk))⟩
theorem on_f {wr Wa W1 : World} (h0 : Only [] wr Wa) (a4 : Only v1.ownBlock.toList Wa W1) : Only (v1.ownBlock.toList ++ v2.ownBlock.toList) wr W1 := (h0.mono (by simp)).trans (a4.mono (fun k hk => List.mem_append_left _ hk))
theorem on_g {wr Wa W1 : World} (h0 : Only [] wr Wa) (a4 : Only v2.ownBlock.toList Wa W1) : Only (v1.ownBlock.toList ++ v2.ownBlock.toList) wr W1 := (h0.mono (by simp)).trans (a4.mono (fun k hk => List.mem_append_right _ hk))
/-- A block that an append left alone. -/
theorem blk_kept {Wa W1 : World} {v : Value} {q : Nat} {o : Obj} (h : Wa.heap[q]? = some o) (a4 : Only v.ownBlock.toList Wa W1) (hq : ∀ k, v.ownBlock = some k → k < q) : W1.heap[q]? = some o :=
  (a4.block q (Array.getElem?_eq_some_iff.1 h).1 (fun hk => by have := hq q (by simpa using hk); omega)).trans h
theorem only_drew (W : World) : Only [] W W.drew := (Only.refl [] W).drew
theorem step_callV {ops : Array Oper} {o : Oper} {a : Act} {K : Act → World → Prop} {Q : Exit → Act → World → Prop} {E : Prop} (hg : o.guard = none) (d x : Operand) (dT sT : TypeId) (hop : o.op = Op.call { callee := Callee.builtin Builtin.append, args := #[d, x], argTypes := #[dT, sT] })
    (v u : Value) (hd : a.eval d = v) (hx : a.eval x = u) {v' : Value} {w w' : World} (hr : (Builtin.append_ #[dT, sT] o.type #[v, u]).run Tryd.prog w = .ok v' w') (hK : K (a.put o.dst v') w') :
    if Region.wanted o (yielded ops a.tmps) = true then Oper.wp Tryd.prog o a w K Q else E := by
  have hw : Region.wanted o (yielded ops a.tmps) = true := by simp [Region.wanted, hg]
  rw [if_pos hw]
  unfold Oper.wp
  simp [execOp, hop, resolve, invoke, builtin, hd, hx, hr, Result.andThen]
  exact hK
theorem TwoB.next (h : TwoB w W b pc r bs v1 v2) (m : MidB W Wf (b + 2) bs' v1 v2 v1' v2') :
    TwoB w ((Wf.setCell ⟨b, 33, none⟩ v1').setCell ⟨b + 1, 33, none⟩ v2') b pc r bs' v1' v2' ∧ TwoB w ((Wf.setCell ⟨b + 1, 33, none⟩ v2').setCell ⟨b, 33, none⟩ v1') b pc r bs' v1' v2' := by
  obtain ⟨q1, q2, hb, hlt, _⟩ := h.part m.on
  have l1 : 33 < (csV pc r v1).length := by rw [csV_length _ _ _ h.len]; omega
  have l2 : 33 < (csV pc r v2).length := by rw [csV_length _ _ _ h.len]; omega
  have F1 : ∀ k, v1'.ownBlock = some k → k ∉ [b, b + 1] := fun k hk => by have := (m.o1.lts k hk).1; simp; omega
  have F2 : ∀ k, v2'.ownBlock = some k → k ∉ [b, b + 1] := fun k hk => by have := (m.o2.lts k hk).1; simp; omega
  have on1 : Only [b, b + 1] Wf ((Wf.setCell ⟨b, 33, none⟩ v1').setCell ⟨b + 1, 33, none⟩ v2') := ((Only.refl [b, b + 1] Wf).setCell (p := ⟨b, 33, none⟩) (Or.inl (by simp)) _).setCell (p := ⟨b + 1, 33, none⟩) (Or.inl (by simp)) _
  have on2 : Only [b, b + 1] Wf ((Wf.setCell ⟨b + 1, 33, none⟩ v2').setCell ⟨b, 33, none⟩ v1') := ((Only.refl [b, b + 1] Wf).setCell (p := ⟨b + 1, 33, none⟩) (Or.inl (by simp)) _).setCell (p := ⟨b, 33, none⟩) (Or.inl (by simp)) _
  have bl : ∀ k ∈ [b, b + 1], b ≤ k := by intro k hk; simp at hk; omega
  refine ⟨⟨?_, ?_, ownI_only m.o1 on1 F1, ownI_only m.o2 on1 F2, m.ap, h.len, hb.trans (on1.below bl (by omega)), h.hb⟩, ⟨?_, ?_, ownI_only m.o1 on2 F1, ownI_only m.o2 on2 F2, m.ap, h.len, hb.trans (on2.below bl (by omega)), h.hb⟩⟩
  · have := (q1.set 33 l1 v1').other ⟨b + 1, 33, none⟩ (by simp) v2'
    rwa [csV_set _ _ _ _ h.len] at this
  · have := (q2.other ⟨b, 33, none⟩ (by simp) v1').set 33 l2 v2'
    rwa [csV_set _ _ _ _ h.len] at this
  · have := (q1.other ⟨b + 1, 33, none⟩ (by simp) v2').set 33 l1 v1'
    rwa [csV_set _ _ _ _ h.len] at this
  · have := (q2.set 33 l2 v2').other ⟨b, 33, none⟩ (by simp) v1'
    rwa [csV_set _ _ _ _ h.len] at this
theorem TwoB.drewN (h : TwoB w W b pc r bs v1 v2) (n : Nat) : TwoB w (W.drewN n) b pc r bs v1 v2 :=
  ⟨h.r1.drewN n, h.r2.drewN n, ownI_only h.o1 ((Only.refl [] W).drewN n) (by simp), ownI_only h.o2 ((Only.refl [] W).drewN n) (by simp), h.ap, h.len, h.bel.trans (((Only.refl [] W).drewN n).below (by simp) (by have := h.r1.lt; omega)), h.hb⟩
/-- What both frames are at the end. -/
theorem TwoB.frames (h : TwoB w W b pc r bs v1 v2) (N1 N2 : List Nat) (h1 : ∀ k ∈ N1, k < b + 2) (h2 : ∀ k ∈ N2, k < b + 2) : ∃ A1 c1 A2 c2, FrameIn W b N1 ⟨pc, r, bs⟩ A1 c1 ∧ FrameIn W (b + 1) N2 ⟨pc, r, bs⟩ A2 c2 ∧ (∀ p q, A1 = some p → A2 = some q → p.block ≠ q.block) ∧ (∀ p, A1 = some p → b + 2 ≤ p.block) ∧ (∀ p, A2 = some p → b + 2 ≤ p.block) := by
  obtain ⟨A1, c1, rfl, i1, l1, a1⟩ := h.o1.intsIn
  obtain ⟨A2, c2, rfl, i2, l2, a2⟩ := h.o2.intsIn
  refine ⟨A1, c1, A2, c2, ⟨h.r1, i1, l1, fun p e => ?_, h.len⟩, ⟨h.r2, i2, l2, fun p e => ?_, h.len⟩, ?_, fun p e => (a1 p e).1, fun p e => (a2 p e).1⟩
  · have := a1 p e
    exact ⟨fun hk => by have := h1 _ hk; omega, by omega, this.2⟩
  · have := a2 p e
    exact ⟨fun hk => by have := h2 _ hk; omega, by omega, this.2⟩
  · rintro p q rfl rfl e
    rcases h.o1.2 with ⟨hv, _⟩ | ⟨g, cap, cur, hv, _⟩
    · cases hv
    · rcases h.o2.2 with ⟨hv2, _⟩ | ⟨g2, cap2, cur2, hv2, _⟩
      · cases hv2
      · cases hv
        cases hv2
        exact h.ap g rfl (by rw [Value.ownBlock]; simp at e ⊢; omega)
end
end Go.Proofs.YtobbmhboahognaaDoor

namespace Go.Proofs.YtobbmhboahognaaDoor
open Go.RowKit
set_option linter.unusedVariables false

theorem swayS {w W Wf : World} {b : Nat} {pc : Int} {r bs : List Int} {v1 v2 : Value} (h : TwoB w W b pc r bs v1 v2) (on : Only (v1.ownBlock.toList ++ v2.ownBlock.toList) W Wf) {p : Addr} {x : Value} (hp : p.block < b) (hc : w.cell? p = some x) :
    Wf.cell? ⟨b, 33, none⟩ = some v1 ∧ Wf.cell? ⟨b + 1, 33, none⟩ = some v2 ∧ Wf.cell? p = some x := by
  obtain ⟨y1, y2, y3, _⟩ := h.way on hp hc
  exact ⟨y1, y2, y3⟩
theorem take_next (bs : List Int) (i : Nat) (h : i < bs.length) : bs.take (i + 1) = bs.take i ++ [bs.getD i 0] := by
  rw [List.take_add_one, List.getElem?_eq_getElem h]
  simp [List.getD, h]
/-- What frame leaves. -/
def FramePostB (pc : Int) (zs bs : List Int) (w : World) (e : Ending) (w' : World) : Prop := ∃ (b : Nat) (v1 v2 : Value), e = .returned (.tuple #[.pointer (some ⟨b, 0, none⟩), .pointer (some ⟨b + 1, 0, none⟩)]) ∧ TwoB w w' b pc (rgI zs (min zs.length 32)) (bs.take 8) v1 v2
set_option maxHeartbeats 4000000 in
set_option maxRecDepth 100000 in
theorem two_start {w wr : World} {b : Nat} {pc : Int} {r : List Int} (hb : b = w.heap.size) (f1 : FrameIn wr b [] ⟨pc, r, []⟩ none 0) (f2 : FrameIn wr (b + 1) [] ⟨pc, r, []⟩ none 0) (hl : Below b w wr) : TwoB w wr b pc r [] (.slice none 0 0) (.slice none 0 0) :=
  ⟨f1.top, f2.top, World.ownsRow_nil _ _ _ _, World.ownsRow_nil _ _ _ _, fun k h => by (cases h), f1.len, hl, hb⟩
set_option maxHeartbeats 40000000 in
set_option maxRecDepth 100000 in
theorem frame_any (A : Option Addr) (cap : Nat) (zs : List Int) (pc : Int) (A2 : Option Addr) (cap2 : Nat) (bs : List Int) (w : World) (hl : zs.length ≤ 9223372036854775807) (hI : IntsIn w .u64 A zs) (hl2 : bs.length ≤ 9223372036854775807) (hI2 : IntsIn w .i64 A2 bs) :
    Calls Tryd.prog 9 #[.int .i64 pc, .slice A zs.length cap, .slice A2 bs.length cap2] w (FramePostB pc zs bs w) := by
  obtain ⟨w1, hw1⟩ : ∃ w1, w1 = w.alloc (.cells (emptyCs pc).toArray 50) := ⟨_, rfl⟩
  obtain ⟨w2, hw2⟩ : ∃ w2, w2 = w1.alloc (.cells (emptyCs pc).toArray 91) := ⟨_, rfl⟩
  obtain ⟨b, hb⟩ : ∃ b, b = w.heap.size := ⟨_, rfl⟩
  have hz1 : w1.heap.size = b + 1 := by rw [hw1, hb]; simp
  have F1 : FrameIn w2 b [] ⟨pc, List.replicate 32 0, []⟩ none 0 := by
    rw [hw2]
    refine FrameIn.below ?_ ((Below.refl _ _).alloc (Nat.le_refl _) _)
    rw [hw1]; exact frame_empty w b [] pc _ hb
  have F2 : FrameIn w2 (b + 1) [] ⟨pc, List.replicate 32 0, []⟩ none 0 := by
    rw [hw2]; exact frame_empty w1 (b + 1) [] pc _ hz1.symm
  have B2 : Below w.heap.size w w2 := by
    rw [hw2, hw1]; exact ((Below.refl _ _).alloc (Nat.le_refl _) _).alloc (by simp) _
  have H1 := Lib.hid F1
  have H2 := Lib.hid F2
  have HB2 := Lib.hid B2
  have HI := Lib.hid hI
  have HI2 := Lib.hid hI2
  have HW := Lib.hid (show w2 = (w.alloc (.cells (emptyCs pc).toArray 50)).alloc (.cells (emptyCs pc).toArray 91) by rw [hw2, hw1])
  have HZ := Lib.hid hb
  obtain ⟨L, hL⟩ : ∃ L, L = zs.length := ⟨_, rfl⟩
  obtain ⟨L2, hL2⟩ : ∃ L2, L2 = bs.length := ⟨_, rfl⟩
  rw [← hL] at hl ⊢
  rw [← hL2] at hl2 ⊢
  have HL := Lib.hid hL
  have HL2 := Lib.hid hL2
  clear hI hI2 hL hL2 F1 F2 B2 hw1 hw2 hz1 hb
  go_enter Tryd.func9, Tryd.ntmps9
  go_upto_region 1 with fail
  go_cut [1, 2, 8, 9] from 8 to 83 (fun s1 s2 s8 s9 w' => s1 = .slice A L cap ∧ s2 = .slice A2 L2 cap2 ∧ s8 = .pointer (some ⟨b, 0, none⟩) ∧ s9 = .pointer (some ⟨b + 1, 0, none⟩) ∧ w2 = w')
  case first =>
   as_aux_lemma =>
    go_wp2_with fail
    go_meet
    exact ⟨rfl, rfl, by rw [HZ.out], by rw [HZ.out], HW.out⟩
  case rest =>
  as_aux_lemma =>
  obtain ⟨rfl, rfl, rfl, rfl, rfl⟩ := hcut
  clear HW
  go_wp2_with fail
  go_loopw [10] (fun vi wr => ∃ i : Nat, i ≤ L ∧ i ≤ 32 ∧ vi = .int .i64 i ∧ FrameIn wr b [] ⟨pc, rgI zs i, []⟩ none 0 ∧ FrameIn wr (b + 1) [] ⟨pc, rgI zs i, []⟩ none 0 ∧ Below w.heap.size w wr) (fun vi _ => L - (intOf vi).toNat)
  case atStart => exact ⟨0, by omega, by omega, rfl, H1.out, H2.out, HB2.out⟩
  case round =>
    obtain ⟨i, hi, hi2, rfl, f1, f2, hbl⟩ := hrel
    by_cases hlt : i < L ∧ i < 32
    · obtain ⟨hlt1, hlt2⟩ := hlt
      obtain ⟨p, rfl, hp, hc⟩ := HI.out i (by rw [← HL.out]; exact hlt1)
      have hc : wr.cell? (p.add i) = some (.int .u64 (zs.getD i 0)) := by rw [hbl.cell (by rw [ChangeShapes.block_add]; exact hp)]; exact hc
      have hpb : (p.add i).block < b := by rw [HZ.out, ChangeShapes.block_add]; exact hp
      have c1 := f1.reg i hlt2
      have c2 := f2.reg i hlt2
      have z1 := f1.free (1 + i) (by omega)
      have z2 := f2.free (1 + i) (by omega)
      obtain ⟨y, hy⟩ : ∃ y, y = zs.getD i 0 := ⟨_, rfl⟩
      rw [← hy] at hc
      have e1 : rgI zs (i + 1) = (rgI zs i).set i y := by rw [hy]; rfl
      have l1 : ((rgI zs i).set i y).length = 32 := by rw [List.length_set, rgI_length]
      have G1 := Lib.hid (frame_row [] ((f1.setReg i hlt2 y).top.other ⟨b + 1, 1 + i, none⟩ (by simp) (.int .u64 y)) l1)
      have G2 := Lib.hid (frame_row [] (((frame_row [] (f2.top.other ⟨b, 1 + i, none⟩ (by simp) (.int .u64 y)) (rgI_length zs i))).setReg i hlt2 y).top l1)
      have GB := Lib.hid ((hbl.setCell (p := ⟨b, 1 + i, none⟩) (Nat.le_of_eq HZ.out.symm) (.int .u64 y)).setCell (p := ⟨b + 1, 1 + i, none⟩) (by have := HZ.out; simp; omega) (.int .u64 y))
      rw [← e1] at G1 G2
      have hi3 : (i : Int) < 32 := by omega
      clear f1 f2 hbl hp hy e1 l1
      simp only at c1 c2
      go_upto_region 5 with fail
      go_region
      go_wp2_with fail
      go_roundw
      case rel => exact ⟨i + 1, by omega, by omega, by go_num, G1.out.drewN 1, G2.out.drewN 1, GB.out.drew⟩
      case measure => simp [intOf]; omega
    · have hmin : i = min zs.length 32 := by have := HL.out; omega
      have TS := Lib.hid (show TwoB w wr b pc (rgI zs (min zs.length 32)) (bs.take 0) (.slice none 0 0) (.slice none 0 0) by
        rw [← hmin]; exact two_start HZ.out f1 f2 (by rw [HZ.out]; exact hbl))
      have hexit : L ≤ i ∨ (i < L ∧ 32 ≤ i) := by omega
      clear hlt f1 f2 hbl hmin H1 H2 HB2
      rcases hexit with he | ⟨he, he2⟩
      all_goals
        go_wp2_with fail
        obtain ⟨R, hR⟩ : ∃ R, R = rgI zs (min zs.length 32) := ⟨_, rfl⟩
        rw [← hR] at TS
        have HRR := Lib.hid hR
        clear hR
        obtain ⟨ws, hws⟩ : ∃ ws, ws = wr := ⟨_, rfl⟩
        clear hws
        go_loopw [11] (fun vi wr => ∃ (i : Nat) (v1 v2 : Value), i ≤ L2 ∧ i ≤ 8 ∧ vi = .int .i64 i ∧ Hid (TwoB w wr b pc R (bs.take i) v1 v2)) (fun vi _ => L2 - (intOf vi).toNat)
        case atStart => exact ⟨0, _, _, by omega, by omega, rfl, TS⟩
        case round =>
          obtain ⟨i, v1, v2, hi, hi2, rfl, T⟩ := hrel
          by_cases hlt : i < L2 ∧ i < 8
          · obtain ⟨hlt1, hlt2⟩ := hlt
            obtain ⟨p, rfl, hp, hc⟩ := HI2.out i (by rw [← HL2.out]; exact hlt1)
            obtain ⟨x, hx⟩ : ∃ x, x = bs.getD i 0 := ⟨_, rfl⟩
            rw [← hx] at hc
            have HPB := Lib.hid (show (p.add i).block < b by rw [HZ.out, ChangeShapes.block_add]; exact hp)
            have HPC := Lib.hid hc
            have HTN := Lib.hid (show bs.take (i + 1) = bs.take i ++ [x] by rw [hx]; exact take_next bs i (by rw [← HL2.out]; exact hlt1))
            have HL := Lib.hid (show (bs.take i).length ≤ 100 by rw [List.length_take]; omega)
            have T0 := Lib.hid (T.out.drewN 1)
            have Q2 := Lib.hid (show ((wr.drew.alloc (.cells #[.int .i64 x] 3)).alloc (.cells #[.int .i64 x] 3)).heap[wr.drew.heap.size]? = some (.cells #[.int .i64 x] 3 (0, 0)) ∧ ((wr.drew.alloc (.cells #[.int .i64 x] 3)).alloc (.cells #[.int .i64 x] 3)).heap[wr.drew.heap.size + 1]? = some (.cells #[.int .i64 x] 3 (0, 0)) from ⟨(Below.heap_alloc _ _ _ (by simp)).trans (heap_alloc_new wr.drew _), by have := heap_alloc_new (wr.drew.alloc (.cells #[.int .i64 x] 3)) (.cells #[.int .i64 x] 3); simpa using this⟩)
            obtain ⟨y1, y2, y3, y4, y5, y6, y7⟩ := T.out.way (Wf := wr) (Only.refl _ _) HPB.out HPC.out
            have hne1 : b ≠ (p.add i).block := by have := HPB.out; omega
            have hne2 : b + 1 ≠ (p.add i).block := by have := HPB.out; omega
            have hi3 : (i : Int) < 8 := by omega
            have hi4 : (i : Int) < (L2 : Int) := by omega
            clear hc hx hp
            go_upto_region 9 with fail
            refine wp_region_until [24, 27] (fun w' => w'.cell? ⟨b, 33, none⟩ = some v1 ∧ w'.cell? ⟨b + 1, 33, none⟩ = some v2 ∧ w'.cell? (p.add i) = some (.int .i64 x)) (by kernel_rfl) ?_
            have hS := (swayS T.out ((only_drew wr).mono (by simp)) HPB.out HPC.out : (fun w' => w'.cell? ⟨b, 33, none⟩ = some v1 ∧ w'.cell? ⟨b + 1, 33, none⟩ = some v2 ∧ w'.cell? (p.add i) = some (.int .i64 x)) wr.drew)
            try (change wpAnyU _ _ _ _ _ _ _ _ _ (World.drew _))
            refine wpAnyU_takeP (i := 0) (oi := { dst := some 56, op := Op.move (Operand.tmp 8), type := 30, pos := "law.go:70", after := #[], guard := none }) (v := ?_) rfl (by kernel_rfl) (by kernel_rfl) (by kernel_rfl) (by kernel_rfl) (fun _ _ _ h => h) (Or.inl ⟨by rfl, ?_⟩) hS ?_
            rotate_left 1
            · intro w hSw
              (go_simp) <;> (with_reducible rfl)
            try simp only [Act.put, List.setIfInBounds_toArray, List.set_cons_zero, List.set_cons_succ]
            refine wpAnyU_takeP (i := 1) (oi := { dst := some 57, op := Op.move (Operand.tmp 9), type := 31, pos := "law.go:70", after := #[{ on := 24, ground := Ground.gcOnly Departure.lateStores }], guard := none }) (v := ?_) rfl (by kernel_rfl) (by kernel_rfl) (by kernel_rfl) (by kernel_rfl) (fun _ _ _ h => h) (Or.inl ⟨by rfl, ?_⟩) hS ?_
            rotate_left 1
            · intro w hSw
              (go_simp) <;> (with_reducible rfl)
            try simp only [Act.put, List.setIfInBounds_toArray, List.set_cons_zero, List.set_cons_succ]
            refine wpAnyU_takeP (i := 2) (oi := { dst := some 58, op := Op.move (Operand.tmp 8), type := 30, pos := "law.go:70", after := #[], guard := none }) (v := ?_) rfl (by kernel_rfl) (by kernel_rfl) (by kernel_rfl) (by kernel_rfl) (fun _ _ _ h => h) (Or.inl ⟨by rfl, ?_⟩) hS ?_
            rotate_left 1
            · intro w hSw
              (go_simp) <;> (with_reducible rfl)
            try simp only [Act.put, List.setIfInBounds_toArray, List.set_cons_zero, List.set_cons_succ]
            refine wpAnyU_takeP (i := 3) (oi := { dst := some 59, op := Op.nilCheck (Operand.tmp 58), type := 0, pos := "law.go:70", after := #[{ on := 2, ground := Ground.data }], guard := none }) (v := ?_) rfl (by kernel_rfl) (by kernel_rfl) (by kernel_rfl) (by kernel_rfl) (fun _ _ _ h => h) (Or.inl ⟨by rfl, ?_⟩) hS ?_
            rotate_left 1
            · intro w hSw
              (go_simp) <;> (with_reducible rfl)
            try simp only [Act.put, List.setIfInBounds_toArray, List.set_cons_zero, List.set_cons_succ]
            refine wpAnyU_takeP (i := 4) (oi := { dst := some 60, op := Op.fieldAddr 50 (Operand.tmp 59) 2, type := 0, pos := "law.go:70", after := #[{ on := 3, ground := Ground.data }], guard := none }) (v := ?_) rfl (by kernel_rfl) (by kernel_rfl) (by kernel_rfl) (by kernel_rfl) (fun _ _ _ h => h) (Or.inl ⟨by rfl, ?_⟩) hS ?_
            rotate_left 1
            · intro w hSw
              (go_simp) <;> (with_reducible rfl)
            try simp only [Act.put, List.setIfInBounds_toArray, List.set_cons_zero, List.set_cons_succ]
            refine wpAnyU_takeP (i := 6) (oi := { dst := some 62, op := Op.move (Operand.tmp 2), type := 24, pos := "law.go:70", after := #[], guard := none }) (v := ?_) rfl (by kernel_rfl) (by kernel_rfl) (by kernel_rfl) (by kernel_rfl) (fun _ _ _ h => h) (Or.inl ⟨by rfl, ?_⟩) hS ?_
            rotate_left 1
            · intro w hSw
              (go_simp) <;> (with_reducible rfl)
            try simp only [Act.put, List.setIfInBounds_toArray, List.set_cons_zero, List.set_cons_succ]
            refine wpAnyU_takeP (i := 7) (oi := { dst := some 63, op := Op.move (Operand.tmp 11), type := 3, pos := "law.go:70", after := #[], guard := none }) (v := ?_) rfl (by kernel_rfl) (by kernel_rfl) (by kernel_rfl) (by kernel_rfl) (fun _ _ _ h => h) (Or.inl ⟨by rfl, ?_⟩) hS ?_
            rotate_left 1
            · intro w hSw
              (go_simp) <;> (with_reducible rfl)
            try simp only [Act.put, List.setIfInBounds_toArray, List.set_cons_zero, List.set_cons_succ]
            refine wpAnyU_takeP (i := 8) (oi := { dst := some 64, op := Op.indexAddr 24 (Operand.tmp 62) (Operand.tmp 63), type := 0, pos := "law.go:70", after := #[{ on := 6, ground := Ground.data }, { on := 7, ground := Ground.data }], guard := none }) (v := ?_) rfl (by kernel_rfl) (by kernel_rfl) (by kernel_rfl) (by kernel_rfl) (fun _ _ _ h => h) (Or.inl ⟨by rfl, ?_⟩) hS ?_
            rotate_left 1
            · intro w hSw
              (go_simp) <;> (with_reducible rfl)
            try simp only [Act.put, List.setIfInBounds_toArray, List.set_cons_zero, List.set_cons_succ]
            refine wpAnyU_takeP (i := 12) (oi := { dst := some 68, op := Op.move (Operand.tmp 9), type := 31, pos := "law.go:70", after := #[], guard := none }) (v := ?_) rfl (by kernel_rfl) (by kernel_rfl) (by kernel_rfl) (by kernel_rfl) (fun _ _ _ h => h) (Or.inl ⟨by rfl, ?_⟩) hS ?_
            rotate_left 1
            · intro w hSw
              (go_simp) <;> (with_reducible rfl)
            try simp only [Act.put, List.setIfInBounds_toArray, List.set_cons_zero, List.set_cons_succ]
            refine wpAnyU_takeP (i := 13) (oi := { dst := some 69, op := Op.nilCheck (Operand.tmp 68), type := 0, pos := "law.go:70", after := #[{ on := 12, ground := Ground.data }], guard := none }) (v := ?_) rfl (by kernel_rfl) (by kernel_rfl) (by kernel_rfl) (by kernel_rfl) (fun _ _ _ h => h) (Or.inl ⟨by rfl, ?_⟩) hS ?_
            rotate_left 1
            · intro w hSw
              (go_simp) <;> (with_reducible rfl)
            try simp only [Act.put, List.setIfInBounds_toArray, List.set_cons_zero, List.set_cons_succ]
            refine wpAnyU_takeP (i := 14) (oi := { dst := some 70, op := Op.fieldAddr 91 (Operand.tmp 69) 2, type := 0, pos := "law.go:70", after := #[{ on := 13, ground := Ground.data }], guard := none }) (v := ?_) rfl (by kernel_rfl) (by kernel_rfl) (by kernel_rfl) (by kernel_rfl) (fun _ _ _ h => h) (Or.inl ⟨by rfl, ?_⟩) hS ?_
            rotate_left 1
            · intro w hSw
              (go_simp) <;> (with_reducible rfl)
            try simp only [Act.put, List.setIfInBounds_toArray, List.set_cons_zero, List.set_cons_succ]
            refine wpAnyU_takeP (i := 16) (oi := { dst := some 72, op := Op.move (Operand.tmp 2), type := 24, pos := "law.go:70", after := #[], guard := none }) (v := ?_) rfl (by kernel_rfl) (by kernel_rfl) (by kernel_rfl) (by kernel_rfl) (fun _ _ _ h => h) (Or.inl ⟨by rfl, ?_⟩) hS ?_
            rotate_left 1
            · intro w hSw
              (go_simp) <;> (with_reducible rfl)
            try simp only [Act.put, List.setIfInBounds_toArray, List.set_cons_zero, List.set_cons_succ]
            refine wpAnyU_takeP (i := 17) (oi := { dst := some 73, op := Op.move (Operand.tmp 11), type := 3, pos := "law.go:70", after := #[], guard := none }) (v := ?_) rfl (by kernel_rfl) (by kernel_rfl) (by kernel_rfl) (by kernel_rfl) (fun _ _ _ h => h) (Or.inl ⟨by rfl, ?_⟩) hS ?_
            rotate_left 1
            · intro w hSw
              (go_simp) <;> (with_reducible rfl)
            try simp only [Act.put, List.setIfInBounds_toArray, List.set_cons_zero, List.set_cons_succ]
            refine wpAnyU_takeP (i := 18) (oi := { dst := some 74, op := Op.indexAddr 24 (Operand.tmp 72) (Operand.tmp 73), type := 0, pos := "law.go:70", after := #[{ on := 16, ground := Ground.data }, { on := 17, ground := Ground.data }], guard := none }) (v := ?_) rfl (by kernel_rfl) (by kernel_rfl) (by kernel_rfl) (by kernel_rfl) (fun _ _ _ h => h) (Or.inl ⟨by rfl, ?_⟩) hS ?_
            rotate_left 1
            · intro w hSw
              (go_simp) <;> (with_reducible rfl)
            try simp only [Act.put, List.setIfInBounds_toArray, List.set_cons_zero, List.set_cons_succ]
            refine wpAnyU_take (i := 5) (oi := { dst := some 61, op := Op.load 24 (Operand.tmp 60), type := 24, pos := "law.go:70", after := #[{ on := 4, ground := Ground.data }], guard := none }) (v := ?_) rfl (by kernel_rfl) (by kernel_rfl) (by kernel_rfl) (by kernel_rfl) (by kernel_rfl) (fun _ _ _ h => h) (Or.inl ⟨by rfl, ?_⟩) hS ?_
            rotate_left 1
            · intro w hSw
              obtain ⟨s1, s2, s3⟩ := hSw
              (go_simp) <;> (with_reducible rfl)
            try simp only [Act.put, List.setIfInBounds_toArray, List.set_cons_zero, List.set_cons_succ]
            refine wpAnyU_take (i := 9) (oi := { dst := some 65, op := Op.load 3 (Operand.tmp 64), type := 3, pos := "law.go:70", after := #[{ on := 8, ground := Ground.data }], guard := none }) (v := ?_) rfl (by kernel_rfl) (by kernel_rfl) (by kernel_rfl) (by kernel_rfl) (by kernel_rfl) (fun _ _ _ h => h) (Or.inl ⟨by rfl, ?_⟩) hS ?_
            rotate_left 1
            · intro w hSw
              obtain ⟨s1, s2, s3⟩ := hSw
              (go_simp) <;> (with_reducible rfl)
            try simp only [Act.put, List.setIfInBounds_toArray, List.set_cons_zero, List.set_cons_succ]
            refine wpAnyU_take (i := 15) (oi := { dst := some 71, op := Op.load 24 (Operand.tmp 70), type := 24, pos := "law.go:70", after := #[{ on := 14, ground := Ground.data }], guard := none }) (v := ?_) rfl (by kernel_rfl) (by kernel_rfl) (by kernel_rfl) (by kernel_rfl) (by kernel_rfl) (fun _ _ _ h => h) (Or.inl ⟨by rfl, ?_⟩) hS ?_
            rotate_left 1
            · intro w hSw
              obtain ⟨s1, s2, s3⟩ := hSw
              (go_simp) <;> (with_reducible rfl)
            try simp only [Act.put, List.setIfInBounds_toArray, List.set_cons_zero, List.set_cons_succ]
            refine wpAnyU_take (i := 19) (oi := { dst := some 75, op := Op.load 3 (Operand.tmp 74), type := 3, pos := "law.go:70", after := #[{ on := 18, ground := Ground.data }], guard := none }) (v := ?_) rfl (by kernel_rfl) (by kernel_rfl) (by kernel_rfl) (by kernel_rfl) (by kernel_rfl) (fun _ _ _ h => h) (Or.inl ⟨by rfl, ?_⟩) hS ?_
            rotate_left 1
            · intro w hSw
              obtain ⟨s1, s2, s3⟩ := hSw
              (go_simp) <;> (with_reducible rfl)
            try simp only [Act.put, List.setIfInBounds_toArray, List.set_cons_zero, List.set_cons_succ]
            refine wpAnyU_ready (rs := [10, 20]) (by kernel_rfl) (by simp) ?_
            refine AllReadyU.cons (o := { dst := some 66, op := Op.buildSlice 24 1 #[(0, Operand.tmp 65)], type := 24, pos := "law.go:70", after := #[{ on := 9, ground := Ground.data }], guard := none }) rfl (fun K hK => ?_) ?_
            · go_simp
              refine hK.out _ _ (swayS T.out (((only_drew wr).alloc (.cells #[.int .i64 x] 3)).mono (by simp)) HPB.out HPC.out : (fun w' => w'.cell? ⟨b, 33, none⟩ = some v1 ∧ w'.cell? ⟨b + 1, 33, none⟩ = some v2 ∧ w'.cell? (p.add i) = some (.int .i64 x)) (wr.drew.alloc (.cells #[.int .i64 x] 3))) ?_
              clear hK K hS
              have hS := (swayS T.out (((only_drew wr).alloc (.cells #[.int .i64 x] 3)).mono (by simp)) HPB.out HPC.out : (fun w' => w'.cell? ⟨b, 33, none⟩ = some v1 ∧ w'.cell? ⟨b + 1, 33, none⟩ = some v2 ∧ w'.cell? (p.add i) = some (.int .i64 x)) (wr.drew.alloc (.cells #[.int .i64 x] 3)))
              try simp only [Act.put, List.setIfInBounds_toArray, List.set_cons_zero, List.set_cons_succ]
              refine wpAnyU_ready (rs := [11, 20]) (by kernel_rfl) (by simp) ?_
              refine AllReadyU.cons (o := { dst := some 67, op := Op.call { callee := Callee.builtin Builtin.append, args := #[Operand.tmp 61, Operand.tmp 66], argTypes := #[24, 24] }, type := 24, pos := "law.go:70", after := #[{ on := 5, ground := Ground.data }, { on := 10, ground := Ground.data }], guard := none }) rfl (fun K hK => ?_) ?_
              · obtain ⟨pf, kf, W1, hr, f1, f2, f3, f4⟩ := addInt_at (W := (wr.drew.alloc (.cells #[.int .i64 x] 3))) (B := b + 2) (q := wr.drew.heap.size) x (T0.out.o1.alloc (.cells #[.int .i64 x] 3)) (T0.out.o2.alloc (.cells #[.int .i64 x] 3)) T0.out.ap (heap_alloc_new wr.drew (.cells #[.int .i64 x] 3)) (by have := T.out.o1; have := T.out.r2.lt; simp; omega) HL.out
                refine step_callV rfl (.tmp 61) (.tmp 66) 24 24 rfl v1 _ (by simp [Act.eval]) (by simp [Act.eval]) (hr _) ?_
                try go_simp
                refine hK.out _ _ (swayS T.out (on_f (v2 := v2) ((only_drew wr).alloc (.cells #[.int .i64 x] 3)) f4) HPB.out HPC.out : (fun w' => w'.cell? ⟨b, 33, none⟩ = some v1 ∧ w'.cell? ⟨b + 1, 33, none⟩ = some v2 ∧ w'.cell? (p.add i) = some (.int .i64 x)) W1) ?_
                clear hK K hS
                have hS := (swayS T.out (on_f (v2 := v2) ((only_drew wr).alloc (.cells #[.int .i64 x] 3)) f4) HPB.out HPC.out : (fun w' => w'.cell? ⟨b, 33, none⟩ = some v1 ∧ w'.cell? ⟨b + 1, 33, none⟩ = some v2 ∧ w'.cell? (p.add i) = some (.int .i64 x)) W1)
                try simp only [Act.put, List.setIfInBounds_toArray, List.set_cons_zero, List.set_cons_succ]
                refine wpAnyU_ready (rs := [20]) (by kernel_rfl) (by simp) ?_
                refine AllReadyU.cons (o := { dst := some 76, op := Op.buildSlice 24 1 #[(0, Operand.tmp 75)], type := 24, pos := "law.go:70", after := #[{ on := 19, ground := Ground.data }], guard := none }) rfl (fun K hK => ?_) AllReadyU.nil
                go_simp
                refine hK.out _ _ (swayS T.out ((on_f (v2 := v2) ((only_drew wr).alloc (.cells #[.int .i64 x] 3)) f4).alloc (.cells #[.int .i64 x] 3)) HPB.out HPC.out : (fun w' => w'.cell? ⟨b, 33, none⟩ = some v1 ∧ w'.cell? ⟨b + 1, 33, none⟩ = some v2 ∧ w'.cell? (p.add i) = some (.int .i64 x)) (W1.alloc (.cells #[.int .i64 x] 3))) ?_
                clear hK K hS
                have hS := (swayS T.out ((on_f (v2 := v2) ((only_drew wr).alloc (.cells #[.int .i64 x] 3)) f4).alloc (.cells #[.int .i64 x] 3)) HPB.out HPC.out : (fun w' => w'.cell? ⟨b, 33, none⟩ = some v1 ∧ w'.cell? ⟨b + 1, 33, none⟩ = some v2 ∧ w'.cell? (p.add i) = some (.int .i64 x)) (W1.alloc (.cells #[.int .i64 x] 3)))
                try simp only [Act.put, List.setIfInBounds_toArray, List.set_cons_zero, List.set_cons_succ]
                refine wpAnyU_ready (rs := [21]) (by kernel_rfl) (by simp) ?_
                refine AllReadyU.cons (o := { dst := some 77, op := Op.call { callee := Callee.builtin Builtin.append, args := #[Operand.tmp 71, Operand.tmp 76], argTypes := #[24, 24] }, type := 24, pos := "law.go:70", after := #[{ on := 15, ground := Ground.data }, { on := 20, ground := Ground.data }, { on := 11, ground := Ground.chain }], guard := none }) rfl (fun K hK => ?_) AllReadyU.nil
                obtain ⟨pg, kg, W2, hr2, c1, c2, c3, c4⟩ := addInt_at (W := (W1.alloc (.cells #[.int .i64 x] 3))) (B := b + 2) (q := W1.heap.size) x (f2.alloc (.cells #[.int .i64 x] 3)) (f1.alloc (.cells #[.int .i64 x] 3)) (fun k h e => f3 k e h) (heap_alloc_new W1 (.cells #[.int .i64 x] 3)) (by have := (T.out.part (on_f (v2 := v2) ((only_drew wr).alloc (.cells #[.int .i64 x] 3)) f4)).2.2.2.1; simp; omega) HL.out
                have hfin := mid_fg ((only_drew wr).alloc (.cells #[.int .i64 x] 3)) f4 ((Only.refl [] W1).alloc (.cells #[.int .i64 x] 3)) c4 c1 c2 c3
                obtain ⟨z1, z2, z3, z4, z5, z6, z7⟩ := T.out.way hfin.on HPB.out HPC.out
                refine step_callV rfl (.tmp 71) (.tmp 76) 24 24 rfl v2 _ (by simp [Act.eval]) (by simp [Act.eval]) (hr2 _) ?_
                try go_simp
                refine hK.out _ _ ⟨z1, z2, z3⟩ ?_
                clear hK K hS
                have hS : (fun w' => w'.cell? ⟨b, 33, none⟩ = some v1 ∧ w'.cell? ⟨b + 1, 33, none⟩ = some v2 ∧ w'.cell? (p.add i) = some (.int .i64 x)) W2 := ⟨z1, z2, z3⟩
                try simp only [Act.put, List.setIfInBounds_toArray, List.set_cons_zero, List.set_cons_succ]
                refine wpAnyU_takeP (i := 22) (oi := { dst := some 78, op := Op.nilCheck (Operand.tmp 56), type := 0, pos := "law.go:70", after := #[{ on := 0, ground := Ground.data }, { on := 0, ground := Ground.phase }, { on := 1, ground := Ground.textOnly Departure.lateStores }, { on := 2, ground := Ground.phase }, { on := 3, ground := Ground.phase }, { on := 4, ground := Ground.phase }, { on := 5, ground := Ground.phase }, { on := 6, ground := Ground.phase }, { on := 7, ground := Ground.phase }, { on := 8, ground := Ground.phase }, { on := 9, ground := Ground.phase }, { on := 10, ground := Ground.phase }, { on := 11, ground := Ground.phase }, { on := 12, ground := Ground.textOnly Departure.lateStores }, { on := 13, ground := Ground.textOnly Departure.lateStoresUnsure }, { on := 14, ground := Ground.textOnly Departure.lateStoresUnsure }, { on := 15, ground := Ground.phase }, { on := 16, ground := Ground.textOnly Departure.lateStores }, { on := 17, ground := Ground.textOnly Departure.lateStores }, { on := 18, ground := Ground.textOnly Departure.lateStoresUnsure }, { on := 19, ground := Ground.phase }, { on := 20, ground := Ground.textOnly Departure.lateStoresUnsure }, { on := 21, ground := Ground.phase }], guard := none }) (v := ?_) rfl (by kernel_rfl) (by kernel_rfl) (by kernel_rfl) (by kernel_rfl) (fun _ _ _ h => h) (Or.inl ⟨by rfl, ?_⟩) hS ?_
                rotate_left 1
                · intro w hSw
                  (go_simp) <;> (with_reducible rfl)
                try simp only [Act.put, List.setIfInBounds_toArray, List.set_cons_zero, List.set_cons_succ]
                refine wpAnyU_takeP (i := 23) (oi := { dst := some 79, op := Op.fieldAddr 50 (Operand.tmp 78) 2, type := 0, pos := "law.go:70", after := #[{ on := 22, ground := Ground.data }, { on := 0, ground := Ground.phase }, { on := 1, ground := Ground.textOnly Departure.lateStores }, { on := 2, ground := Ground.phase }, { on := 3, ground := Ground.phase }, { on := 4, ground := Ground.phase }, { on := 5, ground := Ground.phase }, { on := 6, ground := Ground.phase }, { on := 7, ground := Ground.phase }, { on := 8, ground := Ground.phase }, { on := 9, ground := Ground.phase }, { on := 10, ground := Ground.phase }, { on := 11, ground := Ground.phase }, { on := 12, ground := Ground.textOnly Departure.lateStores }, { on := 13, ground := Ground.textOnly Departure.lateStoresUnsure }, { on := 14, ground := Ground.textOnly Departure.lateStoresUnsure }, { on := 15, ground := Ground.phase }, { on := 16, ground := Ground.textOnly Departure.lateStores }, { on := 17, ground := Ground.textOnly Departure.lateStores }, { on := 18, ground := Ground.textOnly Departure.lateStoresUnsure }, { on := 19, ground := Ground.phase }, { on := 20, ground := Ground.textOnly Departure.lateStoresUnsure }, { on := 21, ground := Ground.phase }], guard := none }) (v := ?_) rfl (by kernel_rfl) (by kernel_rfl) (by kernel_rfl) (by kernel_rfl) (fun _ _ _ h => h) (Or.inl ⟨by rfl, ?_⟩) hS ?_
                rotate_left 1
                · intro w hSw
                  (go_simp) <;> (with_reducible rfl)
                try simp only [Act.put, List.setIfInBounds_toArray, List.set_cons_zero, List.set_cons_succ]
                refine wpAnyU_ready (rs := [24]) (by kernel_rfl) (by simp) ?_
                refine AllReadyU.consZ (o := { dst := none, op := Op.store 24 (Operand.tmp 79) (Operand.tmp 67), type := 0, pos := "law.go:70", after := #[{ on := 23, ground := Ground.data }, { on := 11, ground := Ground.data }, { on := 21, ground := Ground.chain }, { on := 0, ground := Ground.phase }, { on := 1, ground := Ground.textOnly Departure.lateStores }, { on := 2, ground := Ground.phase }, { on := 3, ground := Ground.phase }, { on := 4, ground := Ground.phase }, { on := 5, ground := Ground.phase }, { on := 6, ground := Ground.phase }, { on := 7, ground := Ground.phase }, { on := 8, ground := Ground.phase }, { on := 9, ground := Ground.phase }, { on := 10, ground := Ground.phase }, { on := 11, ground := Ground.phase }, { on := 12, ground := Ground.textOnly Departure.lateStores }, { on := 13, ground := Ground.textOnly Departure.lateStoresUnsure }, { on := 14, ground := Ground.textOnly Departure.lateStoresUnsure }, { on := 15, ground := Ground.phase }, { on := 16, ground := Ground.textOnly Departure.lateStores }, { on := 17, ground := Ground.textOnly Departure.lateStores }, { on := 18, ground := Ground.textOnly Departure.lateStoresUnsure }, { on := 19, ground := Ground.phase }, { on := 20, ground := Ground.textOnly Departure.lateStoresUnsure }, { on := 21, ground := Ground.phase }], guard := none }) rfl (by kernel_rfl) (by kernel_rfl) (fun K hK => ?_) AllReadyU.nil
                go_simp
                refine hK.out _ _ ?_
                clear hK K
                try simp only [Act.put, List.setIfInBounds_toArray, List.set_cons_zero, List.set_cons_succ]
                refine wpAnyU_takeQ (i := 25) (oi := { dst := some 80, op := Op.nilCheck (Operand.tmp 57), type := 0, pos := "law.go:70", after := #[{ on := 1, ground := Ground.data }, { on := 0, ground := Ground.phase }, { on := 1, ground := Ground.phase }, { on := 2, ground := Ground.phase }, { on := 3, ground := Ground.phase }, { on := 4, ground := Ground.phase }, { on := 5, ground := Ground.phase }, { on := 6, ground := Ground.phase }, { on := 7, ground := Ground.phase }, { on := 8, ground := Ground.phase }, { on := 9, ground := Ground.phase }, { on := 10, ground := Ground.phase }, { on := 11, ground := Ground.phase }, { on := 12, ground := Ground.phase }, { on := 13, ground := Ground.phase }, { on := 14, ground := Ground.phase }, { on := 15, ground := Ground.phase }, { on := 16, ground := Ground.phase }, { on := 17, ground := Ground.phase }, { on := 18, ground := Ground.phase }, { on := 19, ground := Ground.phase }, { on := 20, ground := Ground.phase }, { on := 21, ground := Ground.phase }, { on := 22, ground := Ground.phase }, { on := 23, ground := Ground.phase }, { on := 24, ground := Ground.phase }], guard := none }) (v := ?_) rfl (by kernel_rfl) (by kernel_rfl) (by kernel_rfl) (by kernel_rfl) (by kernel_rfl) (fun _ _ _ h => h) (Or.inl ⟨by rfl, ?_⟩) ?_
                rotate_left 1
                · intro w hSw
                  (go_simp) <;> (with_reducible rfl)
                try simp only [Act.put, List.setIfInBounds_toArray, List.set_cons_zero, List.set_cons_succ]
                refine wpAnyU_takeQ (i := 26) (oi := { dst := some 81, op := Op.fieldAddr 91 (Operand.tmp 80) 2, type := 0, pos := "law.go:70", after := #[{ on := 25, ground := Ground.data }, { on := 0, ground := Ground.phase }, { on := 1, ground := Ground.phase }, { on := 2, ground := Ground.phase }, { on := 3, ground := Ground.phase }, { on := 4, ground := Ground.phase }, { on := 5, ground := Ground.phase }, { on := 6, ground := Ground.phase }, { on := 7, ground := Ground.phase }, { on := 8, ground := Ground.phase }, { on := 9, ground := Ground.phase }, { on := 10, ground := Ground.phase }, { on := 11, ground := Ground.phase }, { on := 12, ground := Ground.phase }, { on := 13, ground := Ground.phase }, { on := 14, ground := Ground.phase }, { on := 15, ground := Ground.phase }, { on := 16, ground := Ground.phase }, { on := 17, ground := Ground.phase }, { on := 18, ground := Ground.phase }, { on := 19, ground := Ground.phase }, { on := 20, ground := Ground.phase }, { on := 21, ground := Ground.phase }, { on := 22, ground := Ground.phase }, { on := 23, ground := Ground.phase }, { on := 24, ground := Ground.phase }], guard := none }) (v := ?_) rfl (by kernel_rfl) (by kernel_rfl) (by kernel_rfl) (by kernel_rfl) (by kernel_rfl) (fun _ _ _ h => h) (Or.inl ⟨by rfl, ?_⟩) ?_
                rotate_left 1
                · intro w hSw
                  (go_simp) <;> (with_reducible rfl)
                try simp only [Act.put, List.setIfInBounds_toArray, List.set_cons_zero, List.set_cons_succ]
                refine wpAnyU_ready (rs := [27]) (by kernel_rfl) (by simp) ?_
                refine AllReadyU.consZ (o := { dst := none, op := Op.store 24 (Operand.tmp 81) (Operand.tmp 77), type := 0, pos := "law.go:70", after := #[{ on := 26, ground := Ground.data }, { on := 21, ground := Ground.data }, { on := 24, ground := Ground.chain }, { on := 0, ground := Ground.phase }, { on := 1, ground := Ground.phase }, { on := 2, ground := Ground.phase }, { on := 3, ground := Ground.phase }, { on := 4, ground := Ground.phase }, { on := 5, ground := Ground.phase }, { on := 6, ground := Ground.phase }, { on := 7, ground := Ground.phase }, { on := 8, ground := Ground.phase }, { on := 9, ground := Ground.phase }, { on := 10, ground := Ground.phase }, { on := 11, ground := Ground.phase }, { on := 12, ground := Ground.phase }, { on := 13, ground := Ground.phase }, { on := 14, ground := Ground.phase }, { on := 15, ground := Ground.phase }, { on := 16, ground := Ground.phase }, { on := 17, ground := Ground.phase }, { on := 18, ground := Ground.phase }, { on := 19, ground := Ground.phase }, { on := 20, ground := Ground.phase }, { on := 21, ground := Ground.phase }, { on := 22, ground := Ground.phase }, { on := 23, ground := Ground.phase }, { on := 24, ground := Ground.phase }], guard := none }) rfl (by kernel_rfl) (by kernel_rfl) (fun K hK => ?_) AllReadyU.nil
                go_simp
                refine hK.out _ _ ?_
                clear hK K
                try simp only [Act.put, List.setIfInBounds_toArray, List.set_cons_zero, List.set_cons_succ]
                refine wpAnyU_done (by kernel_rfl) ?_ _
                go_wp2_with fail
                go_roundw
                case rel => exact ⟨i + 1, .slice pf ((bs.take i).length + 1) kf, .slice pg ((bs.take i).length + 1) kg, by omega, by omega, by go_num, Lib.hid (by rw [HTN.out]; have h := (T.out.next hfin).1; simp only [List.length_take] at h ⊢; exact h)⟩
                case measure => simp [intOf]; omega
              refine AllReadyU.cons (o := { dst := some 76, op := Op.buildSlice 24 1 #[(0, Operand.tmp 75)], type := 24, pos := "law.go:70", after := #[{ on := 19, ground := Ground.data }], guard := none }) rfl (fun K hK => ?_) AllReadyU.nil
              go_simp
              refine hK.out _ _ (swayS T.out ((((only_drew wr).alloc (.cells #[.int .i64 x] 3)).alloc (.cells #[.int .i64 x] 3)).mono (by simp)) HPB.out HPC.out : (fun w' => w'.cell? ⟨b, 33, none⟩ = some v1 ∧ w'.cell? ⟨b + 1, 33, none⟩ = some v2 ∧ w'.cell? (p.add i) = some (.int .i64 x)) ((wr.drew.alloc (.cells #[.int .i64 x] 3)).alloc (.cells #[.int .i64 x] 3))) ?_
              clear hK K hS
              have hS := (swayS T.out ((((only_drew wr).alloc (.cells #[.int .i64 x] 3)).alloc (.cells #[.int .i64 x] 3)).mono (by simp)) HPB.out HPC.out : (fun w' => w'.cell? ⟨b, 33, none⟩ = some v1 ∧ w'.cell? ⟨b + 1, 33, none⟩ = some v2 ∧ w'.cell? (p.add i) = some (.int .i64 x)) ((wr.drew.alloc (.cells #[.int .i64 x] 3)).alloc (.cells #[.int .i64 x] 3)))
              try simp only [Act.put, List.setIfInBounds_toArray, List.set_cons_zero, List.set_cons_succ]
              refine wpAnyU_ready (rs := [11]) (by kernel_rfl) (by simp) ?_
              refine AllReadyU.cons (o := { dst := some 67, op := Op.call { callee := Callee.builtin Builtin.append, args := #[Operand.tmp 61, Operand.tmp 66], argTypes := #[24, 24] }, type := 24, pos := "law.go:70", after := #[{ on := 5, ground := Ground.data }, { on := 10, ground := Ground.data }], guard := none }) rfl (fun K hK => ?_) AllReadyU.nil
              obtain ⟨pf, kf, W1, hr, f1, f2, f3, f4⟩ := addInt_at (W := ((wr.drew.alloc (.cells #[.int .i64 x] 3)).alloc (.cells #[.int .i64 x] 3))) (B := b + 2) (q := wr.drew.heap.size) x ((T0.out.o1.alloc (.cells #[.int .i64 x] 3)).alloc (.cells #[.int .i64 x] 3)) ((T0.out.o2.alloc (.cells #[.int .i64 x] 3)).alloc (.cells #[.int .i64 x] 3)) T0.out.ap (Q2.out).1 (by have := T.out.o1; have := T.out.r2.lt; simp; omega) HL.out
              have bq := blk_kept (q := wr.drew.heap.size + 1) (Q2.out).2 f4 (fun k hk => by have := (T.out.o1.lts k hk).2; simp; omega)
              refine step_callV rfl (.tmp 61) (.tmp 66) 24 24 rfl v1 _ (by simp [Act.eval]) (by simp [Act.eval]) (hr _) ?_
              try go_simp
              refine hK.out _ _ (swayS T.out (on_f (v2 := v2) (((only_drew wr).alloc (.cells #[.int .i64 x] 3)).alloc (.cells #[.int .i64 x] 3)) f4) HPB.out HPC.out : (fun w' => w'.cell? ⟨b, 33, none⟩ = some v1 ∧ w'.cell? ⟨b + 1, 33, none⟩ = some v2 ∧ w'.cell? (p.add i) = some (.int .i64 x)) W1) ?_
              clear hK K hS
              have hS := (swayS T.out (on_f (v2 := v2) (((only_drew wr).alloc (.cells #[.int .i64 x] 3)).alloc (.cells #[.int .i64 x] 3)) f4) HPB.out HPC.out : (fun w' => w'.cell? ⟨b, 33, none⟩ = some v1 ∧ w'.cell? ⟨b + 1, 33, none⟩ = some v2 ∧ w'.cell? (p.add i) = some (.int .i64 x)) W1)
              try simp only [Act.put, List.setIfInBounds_toArray, List.set_cons_zero, List.set_cons_succ]
              refine wpAnyU_ready (rs := [21]) (by kernel_rfl) (by simp) ?_
              refine AllReadyU.cons (o := { dst := some 77, op := Op.call { callee := Callee.builtin Builtin.append, args := #[Operand.tmp 71, Operand.tmp 76], argTypes := #[24, 24] }, type := 24, pos := "law.go:70", after := #[{ on := 15, ground := Ground.data }, { on := 20, ground := Ground.data }, { on := 11, ground := Ground.chain }], guard := none }) rfl (fun K hK => ?_) AllReadyU.nil
              obtain ⟨pg, kg, W2, hr2, c1, c2, c3, c4⟩ := addInt_at (W := W1) (B := b + 2) (q := wr.drew.heap.size + 1) x f2 f1 (fun k h e => f3 k e h) bq (by have := (T.out.part (on_f (v2 := v2) (((only_drew wr).alloc (.cells #[.int .i64 x] 3)).alloc (.cells #[.int .i64 x] 3)) f4)).2.2.2.1; simp; omega) HL.out
              have hfin := mid_fg (((only_drew wr).alloc (.cells #[.int .i64 x] 3)).alloc (.cells #[.int .i64 x] 3)) f4 (Only.refl [] W1) c4 c1 c2 c3
              obtain ⟨z1, z2, z3, z4, z5, z6, z7⟩ := T.out.way hfin.on HPB.out HPC.out
              refine step_callV rfl (.tmp 71) (.tmp 76) 24 24 rfl v2 _ (by simp [Act.eval]) (by simp [Act.eval]) (hr2 _) ?_
              try go_simp
              refine hK.out _ _ ⟨z1, z2, z3⟩ ?_
              clear hK K hS
              have hS : (fun w' => w'.cell? ⟨b, 33, none⟩ = some v1 ∧ w'.cell? ⟨b + 1, 33, none⟩ = some v2 ∧ w'.cell? (p.add i) = some (.int .i64 x)) W2 := ⟨z1, z2, z3⟩
              try simp only [Act.put, List.setIfInBounds_toArray, List.set_cons_zero, List.set_cons_succ]
              refine wpAnyU_takeP (i := 22) (oi := { dst := some 78, op := Op.nilCheck (Operand.tmp 56), type := 0, pos := "law.go:70", after := #[{ on := 0, ground := Ground.data }, { on := 0, ground := Ground.phase }, { on := 1, ground := Ground.textOnly Departure.lateStores }, { on := 2, ground := Ground.phase }, { on := 3, ground := Ground.phase }, { on := 4, ground := Ground.phase }, { on := 5, ground := Ground.phase }, { on := 6, ground := Ground.phase }, { on := 7, ground := Ground.phase }, { on := 8, ground := Ground.phase }, { on := 9, ground := Ground.phase }, { on := 10, ground := Ground.phase }, { on := 11, ground := Ground.phase }, { on := 12, ground := Ground.textOnly Departure.lateStores }, { on := 13, ground := Ground.textOnly Departure.lateStoresUnsure }, { on := 14, ground := Ground.textOnly Departure.lateStoresUnsure }, { on := 15, ground := Ground.phase }, { on := 16, ground := Ground.textOnly Departure.lateStores }, { on := 17, ground := Ground.textOnly Departure.lateStores }, { on := 18, ground := Ground.textOnly Departure.lateStoresUnsure }, { on := 19, ground := Ground.phase }, { on := 20, ground := Ground.textOnly Departure.lateStoresUnsure }, { on := 21, ground := Ground.phase }], guard := none }) (v := ?_) rfl (by kernel_rfl) (by kernel_rfl) (by kernel_rfl) (by kernel_rfl) (fun _ _ _ h => h) (Or.inl ⟨by rfl, ?_⟩) hS ?_
              rotate_left 1
              · intro w hSw
                (go_simp) <;> (with_reducible rfl)
              try simp only [Act.put, List.setIfInBounds_toArray, List.set_cons_zero, List.set_cons_succ]
              refine wpAnyU_takeP (i := 23) (oi := { dst := some 79, op := Op.fieldAddr 50 (Operand.tmp 78) 2, type := 0, pos := "law.go:70", after := #[{ on := 22, ground := Ground.data }, { on := 0, ground := Ground.phase }, { on := 1, ground := Ground.textOnly Departure.lateStores }, { on := 2, ground := Ground.phase }, { on := 3, ground := Ground.phase }, { on := 4, ground := Ground.phase }, { on := 5, ground := Ground.phase }, { on := 6, ground := Ground.phase }, { on := 7, ground := Ground.phase }, { on := 8, ground := Ground.phase }, { on := 9, ground := Ground.phase }, { on := 10, ground := Ground.phase }, { on := 11, ground := Ground.phase }, { on := 12, ground := Ground.textOnly Departure.lateStores }, { on := 13, ground := Ground.textOnly Departure.lateStoresUnsure }, { on := 14, ground := Ground.textOnly Departure.lateStoresUnsure }, { on := 15, ground := Ground.phase }, { on := 16, ground := Ground.textOnly Departure.lateStores }, { on := 17, ground := Ground.textOnly Departure.lateStores }, { on := 18, ground := Ground.textOnly Departure.lateStoresUnsure }, { on := 19, ground := Ground.phase }, { on := 20, ground := Ground.textOnly Departure.lateStoresUnsure }, { on := 21, ground := Ground.phase }], guard := none }) (v := ?_) rfl (by kernel_rfl) (by kernel_rfl) (by kernel_rfl) (by kernel_rfl) (fun _ _ _ h => h) (Or.inl ⟨by rfl, ?_⟩) hS ?_
              rotate_left 1
              · intro w hSw
                (go_simp) <;> (with_reducible rfl)
              try simp only [Act.put, List.setIfInBounds_toArray, List.set_cons_zero, List.set_cons_succ]
              refine wpAnyU_ready (rs := [24]) (by kernel_rfl) (by simp) ?_
              refine AllReadyU.consZ (o := { dst := none, op := Op.store 24 (Operand.tmp 79) (Operand.tmp 67), type := 0, pos := "law.go:70", after := #[{ on := 23, ground := Ground.data }, { on := 11, ground := Ground.data }, { on := 21, ground := Ground.chain }, { on := 0, ground := Ground.phase }, { on := 1, ground := Ground.textOnly Departure.lateStores }, { on := 2, ground := Ground.phase }, { on := 3, ground := Ground.phase }, { on := 4, ground := Ground.phase }, { on := 5, ground := Ground.phase }, { on := 6, ground := Ground.phase }, { on := 7, ground := Ground.phase }, { on := 8, ground := Ground.phase }, { on := 9, ground := Ground.phase }, { on := 10, ground := Ground.phase }, { on := 11, ground := Ground.phase }, { on := 12, ground := Ground.textOnly Departure.lateStores }, { on := 13, ground := Ground.textOnly Departure.lateStoresUnsure }, { on := 14, ground := Ground.textOnly Departure.lateStoresUnsure }, { on := 15, ground := Ground.phase }, { on := 16, ground := Ground.textOnly Departure.lateStores }, { on := 17, ground := Ground.textOnly Departure.lateStores }, { on := 18, ground := Ground.textOnly Departure.lateStoresUnsure }, { on := 19, ground := Ground.phase }, { on := 20, ground := Ground.textOnly Departure.lateStoresUnsure }, { on := 21, ground := Ground.phase }], guard := none }) rfl (by kernel_rfl) (by kernel_rfl) (fun K hK => ?_) AllReadyU.nil
              go_simp
              refine hK.out _ _ ?_
              clear hK K
              try simp only [Act.put, List.setIfInBounds_toArray, List.set_cons_zero, List.set_cons_succ]
              refine wpAnyU_takeQ (i := 25) (oi := { dst := some 80, op := Op.nilCheck (Operand.tmp 57), type := 0, pos := "law.go:70", after := #[{ on := 1, ground := Ground.data }, { on := 0, ground := Ground.phase }, { on := 1, ground := Ground.phase }, { on := 2, ground := Ground.phase }, { on := 3, ground := Ground.phase }, { on := 4, ground := Ground.phase }, { on := 5, ground := Ground.phase }, { on := 6, ground := Ground.phase }, { on := 7, ground := Ground.phase }, { on := 8, ground := Ground.phase }, { on := 9, ground := Ground.phase }, { on := 10, ground := Ground.phase }, { on := 11, ground := Ground.phase }, { on := 12, ground := Ground.phase }, { on := 13, ground := Ground.phase }, { on := 14, ground := Ground.phase }, { on := 15, ground := Ground.phase }, { on := 16, ground := Ground.phase }, { on := 17, ground := Ground.phase }, { on := 18, ground := Ground.phase }, { on := 19, ground := Ground.phase }, { on := 20, ground := Ground.phase }, { on := 21, ground := Ground.phase }, { on := 22, ground := Ground.phase }, { on := 23, ground := Ground.phase }, { on := 24, ground := Ground.phase }], guard := none }) (v := ?_) rfl (by kernel_rfl) (by kernel_rfl) (by kernel_rfl) (by kernel_rfl) (by kernel_rfl) (fun _ _ _ h => h) (Or.inl ⟨by rfl, ?_⟩) ?_
              rotate_left 1
              · intro w hSw
                (go_simp) <;> (with_reducible rfl)
              try simp only [Act.put, List.setIfInBounds_toArray, List.set_cons_zero, List.set_cons_succ]
              refine wpAnyU_takeQ (i := 26) (oi := { dst := some 81, op := Op.fieldAddr 91 (Operand.tmp 80) 2, type := 0, pos := "law.go:70", after := #[{ on := 25, ground := Ground.data }, { on := 0, ground := Ground.phase }, { on := 1, ground := Ground.phase }, { on := 2, ground := Ground.phase }, { on := 3, ground := Ground.phase }, { on := 4, ground := Ground.phase }, { on := 5, ground := Ground.phase }, { on := 6, ground := Ground.phase }, { on := 7, ground := Ground.phase }, { on := 8, ground := Ground.phase }, { on := 9, ground := Ground.phase }, { on := 10, ground := Ground.phase }, { on := 11, ground := Ground.phase }, { on := 12, ground := Ground.phase }, { on := 13, ground := Ground.phase }, { on := 14, ground := Ground.phase }, { on := 15, ground := Ground.phase }, { on := 16, ground := Ground.phase }, { on := 17, ground := Ground.phase }, { on := 18, ground := Ground.phase }, { on := 19, ground := Ground.phase }, { on := 20, ground := Ground.phase }, { on := 21, ground := Ground.phase }, { on := 22, ground := Ground.phase }, { on := 23, ground := Ground.phase }, { on := 24, ground := Ground.phase }], guard := none }) (v := ?_) rfl (by kernel_rfl) (by kernel_rfl) (by kernel_rfl) (by kernel_rfl) (by kernel_rfl) (fun _ _ _ h => h) (Or.inl ⟨by rfl, ?_⟩) ?_
              rotate_left 1
              · intro w hSw
                (go_simp) <;> (with_reducible rfl)
              try simp only [Act.put, List.setIfInBounds_toArray, List.set_cons_zero, List.set_cons_succ]
              refine wpAnyU_ready (rs := [27]) (by kernel_rfl) (by simp) ?_
              refine AllReadyU.consZ (o := { dst := none, op := Op.store 24 (Operand.tmp 81) (Operand.tmp 77), type := 0, pos := "law.go:70", after := #[{ on := 26, ground := Ground.data }, { on := 21, ground := Ground.data }, { on := 24, ground := Ground.chain }, { on := 0, ground := Ground.phase }, { on := 1, ground := Ground.phase }, { on := 2, ground := Ground.phase }, { on := 3, ground := Ground.phase }, { on := 4, ground := Ground.phase }, { on := 5, ground := Ground.phase }, { on := 6, ground := Ground.phase }, { on := 7, ground := Ground.phase }, { on := 8, ground := Ground.phase }, { on := 9, ground := Ground.phase }, { on := 10, ground := Ground.phase }, { on := 11, ground := Ground.phase }, { on := 12, ground := Ground.phase }, { on := 13, ground := Ground.phase }, { on := 14, ground := Ground.phase }, { on := 15, ground := Ground.phase }, { on := 16, ground := Ground.phase }, { on := 17, ground := Ground.phase }, { on := 18, ground := Ground.phase }, { on := 19, ground := Ground.phase }, { on := 20, ground := Ground.phase }, { on := 21, ground := Ground.phase }, { on := 22, ground := Ground.phase }, { on := 23, ground := Ground.phase }, { on := 24, ground := Ground.phase }], guard := none }) rfl (by kernel_rfl) (by kernel_rfl) (fun K hK => ?_) AllReadyU.nil
              go_simp
              refine hK.out _ _ ?_
              clear hK K
              try simp only [Act.put, List.setIfInBounds_toArray, List.set_cons_zero, List.set_cons_succ]
              refine wpAnyU_done (by kernel_rfl) ?_ _
              go_wp2_with fail
              go_roundw
              case rel => exact ⟨i + 1, .slice pf ((bs.take i).length + 1) kf, .slice pg ((bs.take i).length + 1) kg, by omega, by omega, by go_num, Lib.hid (by rw [HTN.out]; have h := (T.out.next hfin).1; simp only [List.length_take] at h ⊢; exact h)⟩
              case measure => simp [intOf]; omega
            refine AllReadyU.cons (o := { dst := some 76, op := Op.buildSlice 24 1 #[(0, Operand.tmp 75)], type := 24, pos := "law.go:70", after := #[{ on := 19, ground := Ground.data }], guard := none }) rfl (fun K hK => ?_) AllReadyU.nil
            go_simp
            refine hK.out _ _ (swayS T.out (((only_drew wr).alloc (.cells #[.int .i64 x] 3)).mono (by simp)) HPB.out HPC.out : (fun w' => w'.cell? ⟨b, 33, none⟩ = some v1 ∧ w'.cell? ⟨b + 1, 33, none⟩ = some v2 ∧ w'.cell? (p.add i) = some (.int .i64 x)) (wr.drew.alloc (.cells #[.int .i64 x] 3))) ?_
            clear hK K hS
            have hS := (swayS T.out (((only_drew wr).alloc (.cells #[.int .i64 x] 3)).mono (by simp)) HPB.out HPC.out : (fun w' => w'.cell? ⟨b, 33, none⟩ = some v1 ∧ w'.cell? ⟨b + 1, 33, none⟩ = some v2 ∧ w'.cell? (p.add i) = some (.int .i64 x)) (wr.drew.alloc (.cells #[.int .i64 x] 3)))
            try simp only [Act.put, List.setIfInBounds_toArray, List.set_cons_zero, List.set_cons_succ]
            refine wpAnyU_ready (rs := [10]) (by kernel_rfl) (by simp) ?_
            refine AllReadyU.cons (o := { dst := some 66, op := Op.buildSlice 24 1 #[(0, Operand.tmp 65)], type := 24, pos := "law.go:70", after := #[{ on := 9, ground := Ground.data }], guard := none }) rfl (fun K hK => ?_) AllReadyU.nil
            go_simp
            refine hK.out _ _ (swayS T.out ((((only_drew wr).alloc (.cells #[.int .i64 x] 3)).alloc (.cells #[.int .i64 x] 3)).mono (by simp)) HPB.out HPC.out : (fun w' => w'.cell? ⟨b, 33, none⟩ = some v1 ∧ w'.cell? ⟨b + 1, 33, none⟩ = some v2 ∧ w'.cell? (p.add i) = some (.int .i64 x)) ((wr.drew.alloc (.cells #[.int .i64 x] 3)).alloc (.cells #[.int .i64 x] 3))) ?_
            clear hK K hS
            have hS := (swayS T.out ((((only_drew wr).alloc (.cells #[.int .i64 x] 3)).alloc (.cells #[.int .i64 x] 3)).mono (by simp)) HPB.out HPC.out : (fun w' => w'.cell? ⟨b, 33, none⟩ = some v1 ∧ w'.cell? ⟨b + 1, 33, none⟩ = some v2 ∧ w'.cell? (p.add i) = some (.int .i64 x)) ((wr.drew.alloc (.cells #[.int .i64 x] 3)).alloc (.cells #[.int .i64 x] 3)))
            try simp only [Act.put, List.setIfInBounds_toArray, List.set_cons_zero, List.set_cons_succ]
            refine wpAnyU_ready (rs := [11]) (by kernel_rfl) (by simp) ?_
            refine AllReadyU.cons (o := { dst := some 67, op := Op.call { callee := Callee.builtin Builtin.append, args := #[Operand.tmp 61, Operand.tmp 66], argTypes := #[24, 24] }, type := 24, pos := "law.go:70", after := #[{ on := 5, ground := Ground.data }, { on := 10, ground := Ground.data }], guard := none }) rfl (fun K hK => ?_) AllReadyU.nil
            obtain ⟨pf, kf, W1, hr, f1, f2, f3, f4⟩ := addInt_at (W := ((wr.drew.alloc (.cells #[.int .i64 x] 3)).alloc (.cells #[.int .i64 x] 3))) (B := b + 2) (q := wr.drew.heap.size + 1) x ((T0.out.o1.alloc (.cells #[.int .i64 x] 3)).alloc (.cells #[.int .i64 x] 3)) ((T0.out.o2.alloc (.cells #[.int .i64 x] 3)).alloc (.cells #[.int .i64 x] 3)) T0.out.ap (Q2.out).2 (by have := T.out.o1; have := T.out.r2.lt; simp; omega) HL.out
            have bq := blk_kept (q := wr.drew.heap.size) (Q2.out).1 f4 (fun k hk => by have := (T.out.o1.lts k hk).2; simpa using this)
            refine step_callV rfl (.tmp 61) (.tmp 66) 24 24 rfl v1 _ (by simp [Act.eval]) (by simp [Act.eval]) (hr _) ?_
            try go_simp
            refine hK.out _ _ (swayS T.out (on_f (v2 := v2) (((only_drew wr).alloc (.cells #[.int .i64 x] 3)).alloc (.cells #[.int .i64 x] 3)) f4) HPB.out HPC.out : (fun w' => w'.cell? ⟨b, 33, none⟩ = some v1 ∧ w'.cell? ⟨b + 1, 33, none⟩ = some v2 ∧ w'.cell? (p.add i) = some (.int .i64 x)) W1) ?_
            clear hK K hS
            have hS := (swayS T.out (on_f (v2 := v2) (((only_drew wr).alloc (.cells #[.int .i64 x] 3)).alloc (.cells #[.int .i64 x] 3)) f4) HPB.out HPC.out : (fun w' => w'.cell? ⟨b, 33, none⟩ = some v1 ∧ w'.cell? ⟨b + 1, 33, none⟩ = some v2 ∧ w'.cell? (p.add i) = some (.int .i64 x)) W1)
            try simp only [Act.put, List.setIfInBounds_toArray, List.set_cons_zero, List.set_cons_succ]
            refine wpAnyU_ready (rs := [21]) (by kernel_rfl) (by simp) ?_
            refine AllReadyU.cons (o := { dst := some 77, op := Op.call { callee := Callee.builtin Builtin.append, args := #[Operand.tmp 71, Operand.tmp 76], argTypes := #[24, 24] }, type := 24, pos := "law.go:70", after := #[{ on := 15, ground := Ground.data }, { on := 20, ground := Ground.data }, { on := 11, ground := Ground.chain }], guard := none }) rfl (fun K hK => ?_) AllReadyU.nil
            obtain ⟨pg, kg, W2, hr2, c1, c2, c3, c4⟩ := addInt_at (W := W1) (B := b + 2) (q := wr.drew.heap.size) x f2 f1 (fun k h e => f3 k e h) bq (by have := (T.out.part (on_f (v2 := v2) (((only_drew wr).alloc (.cells #[.int .i64 x] 3)).alloc (.cells #[.int .i64 x] 3)) f4)).2.2.2.1; simp; omega) HL.out
            have hfin := mid_fg (((only_drew wr).alloc (.cells #[.int .i64 x] 3)).alloc (.cells #[.int .i64 x] 3)) f4 (Only.refl [] W1) c4 c1 c2 c3
            obtain ⟨z1, z2, z3, z4, z5, z6, z7⟩ := T.out.way hfin.on HPB.out HPC.out
            refine step_callV rfl (.tmp 71) (.tmp 76) 24 24 rfl v2 _ (by simp [Act.eval]) (by simp [Act.eval]) (hr2 _) ?_
            try go_simp
            refine hK.out _ _ ⟨z1, z2, z3⟩ ?_
            clear hK K hS
            have hS : (fun w' => w'.cell? ⟨b, 33, none⟩ = some v1 ∧ w'.cell? ⟨b + 1, 33, none⟩ = some v2 ∧ w'.cell? (p.add i) = some (.int .i64 x)) W2 := ⟨z1, z2, z3⟩
            try simp only [Act.put, List.setIfInBounds_toArray, List.set_cons_zero, List.set_cons_succ]
            refine wpAnyU_takeP (i := 22) (oi := { dst := some 78, op := Op.nilCheck (Operand.tmp 56), type := 0, pos := "law.go:70", after := #[{ on := 0, ground := Ground.data }, { on := 0, ground := Ground.phase }, { on := 1, ground := Ground.textOnly Departure.lateStores }, { on := 2, ground := Ground.phase }, { on := 3, ground := Ground.phase }, { on := 4, ground := Ground.phase }, { on := 5, ground := Ground.phase }, { on := 6, ground := Ground.phase }, { on := 7, ground := Ground.phase }, { on := 8, ground := Ground.phase }, { on := 9, ground := Ground.phase }, { on := 10, ground := Ground.phase }, { on := 11, ground := Ground.phase }, { on := 12, ground := Ground.textOnly Departure.lateStores }, { on := 13, ground := Ground.textOnly Departure.lateStoresUnsure }, { on := 14, ground := Ground.textOnly Departure.lateStoresUnsure }, { on := 15, ground := Ground.phase }, { on := 16, ground := Ground.textOnly Departure.lateStores }, { on := 17, ground := Ground.textOnly Departure.lateStores }, { on := 18, ground := Ground.textOnly Departure.lateStoresUnsure }, { on := 19, ground := Ground.phase }, { on := 20, ground := Ground.textOnly Departure.lateStoresUnsure }, { on := 21, ground := Ground.phase }], guard := none }) (v := ?_) rfl (by kernel_rfl) (by kernel_rfl) (by kernel_rfl) (by kernel_rfl) (fun _ _ _ h => h) (Or.inl ⟨by rfl, ?_⟩) hS ?_
            rotate_left 1
            · intro w hSw
              (go_simp) <;> (with_reducible rfl)
            try simp only [Act.put, List.setIfInBounds_toArray, List.set_cons_zero, List.set_cons_succ]
            refine wpAnyU_takeP (i := 23) (oi := { dst := some 79, op := Op.fieldAddr 50 (Operand.tmp 78) 2, type := 0, pos := "law.go:70", after := #[{ on := 22, ground := Ground.data }, { on := 0, ground := Ground.phase }, { on := 1, ground := Ground.textOnly Departure.lateStores }, { on := 2, ground := Ground.phase }, { on := 3, ground := Ground.phase }, { on := 4, ground := Ground.phase }, { on := 5, ground := Ground.phase }, { on := 6, ground := Ground.phase }, { on := 7, ground := Ground.phase }, { on := 8, ground := Ground.phase }, { on := 9, ground := Ground.phase }, { on := 10, ground := Ground.phase }, { on := 11, ground := Ground.phase }, { on := 12, ground := Ground.textOnly Departure.lateStores }, { on := 13, ground := Ground.textOnly Departure.lateStoresUnsure }, { on := 14, ground := Ground.textOnly Departure.lateStoresUnsure }, { on := 15, ground := Ground.phase }, { on := 16, ground := Ground.textOnly Departure.lateStores }, { on := 17, ground := Ground.textOnly Departure.lateStores }, { on := 18, ground := Ground.textOnly Departure.lateStoresUnsure }, { on := 19, ground := Ground.phase }, { on := 20, ground := Ground.textOnly Departure.lateStoresUnsure }, { on := 21, ground := Ground.phase }], guard := none }) (v := ?_) rfl (by kernel_rfl) (by kernel_rfl) (by kernel_rfl) (by kernel_rfl) (fun _ _ _ h => h) (Or.inl ⟨by rfl, ?_⟩) hS ?_
            rotate_left 1
            · intro w hSw
              (go_simp) <;> (with_reducible rfl)
            try simp only [Act.put, List.setIfInBounds_toArray, List.set_cons_zero, List.set_cons_succ]
            refine wpAnyU_ready (rs := [24]) (by kernel_rfl) (by simp) ?_
            refine AllReadyU.consZ (o := { dst := none, op := Op.store 24 (Operand.tmp 79) (Operand.tmp 67), type := 0, pos := "law.go:70", after := #[{ on := 23, ground := Ground.data }, { on := 11, ground := Ground.data }, { on := 21, ground := Ground.chain }, { on := 0, ground := Ground.phase }, { on := 1, ground := Ground.textOnly Departure.lateStores }, { on := 2, ground := Ground.phase }, { on := 3, ground := Ground.phase }, { on := 4, ground := Ground.phase }, { on := 5, ground := Ground.phase }, { on := 6, ground := Ground.phase }, { on := 7, ground := Ground.phase }, { on := 8, ground := Ground.phase }, { on := 9, ground := Ground.phase }, { on := 10, ground := Ground.phase }, { on := 11, ground := Ground.phase }, { on := 12, ground := Ground.textOnly Departure.lateStores }, { on := 13, ground := Ground.textOnly Departure.lateStoresUnsure }, { on := 14, ground := Ground.textOnly Departure.lateStoresUnsure }, { on := 15, ground := Ground.phase }, { on := 16, ground := Ground.textOnly Departure.lateStores }, { on := 17, ground := Ground.textOnly Departure.lateStores }, { on := 18, ground := Ground.textOnly Departure.lateStoresUnsure }, { on := 19, ground := Ground.phase }, { on := 20, ground := Ground.textOnly Departure.lateStoresUnsure }, { on := 21, ground := Ground.phase }], guard := none }) rfl (by kernel_rfl) (by kernel_rfl) (fun K hK => ?_) AllReadyU.nil
            go_simp
            refine hK.out _ _ ?_
            clear hK K
            try simp only [Act.put, List.setIfInBounds_toArray, List.set_cons_zero, List.set_cons_succ]
            refine wpAnyU_takeQ (i := 25) (oi := { dst := some 80, op := Op.nilCheck (Operand.tmp 57), type := 0, pos := "law.go:70", after := #[{ on := 1, ground := Ground.data }, { on := 0, ground := Ground.phase }, { on := 1, ground := Ground.phase }, { on := 2, ground := Ground.phase }, { on := 3, ground := Ground.phase }, { on := 4, ground := Ground.phase }, { on := 5, ground := Ground.phase }, { on := 6, ground := Ground.phase }, { on := 7, ground := Ground.phase }, { on := 8, ground := Ground.phase }, { on := 9, ground := Ground.phase }, { on := 10, ground := Ground.phase }, { on := 11, ground := Ground.phase }, { on := 12, ground := Ground.phase }, { on := 13, ground := Ground.phase }, { on := 14, ground := Ground.phase }, { on := 15, ground := Ground.phase }, { on := 16, ground := Ground.phase }, { on := 17, ground := Ground.phase }, { on := 18, ground := Ground.phase }, { on := 19, ground := Ground.phase }, { on := 20, ground := Ground.phase }, { on := 21, ground := Ground.phase }, { on := 22, ground := Ground.phase }, { on := 23, ground := Ground.phase }, { on := 24, ground := Ground.phase }], guard := none }) (v := ?_) rfl (by kernel_rfl) (by kernel_rfl) (by kernel_rfl) (by kernel_rfl) (by kernel_rfl) (fun _ _ _ h => h) (Or.inl ⟨by rfl, ?_⟩) ?_
            rotate_left 1
            · intro w hSw
              (go_simp) <;> (with_reducible rfl)
            try simp only [Act.put, List.setIfInBounds_toArray, List.set_cons_zero, List.set_cons_succ]
            refine wpAnyU_takeQ (i := 26) (oi := { dst := some 81, op := Op.fieldAddr 91 (Operand.tmp 80) 2, type := 0, pos := "law.go:70", after := #[{ on := 25, ground := Ground.data }, { on := 0, ground := Ground.phase }, { on := 1, ground := Ground.phase }, { on := 2, ground := Ground.phase }, { on := 3, ground := Ground.phase }, { on := 4, ground := Ground.phase }, { on := 5, ground := Ground.phase }, { on := 6, ground := Ground.phase }, { on := 7, ground := Ground.phase }, { on := 8, ground := Ground.phase }, { on := 9, ground := Ground.phase }, { on := 10, ground := Ground.phase }, { on := 11, ground := Ground.phase }, { on := 12, ground := Ground.phase }, { on := 13, ground := Ground.phase }, { on := 14, ground := Ground.phase }, { on := 15, ground := Ground.phase }, { on := 16, ground := Ground.phase }, { on := 17, ground := Ground.phase }, { on := 18, ground := Ground.phase }, { on := 19, ground := Ground.phase }, { on := 20, ground := Ground.phase }, { on := 21, ground := Ground.phase }, { on := 22, ground := Ground.phase }, { on := 23, ground := Ground.phase }, { on := 24, ground := Ground.phase }], guard := none }) (v := ?_) rfl (by kernel_rfl) (by kernel_rfl) (by kernel_rfl) (by kernel_rfl) (by kernel_rfl) (fun _ _ _ h => h) (Or.inl ⟨by rfl, ?_⟩) ?_
            rotate_left 1
            · intro w hSw
              (go_simp) <;> (with_reducible rfl)
            try simp only [Act.put, List.setIfInBounds_toArray, List.set_cons_zero, List.set_cons_succ]
            refine wpAnyU_ready (rs := [27]) (by kernel_rfl) (by simp) ?_
            refine AllReadyU.consZ (o := { dst := none, op := Op.store 24 (Operand.tmp 81) (Operand.tmp 77), type := 0, pos := "law.go:70", after := #[{ on := 26, ground := Ground.data }, { on := 21, ground := Ground.data }, { on := 24, ground := Ground.chain }, { on := 0, ground := Ground.phase }, { on := 1, ground := Ground.phase }, { on := 2, ground := Ground.phase }, { on := 3, ground := Ground.phase }, { on := 4, ground := Ground.phase }, { on := 5, ground := Ground.phase }, { on := 6, ground := Ground.phase }, { on := 7, ground := Ground.phase }, { on := 8, ground := Ground.phase }, { on := 9, ground := Ground.phase }, { on := 10, ground := Ground.phase }, { on := 11, ground := Ground.phase }, { on := 12, ground := Ground.phase }, { on := 13, ground := Ground.phase }, { on := 14, ground := Ground.phase }, { on := 15, ground := Ground.phase }, { on := 16, ground := Ground.phase }, { on := 17, ground := Ground.phase }, { on := 18, ground := Ground.phase }, { on := 19, ground := Ground.phase }, { on := 20, ground := Ground.phase }, { on := 21, ground := Ground.phase }, { on := 22, ground := Ground.phase }, { on := 23, ground := Ground.phase }, { on := 24, ground := Ground.phase }], guard := none }) rfl (by kernel_rfl) (by kernel_rfl) (fun K hK => ?_) AllReadyU.nil
            go_simp
            refine hK.out _ _ ?_
            clear hK K
            try simp only [Act.put, List.setIfInBounds_toArray, List.set_cons_zero, List.set_cons_succ]
            refine wpAnyU_done (by kernel_rfl) ?_ _
            go_wp2_with fail
            go_roundw
            case rel => exact ⟨i + 1, .slice pf ((bs.take i).length + 1) kf, .slice pg ((bs.take i).length + 1) kg, by omega, by omega, by go_num, Lib.hid (by rw [HTN.out]; have h := (T.out.next hfin).1; simp only [List.length_take] at h ⊢; exact h)⟩
            case measure => simp [intOf]; omega
          · have hend : L2 ≤ i ∨ (i < L2 ∧ 8 ≤ i) := by omega
            have FIN := Lib.hid (show FramePostB pc zs bs w (.returned (.tuple #[.pointer (some ⟨b, 0, none⟩), .pointer (some ⟨b + 1, 0, none⟩)])) wr from ⟨b, v1, v2, rfl, by
              have h := T.out
              rw [HRR.out] at h
              have e : bs.take i = bs.take 8 := by
                have := HL2.out
                rcases hend with h1 | h1
                · rw [List.take_of_length_le (by omega), List.take_of_length_le (by omega)]
                · rw [show i = 8 by omega]
              rw [e] at h
              exact h⟩)
            clear hlt T
            rcases hend with he | ⟨he, he2⟩
            all_goals
              go_wp2_with fail
              go_ret2
              exact FIN.out
end Go.Proofs.YtobbmhboahognaaDoor

namespace Go.Proofs.YtobbmhboahognaaDoor
open Go.RowKit
set_option linter.unusedVariables false

/-- The three instructions. -/
def kC (v op : Int) : List Inst := [⟨17, 1, -1, 0, v, 0, 0⟩, ⟨56, 0, 0, 0, 0, 0, 0⟩, ⟨op, 0, 0, 0, 0, 0, 0⟩]
def kM : Cells := Vm0 (stI [] 0) 0
structure KeptS (w W : World) (b bm bc X : Nat) (C : Option Addr) (pc : Int) (R : List Int) (A : Option Addr) (cap : Nat) (v op : Int) : Prop where
  fr : FrameIn W b [] ⟨pc, R, [4, 5]⟩ A cap
  was : W.rangeAt X 0 (R.map (Value.int .u64))
  code : InsIn W C (kC v op)
  mem : MemAt W bm bc kM 11
  ap : b ≠ X ∧ b ≠ bm ∧ b ≠ bc
  apC : ∀ p, C = some p → p.block ≠ b
  bel : Below w.heap.size w W
  bw : w.heap.size ≤ b
  ok : RegsOk R
theorem frm_range {W : World} {b : Nat} {N : List Nat} {f : Frm} {A : Option Addr} {cap : Nat} (h : FrameIn W b N f A cap) : W.rangeAt b 1 (f.r.map (Value.int .u64)) := fun j v hv => by
  have hj : j < f.r.length := by simpa using (List.getElem?_eq_some_iff.1 hv).1
  rw [h.reg j (by rw [← h.len]; exact hj), ← hv]
  simp [hj]
theorem range_only {W W' : World} {F : List Nat} {b o : Nat} {cs : List Value} (h : W.rangeAt b o cs) (ho : Only F W W') (hb : b ∉ F) : W'.rangeAt b o cs := fun j v hv => by
  have hc := h j v hv
  rw [World.cell?_of_block (w := W) (w' := W') (a := ⟨b, o + j, none⟩) (ho.block b (World.block_lt_of_cell? W _ hc) hb)]
  exact hc
section
variable {w W W' : World} {b bm bc X : Nat} {C : Option Addr} {pc : Int} {R : List Int} {A : Option Addr} {cap : Nat} {v op : Int}
theorem KeptS.below (h : KeptS w W b bm bc X C pc R A cap v op) (hb : Below W.heap.size W W') : KeptS w W' b bm bc X C pc R A cap v op :=
  ⟨h.fr.below hb, range_only h.was (Only.of_below (F := []) hb) (by simp), h.code.below hb, h.mem.only (F := []) (Only.of_below hb) (by simp) (by simp), h.ap, h.apC, h.bel.trans (hb.mono h.bel.size), h.bw, h.ok⟩
theorem KeptS.setPc (h : KeptS w W b bm bc X C pc R A cap v op) (y : Int) : KeptS w (W.setCell ⟨b, 0, none⟩ (.int .i64 y)) b bm bc X C y R A cap v op := by
  have o : Only [b] W (W.setCell ⟨b, 0, none⟩ (.int .i64 y)) := (Only.refl [b] W).setCell (p := ⟨b, 0, none⟩) (Or.inl (by simp)) _
  refine ⟨h.fr.setPc y, range_only h.was o (by simpa using fun e => h.ap.1 e.symm), h.code.only o (fun a e => by simpa using h.apC a e), h.mem.only o (by simpa using fun e => h.ap.2.1 e.symm) (by simpa using fun e => h.ap.2.2 e.symm), h.ap, h.apC, h.bel.setCell (p := ⟨b, 0, none⟩) h.bw _, h.bw, h.ok⟩
theorem KeptS.pc0 (h : KeptS w W b bm bc X C pc R A cap v op) : W.cell? ⟨b, 0, none⟩ = some (.int .i64 pc) := h.fr.pc
theorem KeptS.fpc (h : KeptS w W b bm bc X C pc R A cap v op) : W.frozen? ⟨b, 0, none⟩ = false := h.fr.free 0 (by omega)
theorem KeptS.sat (h : KeptS w W b bm bc X C pc R A cap v op) : W.cell? ⟨b, 0, none⟩ = some (.int .i64 pc) ∧ W.rangeAt b 1 (R.map (Value.int .u64)) ∧ W.rangeAt X 0 (R.map (Value.int .u64)) := ⟨h.pc0, frm_range h.fr, h.was⟩
theorem KeptS.fok (h : KeptS w W b bm bc X C pc R A cap v op) : FrmOk ⟨pc, R, [4, 5]⟩ := ⟨fun i => (h.ok i).1, fun i => (h.ok i).2, by simp⟩
theorem kept_ws (q : Nat) (h : 11 ≤ q) : widthAt kM.ws q = 0 := by
  by_cases h1 : q = 11
  · subst h1; kernel_rfl
  · exact widthAt_out _ _ (by
      have : kM.ws.length = 12 := by kernel_rfl
      omega)
/-- A cell that isn't there. -/
theorem kept1 (h : KeptS w W b bm bc X C 0 R A cap v op) (q : Nat) (hq : 11 ≤ q ∧ q ≤ 2000) (hv : v = (q : Int)) :
    Calls Tryd.prog 12 #[.pointer (some ⟨b, 0, none⟩), .slice C 3 3, .iface 25 (.pointer (some ⟨bm, 0, none⟩))] W (AccErr 0 (q : Int) W) := by
  have SI : StepIn W b [] ⟨0, R, [4, 5]⟩ A cap C (kC v op) 0 ⟨17, (1 : Nat), -1, 0, v, 0, 0⟩ :=
    ⟨h.fr, h.fok, h.code, rfl, by simp [kC], by simp [kC], rfl, ⟨by rw [hv]; show (0 : Int) ≤ (q : Int); omega, by rw [hv]; show (q : Int) ≤ 18446744073709551615; omega⟩⟩
  have := step_accbad SI (by show okB ⟨17, (1 : Nat), -1, 0, v, 0, 0⟩ 3 = true; simp [okB]; rfl) 3 bm bc kM 11 h.mem v_good (by decide) (by decide) (by omega) q (by
    show (regV ⟨0, R, [4, 5]⟩ (-1) + v) % 18446744073709551616 = (q : Int)
    rw [show regV ⟨0, R, [4, 5]⟩ (-1) = 0 from rfl, hv]; omega) (kept_ws q hq.1) (by omega)
  have e : badPlace q = (q : Int) := by unfold badPlace; rw [if_neg (by omega)]
  rw [e] at this
  exact this
/-- A library's own instruction. -/
theorem kept2 (h : KeptS w W b bm bc X C 1 R A cap v op) : Calls Tryd.prog 12 #[.pointer (some ⟨b, 0, none⟩), .slice C 3 3, .iface 25 (.pointer (some ⟨bm, 0, none⟩))] W (WrongPost 1 W) := by
  have SI : StepIn W b [] ⟨1, R, [4, 5]⟩ A cap C (kC v op) 1 ⟨56, 0, 0, 0, 0, 0, 0⟩ :=
    ⟨h.fr, ⟨fun i => (h.ok i).1, fun i => (h.ok i).2, by simp⟩, h.code, rfl, by simp [kC], by simp [kC], rfl, ⟨by decide, by decide⟩⟩
  exact step_away SI (by kernel_rfl) 3 _ (by omega)
/-- A place behind the code. -/
theorem kept3 (h : KeptS w W b bm bc X C pc R A cap v op) (hp : 3 ≤ pc) : Calls Tryd.prog 12 #[.pointer (some ⟨b, 0, none⟩), .slice C 3 3, .iface 25 (.pointer (some ⟨bm, 0, none⟩))] W (WrongPost 3 W) :=
  step_out h.fr C 3 3 _ (Or.inr hp)
theorem kept_err {z1 z2 : Nat} {n place : Int} (h1 : W.heap[z1]? = some (.cells #[.string vmS, .int .i64 n, .iface 108 (.pointer (some ⟨z2, 0, none⟩))] 112))
    (h2 : W.heap[z2]? = some (.cells #[.string memS, .int .i64 place, .iface 55 (.int .i64 2)] 112)) : ErrAt W (.iface 108 (.pointer (some ⟨z1, 0, none⟩))) [(vmS, n), (memS, place)] 2 :=
  .place _ vmS n _ _ 2 (by rw [cells_of h1]; rfl) (by rw [cells_of h1]; rfl) (by rw [cells_of h1]; rfl) (.place _ memS place _ _ 2 (by rw [cells_of h2]; rfl) (by rw [cells_of h2]; rfl) (by rw [cells_of h2]; rfl) (.kind 2))
end
end Go.Proofs.YtobbmhboahognaaDoor

namespace Go.Proofs.YtobbmhboahognaaDoor
open Go.RowKit
set_option linter.unusedVariables false

theorem below_drewI (w : World) (n : Nat) : Below w.heap.size w (w.drewN n) := ⟨rfl, rfl, rfl, Nat.le_refl _, fun _ _ => rfl⟩
set_option maxHeartbeats 4000000 in
set_option maxRecDepth 100000 in
theorem ints_same {W : World} {A1 A2 : Option Addr} {k1 k2 : Nat} {zs : List Int} (h1 : IntsIn W .i64 A1 zs) (h2 : IntsIn W .i64 A2 zs) (hl : zs.length < 1073741824) :
    Calls Tryd.prog 19 #[.slice A1 zs.length k1, .slice A2 zs.length k2] W fun e w' => e = .returned (.bool true) ∧ Below W.heap.size W w' := by
  have H1 := Lib.hid h1
  have H2 := Lib.hid h2
  obtain ⟨n, hn⟩ : ∃ n, n = zs.length := ⟨_, rfl⟩
  rw [← hn] at hl ⊢
  have HN := Lib.hid hn
  have hne : ((n : Int) != (n : Int)) = false := by simp
  clear h1 h2 hn
  go_enter Tryd.func19, Tryd.ntmps19
  go_wp2_with fail
  go_loopw [5] (fun vi wr => ∃ (i : Nat), i ≤ n ∧ vi = .int .i64 i ∧ Hid (∃ m, wr = W.drewN m)) (fun vi _ => n - (intOf vi).toNat)
  case atStart => exact ⟨0, Nat.zero_le _, rfl, Lib.hid ⟨0, rfl⟩⟩
  case round =>
    obtain ⟨i, hi, rfl, hwr⟩ := hrel
    have hcw : ∀ a, wr.cell? a = W.cell? a := fun a => by obtain ⟨m, rfl⟩ := hwr.out; rfl
    by_cases hlt : i < n
    · obtain ⟨p1, rfl, _, q1⟩ := H1.out i (by rw [← HN.out]; exact hlt)
      obtain ⟨p2, rfl, _, q2⟩ := H2.out i (by rw [← HN.out]; exact hlt)
      rw [← hcw] at q1 q2
      generalize zs.getD i 0 = x at q1 q2
      have hx : (x != x) = false := by simp
      have hin : (i : Int) < (n : Int) := by omega
      clear hcw
      go_upto_region 6 with fail
      go_quiet (fail)
      go_wp2_with fail
      go_roundw
      case rel => exact ⟨i + 1, by omega, by go_num, Lib.hid (by obtain ⟨m, e⟩ := hwr.out; exact ⟨_, by rw [e, World.drewN_drewN]⟩)⟩
      case measure => simp [intOf]; omega
    · obtain rfl : n = i := by omega
      clear hcw
      go_wp2_with fail
      go_ret
      exact ⟨rfl, by obtain ⟨m, rfl⟩ := hwr.out; exact below_drewI _ _⟩
end Go.Proofs.YtobbmhboahognaaDoor

namespace Go.Proofs.YtobbmhboahognaaDoor
open Go.RowKit
set_option linter.unusedVariables false
set_option linter.unusedSimpArgs false

theorem info_arrK : (Tryd.prog.info? 48).map (·.size) = some 32 := by kernel_rfl
theorem words_oneK (rs : List Int) : ∀ u ∈ rs.map (Value.int .u64), u.oneCell' = true := by
  intro u hu
  obtain ⟨z, _, rfl⟩ := List.mem_map.1 hu
  rfl
theorem kept_setCells {B b : Nat} {a : World} (hb : B ≤ b) : ∀ (vs : List Value) (o : Nat) (w : World), Below B a w → Below B a (w.setCells b o vs)
  | [], _, _, h => h
  | v :: vs, o, w, h => kept_setCells hb vs (o + 1) _ (h.setCell (p := ⟨b, o, none⟩) hb v)
theorem kept_there (wb : World) (Z : Array Value) (n : Nat) (hZ : Z.size = n) (t : TypeId) : (wb.alloc (.cells Z t)).there wb.heap.size 0 n := fun j hj => by
  have hr := Row.new wb Z.toList t
  have hl : Z.toList.length = n := by simpa using hZ
  rw [show Z.toList.toArray = Z by simp] at hr
  rw [Nat.zero_add]
  exact ⟨by rw [hr.cell j (by omega)]; rfl, hr.free j (by omega)⟩
theorem kept_start {w W W2 : World} {b bm bc r bw bh X g : Nat} {R : List Int} {A : Option Addr} {cap : Nat} {v op : Int} (hb : VBoth W bm bc r bw bh (Vm0 (stI [] 0) 0)) : True := trivial
set_option maxHeartbeats 8000000 in
set_option maxRecDepth 100000 in
theorem vmKept_walk (op u pc : Int) (_w0 : (Lit.int .i64 op).wf = true) (w2 : (Lit.int .u64 u).wf = true) (_w3 : (Lit.int .i64 pc).wf = true)
    (w : World) (A : Option Addr) (cap : Nat) (zs : List Int) (hl : zs.length ≤ maxLen) (hI : IntsIn w .u64 A zs) (hw : ∀ z ∈ zs, (Lit.int .u64 z).wf = true) (hg : ErrType w) :
    Calls Tryd.prog 4 #[.int .i64 op, .slice A zs.length cap, .int .u64 u, .int .i64 pc] w fun e w' => e = .returned (.bool true) ∧ Below w.heap.size w w' := by
  obtain ⟨v0, v1⟩ := u64_wf w2
  have hz : RegsOk zs := fun i => by
    by_cases h : i < zs.length
    · exact u64_mem hw i h
    · have : zs.getD i 0 = 0 := by simp [List.getD, List.getElem?_eq_none (show zs.length ≤ i by omega)]
      rw [this]; omega
  unfold maxLen at hl
  have b1 := Int.emod_nonneg op (show (36 : Int) ≠ 0 by omega)
  have b2 := Int.emod_lt_of_pos op (show (0 : Int) < 36 by omega)
  have W1 := Lib.hid (fun W => within_any op 36 (by omega) (by omega) W)
  obtain ⟨q1, hq1⟩ : ∃ q : Nat, op % 36 = q := ⟨(op % 36).toNat, by omega⟩
  rw [hq1] at W1 b2
  have b3 := Int.emod_nonneg pc (show (1000 : Int) ≠ 0 by omega)
  have b4 := Int.emod_lt_of_pos pc (show (0 : Int) < 1000 by omega)
  have W2 := Lib.hid (fun W => within_any pc 1000 (by omega) (by omega) W)
  obtain ⟨q2, hq2⟩ : ∃ q : Nat, pc % 1000 = q := ⟨(pc % 1000).toNat, by omega⟩
  rw [hq2] at W2 b4
  obtain ⟨q, hq⟩ : ∃ q : Nat, u % 1000 = q := ⟨(u % 1000).toNat, by omega⟩
  have hq0 : q < 1000 := by omega
  have hum : u.tmod 1000 = (q : Int) := by rw [Int.tmod_eq_emod_of_nonneg v0]; exact hq
  have hqw : IntKind.u64.wrap (11 + (q : Int)) = 11 + (q : Int) := by rw [IntKind.wrap_u64]; omega
  have hqi : IntKind.i64.wrap (11 + (q : Int)) = 11 + (q : Int) := by simp [IntKind.wrap, IntKind.signed, IntKind.bits]; omega
  have BO := Lib.hid (both_any none 0 [] w (by simp) (fun i hi => by simp at hi) (fun i => by simp))
  have AW := Lib.hid vawake_any
  have HI := Lib.hid hI
  have HG := Lib.hid hg
  have GB := Lib.hid (cell_lt hg)
  have HZ := Lib.hid hz
  obtain ⟨L, hL⟩ : ∃ L, L = zs.length := ⟨_, rfl⟩
  rw [← hL] at hl ⊢
  have HL := Lib.hid hL
  clear hI hw hg hz hq1 hq2 b1 b3 hL _w0 _w3
  go_enter Tryd.func4, Tryd.ntmps4
  go_wp2_with fail
  go_at_call 7
  refine BO.out.mono ?_
  rintro e wa ⟨bm, bc, r, bw, bh, n, rfl, hn, hv, hbel, k1, k2, k3, k4, k5⟩
  obtain rfl : n = 0 := by simpa using hn
  have VB := Lib.hid hv
  have HA := Lib.hid hbel
  clear hn hv hbel
  have FR := Lib.hid (fun (W : World) (hb : Below wa.heap.size wa W) (g : Nat) (hc : IntsIn W .i64 (some ⟨g, 0, none⟩) [4, 5]) => (by
    have := frame_any A cap zs 0 (some ⟨g, 0, none⟩) 2 [4, 5] W (by rw [← HL.out]; omega) ((HI.out.below HA.out).below hb) (by simp) hc
    rw [← HL.out] at this
    exact this : Calls Tryd.prog 9 #[.int .i64 0, .slice A L cap, .slice (some ⟨g, 0, none⟩) 2 2] W (FramePostB 0 zs [4, 5] W)))
  go_wp2_with fail
  go_at_call 9
  refine (FR.out _ ((Below.refl _ _).alloc (Nat.le_refl _) _) wa.heap.size (fun i hi => ⟨_, rfl, by simp, by
    have hr := Row.new wa [.int .i64 4, .int .i64 5] 3
    rw [addV0]
    have := hr.cell i (by simpa using hi)
    rw [this]
    have h2 : i < 2 := by simpa using hi
    rcases i with _ | _ | i
    · rfl
    · rfl
    · omega⟩)).mono ?_
  rintro e wb ⟨b, va, vb, rfl, TW⟩
  have hTb := TW.hb
  obtain ⟨A1, c1, A2, c2, hF1, hF2, _, _, _⟩ := TW.frames [] [] (by simp) (by simp)
  have hbelb := TW.bel
  have HRO := rgI_ok zs HZ.out (min zs.length 32)
  obtain ⟨R, hR⟩ : ∃ R, R = rgI zs (min zs.length 32) := ⟨_, rfl⟩
  rw [← hR] at hF1 HRO
  have hF : FrameIn wb b [] ⟨0, R, [4, 5]⟩ A1 c1 := hF1
  have hRl : R.length = 32 := hF.len
  obtain ⟨cs, hcs⟩ : ∃ cs, cs = R.map (Value.int .u64) := ⟨_, rfl⟩
  have hca : cs.length = 32 := by rw [hcs, List.length_map, hRl]
  have hc1 : ∀ u ∈ cs, u.oneCell' = true := by rw [hcs]; exact words_oneK R
  have hu := Tryd.underlying48
  have hi : (Tryd.prog.info? 48).map (·.size) = some cs.length := by rw [hca]; exact info_arrK
  have ga := frm_range hF
  simp only at ga
  rw [← hcs] at ga
  simp only [World.size_alloc] at hTb
  have HF := Lib.hid hF
  have HCS := Lib.hid hcs
  have hsz : cs.toArray.size = 32 := by simpa using hca
  have HTW := Lib.hid TW
  have HTB := Lib.hid hTb
  have HRO' := Lib.hid HRO
  have HBB := Lib.hid hbelb
  clear hcs HRO hTb hbelb hF hF1 hF2 TW FR BO HI hR
  have KEY := Lib.hid (fun (Z : Array Value) (hZ : Z.size = 32) => (show Below wb.heap.size wb ((wb.alloc (.cells Z 48)).setCells wb.heap.size 0 cs) ∧ ((wb.alloc (.cells Z 48)).setCells wb.heap.size 0 cs).rangeAt wb.heap.size 0 cs from
    ⟨kept_setCells (Nat.le_refl _) cs 0 _ ((Below.refl _ _).alloc (Nat.le_refl _) _), World.rangeAt_setCells_same _ _ _ _ (kept_there wb Z cs.length (by rw [hca]; exact hZ) _)⟩))
  go_upto_region 6 with (first
    | (refine wpList_load_mid rfl 48 _ rfl b 1 rfl cs _ (World.rangeAt_alloc ga _) hu rfl hi ?_)
    | (refine wpList_load_mid rfl 48 _ rfl b 1 rfl cs _ ga hu rfl hi ?_)
    | (refine wpList_store_mid rfl 48 _ _ rfl wb.heap.size 0 cs.toArray rfl rfl (kept_there wb _ _ (by rw [hsz]; rfl) _) hi (all_oneCell_toArray hc1) ?_))
  generalize hW5 : (World.setCells _ _ _ cs) = W5
  have K5 : Below wb.heap.size wb W5 ∧ W5.rangeAt wb.heap.size 0 cs := by rw [← hW5]; exact KEY.out _ rfl
  clear hW5 KEY
  obtain ⟨X, hX⟩ : ∃ X, X = wb.heap.size := ⟨_, rfl⟩
  simp only [← hX]
  have KS := Lib.hid (show KeptS w (W5.alloc (.cells (flatIns (kC (11 + (q : Int)) (23 + (q1 : Int)))).toArray 52)) b bm bc X (some ⟨W5.heap.size, 0, none⟩) 0 R A1 c1 (11 + (q : Int)) (23 + (q1 : Int)) by
    have q0 := HF.out
    have hlt := q0.top.lt
    have m0 := VB.out.p
    have ml1 := m0.top.lt
    have ml2 := m0.lt
    have eb := HTB.out
    have bab : Below wa.heap.size wa wb := by
      have h1 : Below wa.heap.size wa (wa.alloc (.cells #[.int .i64 4, .int .i64 5] 3)) := (Below.refl _ _).alloc (Nat.le_refl _) _
      exact h1.trans (HBB.out.mono (by omega))
    have b56 : Below W5.heap.size W5 (W5.alloc (.cells (flatIns (kC (11 + (q : Int)) (23 + (q1 : Int)))).toArray 52)) := (Below.refl _ _).alloc (Nat.le_refl _) _
    have s5 := K5.1.size
    have bwb : Below wb.heap.size wb (W5.alloc (.cells (flatIns (kC (11 + (q : Int)) (23 + (q1 : Int)))).toArray 52)) := K5.1.trans (b56.mono s5)
    have bwa := bab.trans (bwb.mono bab.size)
    refine ⟨q0.below bwb, ?_, insIn_new W5 _ _, m0.only (F := []) (Only.of_below bwa) (by simp) (by simp), ⟨by omega, by omega, by omega⟩, fun p e => by cases e; show W5.heap.size ≠ b; omega, HA.out.trans (bwa.mono HA.out.size), by have := HA.out.size; omega, HRO'.out⟩
    rw [hX, ← HCS.out]
    exact range_only K5.2 (Only.of_below (F := []) b56) (by simp))
  have ST := Lib.hid (kept1 KS.out (11 + q) (by omega) (by omega))
  clear K5 hX HF HTB HBB HRO' VB HA k1 k2 k3 k4 k5 HTW
  go_wp2_with (go_at_call 11; refine (W1.out _).mono ?_; rintro e w' ⟨rfl, rfl⟩)
  go_at_call 12
  refine ST.out.mono ?_
  rintro e W7 ⟨z1, z2, rfl, e1, e2, _, _, hb7⟩
  have K7 := Lib.hid (KS.out.below hb7)
  have E7 := Lib.hid (show ErrAt W7 (.iface 108 (.pointer (some ⟨z1, 0, none⟩))) [(vmS, 0), (memS, 11 + (q : Int))] 2 by
    have h := kept_err e1 e2
    rw [show ((11 + q : Nat) : Int) = 11 + (q : Int) by omega] at h
    exact h)
  clear e1 e2 hb7 KS ST
  go_upto_region 9 with fail
  -- REGIONS
  have SAT := Lib.hid (fun U pc (h : KeptS w U b bm bc X (some ⟨W5.heap.size, 0, none⟩) pc R A1 c1 (11 + (q : Int)) (23 + (q1 : Int))) => (by
    obtain ⟨h1, h2, h3⟩ := h.sat
    rw [← HCS.out] at h2 h3
    exact ⟨h1, h2, h3, h.fr.back⟩ : U.cell? ⟨b, 0, none⟩ = some (.int .i64 pc) ∧ U.rangeAt b 1 cs ∧ U.rangeAt X 0 cs ∧ U.cell? ⟨b, 33, none⟩ = some (.slice A1 2 c1)))
  have qa : ∀ w, (binOp .neq 48 (.agg cs.toArray) (.agg cs.toArray)).run Tryd.prog w = .ok (.bool false) w := by
    intro w
    rw [HCS.out]; exact arr_neq R hRl w
  have C1 := Lib.hid (fun U (h : KeptS w U b bm bc X (some ⟨W5.heap.size, 0, none⟩) 0 R A1 c1 (11 + (q : Int)) (23 + (q1 : Int))) (E : Value) (he : ErrAt U E [(vmS, 0), (memS, 11 + (q : Int))] 2) => (no_any memS (11 + (q : Int)) 2 U).mono fun e w' hp => (by
    obtain ⟨rfl, rfl⟩ := hp
    have hb := ((((Below.refl U.heap.size U).alloc (Nat.le_refl _) (.cells #[.string memS] 9)).alloc (by simp) (.cells #[.int .i64 (11 + (q : Int))] 3)).alloc (by simp; omega) (.cells #[.slice (some ⟨U.heap.size, 0, none⟩) 1 1, .slice (some ⟨U.heap.size + 1, 0, none⟩) 1 1, .int .i64 2] 107))
    exact ⟨_, rfl, FailBlk.new U memS (11 + (q : Int)) 2, h.below hb, he.mono (fun p v hc => by rw [hb.cell (World.block_lt_of_cell? _ _ hc)]; exact hc)⟩ : ∃ z, e = .returned (.pointer (some ⟨z + 1 + 1, 0, none⟩)) ∧ FailBlk w' z memS (11 + (q : Int)) 2 ∧ KeptS w w' b bm bc X (some ⟨W5.heap.size, 0, none⟩) 0 R A1 c1 (11 + (q : Int)) (23 + (q1 : Int)) ∧ ErrAt w' E [(vmS, 0), (memS, 11 + (q : Int))] 2))
  have C2 := Lib.hid (fun U (h : KeptS w U b bm bc X (some ⟨W5.heap.size, 0, none⟩) 0 R A1 c1 (11 + (q : Int)) (23 + (q1 : Int))) (E : Value) (he : ErrAt U E [(vmS, 0), (memS, 11 + (q : Int))] 2) (z : Nat) (hf : FailBlk U z memS (11 + (q : Int)) 2) => (in_some vmS 0 z memS (11 + (q : Int)) 2 U hf).mono fun e w' hp => (by
    obtain ⟨F, rfl, ⟨y, rfl⟩, hf', hb⟩ := hp
    exact ⟨y, rfl, hf', h.below hb, he.mono (fun p v hc => by rw [hb.cell (World.block_lt_of_cell? _ _ hc)]; exact hc)⟩ : ∃ y, e = .returned (.pointer (some ⟨y, 0, none⟩)) ∧ FailAt w' (.pointer (some ⟨y, 0, none⟩)) [(vmS, 0), (memS, 11 + (q : Int))] 2 ∧ KeptS w w' b bm bc X (some ⟨W5.heap.size, 0, none⟩) 0 R A1 c1 (11 + (q : Int)) (23 + (q1 : Int)) ∧ ErrAt w' E [(vmS, 0), (memS, 11 + (q : Int))] 2))
  have C3 := Lib.hid (fun U (h : KeptS w U b bm bc X (some ⟨W5.heap.size, 0, none⟩) 0 R A1 c1 (11 + (q : Int)) (23 + (q1 : Int))) (E : Value) (he : ErrAt U E [(vmS, 0), (memS, 11 + (q : Int))] 2) (F : Value) (hf : FailAt U F [(vmS, 0), (memS, 11 + (q : Int))] 2) => (same_any E F _ 2 he hf (by simp) (by omega) (by omega) (errType_below h.bel HG.out GB.out)).mono fun e w' hp => (⟨hp.1, h.below hp.2⟩ : e = .returned (.bool true) ∧ KeptS w w' b bm bc X (some ⟨W5.heap.size, 0, none⟩) 0 R A1 c1 (11 + (q : Int)) (23 + (q1 : Int))))
  have VD := K7.out.below (Below.refl _ _).drew
  have ED := ErrAt.mono (W := W7) (W' := W7.drew) (fun p v hc => hc) E7.out
  clear E7 K7
  refine wp_region_noPanic ?_
  refine wp_region_held_drew (S := (fun w' => w'.cell? ⟨b, 0, none⟩ = some (.int .i64 0) ∧ w'.rangeAt b 1 cs ∧ w'.rangeAt X 0 cs ∧ w'.cell? ⟨b, 33, none⟩ = some (.slice A1 2 c1))) (by kernel_rfl) (SAT.out _ _ VD) (fun hHeld => ?_)
  refine wpAnyH_take (i := 0) (oi := { dst := some 54, op := Op.move (Operand.tmp 16), type := 3, pos := "law.go:183", after := #[], guard := none }) (v := ?_) rfl (by kernel_rfl) (by kernel_rfl) (by kernel_rfl) (fun _ _ _ h => h) (Or.inl ⟨by rfl, ?_⟩) hHeld ?_
  rotate_left 1
  · intro w hSw
    (try dsimp only at hSw)
    (go_simp) <;> (with_reducible rfl)
  try simp only [Act.put, List.setIfInBounds_toArray, List.set_cons_zero, List.set_cons_succ]
  refine wpAnyH_take (i := 1) (oi := { dst := some 55, op := Op.binOp BinOp.neq 3 (Operand.tmp 54) (Operand.const (Value.int IntKind.i64 3)) 3, type := 4, pos := "law.go:183", after := #[{ on := 0, ground := Ground.data }], guard := none }) (v := ?_) rfl (by kernel_rfl) (by kernel_rfl) (by kernel_rfl) (fun _ _ _ h => h) (Or.inl ⟨by rfl, ?_⟩) hHeld ?_
  rotate_left 1
  · intro w hSw
    (try dsimp only at hSw)
    (go_simp) <;> (with_reducible rfl)
  try simp only [Act.put, List.setIfInBounds_toArray, List.set_cons_zero, List.set_cons_succ]
  refine wpAnyH_take (i := 2) (oi := { dst := some 56, op := Op.move (Operand.tmp 55), type := 4, pos := "law.go:183", after := #[{ on := 1, ground := Ground.data }], guard := none }) (v := ?_) rfl (by kernel_rfl) (by kernel_rfl) (by kernel_rfl) (fun _ _ _ h => h) (Or.inl ⟨by rfl, ?_⟩) hHeld ?_
  rotate_left 1
  · intro w hSw
    (try dsimp only at hSw)
    (go_simp) <;> (with_reducible rfl)
  try simp only [Act.put, List.setIfInBounds_toArray, List.set_cons_zero, List.set_cons_succ]
  refine wpAnyH_take (i := 3) (oi := { dst := some 57, op := Op.move (Operand.tmp 17), type := 37, pos := "law.go:183", after := #[{ on := 2, ground := Ground.guard }], guard := some (2, false) }) (v := ?_) rfl (by kernel_rfl) (by kernel_rfl) (by kernel_rfl) (fun _ _ _ h => h) (Or.inl ⟨by rfl, ?_⟩) hHeld ?_
  rotate_left 1
  · intro w hSw
    (try dsimp only at hSw)
    (go_simp) <;> (with_reducible rfl)
  try simp only [Act.put, List.setIfInBounds_toArray, List.set_cons_zero, List.set_cons_succ]
  refine wpAnyH_take (i := 4) (oi := { dst := some 58, op := Op.move (Operand.tmp 2), type := 47, pos := "law.go:183", after := #[{ on := 2, ground := Ground.guard }], guard := some (2, false) }) (v := ?_) rfl (by kernel_rfl) (by kernel_rfl) (by kernel_rfl) (fun _ _ _ h => h) (Or.inl ⟨by rfl, ?_⟩) hHeld ?_
  rotate_left 1
  · intro w hSw
    (try dsimp only at hSw)
    (go_simp) <;> (with_reducible rfl)
  try simp only [Act.put, List.setIfInBounds_toArray, List.set_cons_zero, List.set_cons_succ]
  refine wpAnyH_take (i := 5) (oi := { dst := some 59, op := Op.binOp BinOp.rem 47 (Operand.tmp 58) (Operand.const (Value.int IntKind.u64 1000)) 47, type := 47, pos := "law.go:183", after := #[{ on := 4, ground := Ground.data }, { on := 2, ground := Ground.guard }], guard := some (2, false) }) (v := ?_) rfl (by kernel_rfl) (by kernel_rfl) (by kernel_rfl) (fun _ _ _ h => h) (Or.inl ⟨by rfl, ?_⟩) hHeld ?_
  rotate_left 1
  · intro w hSw
    (try dsimp only at hSw)
    (go_simp) <;> (with_reducible rfl)
  try simp only [Act.put, List.setIfInBounds_toArray, List.set_cons_zero, List.set_cons_succ]
  refine wpAnyH_take (i := 6) (oi := { dst := some 60, op := Op.binOp BinOp.add 47 (Operand.const (Value.int IntKind.u64 11)) (Operand.tmp 59) 47, type := 47, pos := "law.go:183", after := #[{ on := 5, ground := Ground.data }, { on := 2, ground := Ground.guard }], guard := some (2, false) }) (v := ?_) rfl (by kernel_rfl) (by kernel_rfl) (by kernel_rfl) (fun _ _ _ h => h) (Or.inl ⟨by rfl, ?_⟩) hHeld ?_
  rotate_left 1
  · intro w hSw
    (try dsimp only at hSw)
    (go_simp) <;> (with_reducible rfl)
  try simp only [Act.put, List.setIfInBounds_toArray, List.set_cons_zero, List.set_cons_succ]
  refine wpAnyH_take (i := 7) (oi := { dst := some 61, op := Op.convert 47 3 (Operand.tmp 60), type := 3, pos := "law.go:183", after := #[{ on := 6, ground := Ground.data }, { on := 2, ground := Ground.guard }], guard := some (2, false) }) (v := ?_) rfl (by kernel_rfl) (by kernel_rfl) (by kernel_rfl) (fun _ _ _ h => h) (Or.inl ⟨by rfl, ?_⟩) hHeld ?_
  rotate_left 1
  · intro w hSw
    (try dsimp only at hSw)
    (go_simp) <;> (with_reducible rfl)
  try simp only [Act.put, List.setIfInBounds_toArray, List.set_cons_zero, List.set_cons_succ]
  refine wpAnyH_ready (rs := [8]) (by kernel_rfl) (by simp) ?_
  refine AllReadyH.cons (o := { dst := some 62, op := Op.call { callee := Callee.value (Operand.func 18), args := #[Operand.const (Value.string { data := #[109, 101, 109] }), Operand.tmp 61, Operand.const (Value.int IntKind.i64 2)], argTypes := #[9, 3, 55] }, type := 40, pos := "law.go:183", after := #[{ on := 7, ground := Ground.data }, { on := 2, ground := Ground.chain }, { on := 2, ground := Ground.guard }], guard := some (2, false) }) rfl (fun K hK => ?_) AllReadyH.nil
  go_simp
  go_at_call 18
  refine (C1.out _ VD _ ED).mono ?_
  clear hHeld
  clear VD ED
  rintro e U8 ⟨z, rfl, FD, VD, ED⟩
  refine hK.out _ _ (SAT.out _ _ VD) (fun hHeld => ?_)
  clear hK K
  try simp only [Act.put, List.setIfInBounds_toArray, List.set_cons_zero, List.set_cons_succ]
  refine wpAnyH_ready (rs := [9]) (by kernel_rfl) (by simp) ?_
  refine AllReadyH.cons (o := { dst := some 63, op := Op.call { callee := Callee.value (Operand.func 17), args := #[Operand.const (Value.string { data := #[118, 109] }), Operand.const (Value.int IntKind.i64 0), Operand.tmp 62], argTypes := #[9, 3, 40] }, type := 40, pos := "law.go:183", after := #[{ on := 8, ground := Ground.data }, { on := 8, ground := Ground.chain }, { on := 2, ground := Ground.guard }], guard := some (2, false) }) rfl (fun K hK => ?_) AllReadyH.nil
  go_simp
  go_at_call 17
  refine (C2.out _ VD _ ED z FD).mono ?_
  clear hHeld
  clear VD ED FD
  rintro e U9 ⟨y, rfl, FD, VD, ED⟩
  refine hK.out _ _ (SAT.out _ _ VD) (fun hHeld => ?_)
  clear hK K
  try simp only [Act.put, List.setIfInBounds_toArray, List.set_cons_zero, List.set_cons_succ]
  refine wpAnyH_ready (rs := [10]) (by kernel_rfl) (by simp) ?_
  refine AllReadyH.cons (o := { dst := some 64, op := Op.call { callee := Callee.value (Operand.func 14), args := #[Operand.tmp 57, Operand.tmp 63], argTypes := #[37, 40] }, type := 4, pos := "law.go:183", after := #[{ on := 3, ground := Ground.data }, { on := 9, ground := Ground.data }, { on := 9, ground := Ground.chain }, { on := 2, ground := Ground.guard }], guard := some (2, false) }) rfl (fun K hK => ?_) AllReadyH.nil
  go_simp
  go_at_call 14
  refine (C3.out _ VD _ ED _ FD).mono ?_
  clear hHeld
  clear VD ED FD
  rintro e U10 ⟨rfl, VD⟩
  refine hK.out _ _ (SAT.out _ _ VD) (fun hHeld => ?_)
  clear hK K
  try simp only [Act.put, List.setIfInBounds_toArray, List.set_cons_zero, List.set_cons_succ]
  refine wpAnyH_take (i := 11) (oi := { dst := some 65, op := Op.unOp UnOp.not 4 (Operand.tmp 64), type := 4, pos := "law.go:183", after := #[{ on := 10, ground := Ground.data }, { on := 2, ground := Ground.guard }], guard := some (2, false) }) (v := ?_) rfl (by kernel_rfl) (by kernel_rfl) (by kernel_rfl) (fun _ _ _ h => h) (Or.inl ⟨by rfl, ?_⟩) hHeld ?_
  rotate_left 1
  · intro w hSw
    (try dsimp only at hSw)
    (go_simp) <;> (with_reducible rfl)
  try simp only [Act.put, List.setIfInBounds_toArray, List.set_cons_zero, List.set_cons_succ]
  refine wpAnyH_take (i := 12) (oi := { dst := some 66, op := Op.pick (Operand.tmp 56) (Operand.const (Value.bool true)) (Operand.tmp 65), type := 4, pos := "law.go:183", after := #[{ on := 2, ground := Ground.data }, { on := 11, ground := Ground.data }], guard := none }) (v := ?_) rfl (by kernel_rfl) (by kernel_rfl) (by kernel_rfl) (fun _ _ _ h => h) (Or.inl ⟨by rfl, ?_⟩) hHeld ?_
  rotate_left 1
  · intro w hSw
    (try dsimp only at hSw)
    (go_simp) <;> (with_reducible rfl)
  try simp only [Act.put, List.setIfInBounds_toArray, List.set_cons_zero, List.set_cons_succ]
  refine wpAnyH_take (i := 13) (oi := { dst := some 67, op := Op.move (Operand.tmp 66), type := 4, pos := "law.go:183", after := #[{ on := 12, ground := Ground.data }, { on := 10, ground := Ground.chain }], guard := none }) (v := ?_) rfl (by kernel_rfl) (by kernel_rfl) (by kernel_rfl) (fun _ _ _ h => h) (Or.inl ⟨by rfl, ?_⟩) hHeld ?_
  rotate_left 1
  · intro w hSw
    (try dsimp only at hSw)
    (go_simp) <;> (with_reducible rfl)
  try simp only [Act.put, List.setIfInBounds_toArray, List.set_cons_zero, List.set_cons_succ]
  refine wpAnyH_take (i := 14) (oi := { dst := some 68, op := Op.move (Operand.tmp 11), type := 30, pos := "law.go:183", after := #[{ on := 13, ground := Ground.guard }], guard := some (13, false) }) (v := ?_) rfl (by kernel_rfl) (by kernel_rfl) (by kernel_rfl) (fun _ _ _ h => h) (Or.inl ⟨by rfl, ?_⟩) hHeld ?_
  rotate_left 1
  · intro w hSw
    (try dsimp only at hSw)
    (go_simp) <;> (with_reducible rfl)
  try simp only [Act.put, List.setIfInBounds_toArray, List.set_cons_zero, List.set_cons_succ]
  refine wpAnyH_take (i := 15) (oi := { dst := some 69, op := Op.nilCheck (Operand.tmp 68), type := 0, pos := "law.go:183", after := #[{ on := 14, ground := Ground.data }, { on := 13, ground := Ground.guard }], guard := some (13, false) }) (v := ?_) rfl (by kernel_rfl) (by kernel_rfl) (by kernel_rfl) (fun _ _ _ h => h) (Or.inl ⟨by rfl, ?_⟩) hHeld ?_
  rotate_left 1
  · intro w hSw
    (try dsimp only at hSw)
    (go_simp) <;> (with_reducible rfl)
  try simp only [Act.put, List.setIfInBounds_toArray, List.set_cons_zero, List.set_cons_succ]
  refine wpAnyH_take (i := 16) (oi := { dst := some 70, op := Op.fieldAddr 50 (Operand.tmp 69) 1, type := 0, pos := "law.go:183", after := #[{ on := 15, ground := Ground.data }, { on := 13, ground := Ground.guard }], guard := some (13, false) }) (v := ?_) rfl (by kernel_rfl) (by kernel_rfl) (by kernel_rfl) (fun _ _ _ h => h) (Or.inl ⟨by rfl, ?_⟩) hHeld ?_
  rotate_left 1
  · intro w hSw
    (try dsimp only at hSw)
    (go_simp) <;> (with_reducible rfl)
  try simp only [Act.put, List.setIfInBounds_toArray, List.set_cons_zero, List.set_cons_succ]
  refine wpAnyH_take (i := 17) (oi := { dst := some 71, op := Op.load 48 (Operand.tmp 70), type := 48, pos := "law.go:183", after := #[{ on := 16, ground := Ground.data }, { on := 13, ground := Ground.guard }], guard := some (13, false) }) (v := .agg cs.toArray) rfl (by kernel_rfl) (by kernel_rfl) (by kernel_rfl) (fun _ _ _ h => h) (yieldsIf_load_mid (by rfl) _ _ rfl _ _ rfl cs _ (fun w hSw => hSw.2.1) hu rfl hi) hHeld ?_
  simp only [List.getElem_toArray, List.getElem_cons_succ, List.getElem_cons_zero, Act.put, List.setIfInBounds_toArray, List.set_cons_zero, List.set_cons_succ]
  refine wpAnyH_take (i := 18) (oi := { dst := some 72, op := Op.load 48 (Operand.tmp 13), type := 48, pos := "law.go:183", after := #[{ on := 13, ground := Ground.guard }], guard := some (13, false) }) (v := .agg cs.toArray) rfl (by kernel_rfl) (by kernel_rfl) (by kernel_rfl) (fun _ _ _ h => h) (yieldsIf_load_mid (by rfl) _ _ rfl _ _ rfl cs _ (fun w hSw => hSw.2.2.1) hu rfl hi) hHeld ?_
  simp only [List.getElem_toArray, List.getElem_cons_succ, List.getElem_cons_zero, Act.put, List.setIfInBounds_toArray, List.set_cons_zero, List.set_cons_succ]
  refine wpAnyH_take (i := 19) (oi := { dst := some 73, op := Op.binOp BinOp.neq 48 (Operand.tmp 71) (Operand.tmp 72) 48, type := 4, pos := "law.go:183", after := #[{ on := 17, ground := Ground.data }, { on := 18, ground := Ground.data }, { on := 13, ground := Ground.guard }], guard := some (13, false) }) (v := ?_) rfl (by kernel_rfl) (by kernel_rfl) (by kernel_rfl) (fun _ _ _ h => h) (Or.inl ⟨by rfl, ?_⟩) hHeld ?_
  rotate_left 1
  · intro w hSw
    (try dsimp only at hSw)
    (go_simp) <;> (with_reducible rfl)
  try simp only [Act.put, List.setIfInBounds_toArray, List.set_cons_zero, List.set_cons_succ]
  refine wpAnyH_take (i := 20) (oi := { dst := some 74, op := Op.pick (Operand.tmp 67) (Operand.const (Value.bool true)) (Operand.tmp 73), type := 4, pos := "law.go:183", after := #[{ on := 13, ground := Ground.data }, { on := 19, ground := Ground.data }], guard := none }) (v := ?_) rfl (by kernel_rfl) (by kernel_rfl) (by kernel_rfl) (fun _ _ _ h => h) (Or.inl ⟨by rfl, ?_⟩) hHeld ?_
  rotate_left 1
  · intro w hSw
    (try dsimp only at hSw)
    (go_simp) <;> (with_reducible rfl)
  try simp only [Act.put, List.setIfInBounds_toArray, List.set_cons_zero, List.set_cons_succ]
  refine wpAnyH_take (i := 21) (oi := { dst := some 75, op := Op.move (Operand.tmp 74), type := 4, pos := "law.go:183", after := #[{ on := 20, ground := Ground.data }, { on := 13, ground := Ground.chain }], guard := none }) (v := ?_) rfl (by kernel_rfl) (by kernel_rfl) (by kernel_rfl) (fun _ _ _ h => h) (Or.inl ⟨by rfl, ?_⟩) hHeld ?_
  rotate_left 1
  · intro w hSw
    (try dsimp only at hSw)
    (go_simp) <;> (with_reducible rfl)
  try simp only [Act.put, List.setIfInBounds_toArray, List.set_cons_zero, List.set_cons_succ]
  refine wpAnyH_take (i := 22) (oi := { dst := some 76, op := Op.move (Operand.tmp 11), type := 30, pos := "law.go:183", after := #[{ on := 21, ground := Ground.guard }], guard := some (21, false) }) (v := ?_) rfl (by kernel_rfl) (by kernel_rfl) (by kernel_rfl) (fun _ _ _ h => h) (Or.inl ⟨by rfl, ?_⟩) hHeld ?_
  rotate_left 1
  · intro w hSw
    (try dsimp only at hSw)
    (go_simp) <;> (with_reducible rfl)
  try simp only [Act.put, List.setIfInBounds_toArray, List.set_cons_zero, List.set_cons_succ]
  refine wpAnyH_take (i := 23) (oi := { dst := some 77, op := Op.nilCheck (Operand.tmp 76), type := 0, pos := "law.go:183", after := #[{ on := 22, ground := Ground.data }, { on := 21, ground := Ground.guard }], guard := some (21, false) }) (v := ?_) rfl (by kernel_rfl) (by kernel_rfl) (by kernel_rfl) (fun _ _ _ h => h) (Or.inl ⟨by rfl, ?_⟩) hHeld ?_
  rotate_left 1
  · intro w hSw
    (try dsimp only at hSw)
    (go_simp) <;> (with_reducible rfl)
  try simp only [Act.put, List.setIfInBounds_toArray, List.set_cons_zero, List.set_cons_succ]
  refine wpAnyH_take (i := 24) (oi := { dst := some 78, op := Op.fieldAddr 50 (Operand.tmp 77) 0, type := 0, pos := "law.go:183", after := #[{ on := 23, ground := Ground.data }, { on := 21, ground := Ground.guard }], guard := some (21, false) }) (v := ?_) rfl (by kernel_rfl) (by kernel_rfl) (by kernel_rfl) (fun _ _ _ h => h) (Or.inl ⟨by rfl, ?_⟩) hHeld ?_
  rotate_left 1
  · intro w hSw
    (try dsimp only at hSw)
    (go_simp) <;> (with_reducible rfl)
  try simp only [Act.put, List.setIfInBounds_toArray, List.set_cons_zero, List.set_cons_succ]
  refine wpAnyH_take (i := 25) (oi := { dst := some 79, op := Op.load 3 (Operand.tmp 78), type := 3, pos := "law.go:183", after := #[{ on := 24, ground := Ground.data }, { on := 21, ground := Ground.guard }], guard := some (21, false) }) (v := ?_) rfl (by kernel_rfl) (by kernel_rfl) (by kernel_rfl) (fun _ _ _ h => h) (Or.inl ⟨by rfl, ?_⟩) hHeld ?_
  rotate_left 1
  · intro w hSw
    (try dsimp only at hSw)
    (go_simp) <;> (with_reducible rfl)
  try simp only [Act.put, List.setIfInBounds_toArray, List.set_cons_zero, List.set_cons_succ]
  refine wpAnyH_take (i := 26) (oi := { dst := some 80, op := Op.binOp BinOp.neq 3 (Operand.tmp 79) (Operand.const (Value.int IntKind.i64 0)) 3, type := 4, pos := "law.go:183", after := #[{ on := 25, ground := Ground.data }, { on := 21, ground := Ground.guard }], guard := some (21, false) }) (v := ?_) rfl (by kernel_rfl) (by kernel_rfl) (by kernel_rfl) (fun _ _ _ h => h) (Or.inl ⟨by rfl, ?_⟩) hHeld ?_
  rotate_left 1
  · intro w hSw
    (try dsimp only at hSw)
    (go_simp) <;> (with_reducible rfl)
  try simp only [Act.put, List.setIfInBounds_toArray, List.set_cons_zero, List.set_cons_succ]
  refine wpAnyH_take (i := 27) (oi := { dst := some 81, op := Op.pick (Operand.tmp 75) (Operand.const (Value.bool true)) (Operand.tmp 80), type := 4, pos := "law.go:183", after := #[{ on := 21, ground := Ground.data }, { on := 26, ground := Ground.data }], guard := none }) (v := ?_) rfl (by kernel_rfl) (by kernel_rfl) (by kernel_rfl) (fun _ _ _ h => h) (Or.inl ⟨by rfl, ?_⟩) hHeld ?_
  rotate_left 1
  · intro w hSw
    (try dsimp only at hSw)
    (go_simp) <;> (with_reducible rfl)
  try simp only [Act.put, List.setIfInBounds_toArray, List.set_cons_zero, List.set_cons_succ]
  refine wpAnyH_done (by kernel_rfl) ?_ _
  refine NoPanic.normal ?_
  have p0 := VD.pc0
  have p1 := VD.fpc
  have V1 := Lib.hid (VD.setPc 1)
  have S1 := Lib.hid (kept2 V1.out)
  clear VD hHeld C1 C2 C3
  go_wp2_with fail
  go_at_call 12
  refine S1.out.mono ?_
  rintro e U11 ⟨rfl, hb11⟩
  have VD := (V1.out.below hb11).below (Below.refl _ _).drew
  clear hb11 S1 V1 p0 p1
  go_upto_region 13 with fail
  refine wp_region_noPanic ?_
  refine wp_region_held_drew (S := (fun w' => w'.cell? ⟨b, 0, none⟩ = some (.int .i64 1) ∧ w'.rangeAt b 1 cs ∧ w'.rangeAt X 0 cs ∧ w'.cell? ⟨b, 33, none⟩ = some (.slice A1 2 c1))) (by kernel_rfl) (SAT.out _ _ VD) (fun hHeld => ?_)
  refine wpAnyH_take (i := 0) (oi := { dst := some 93, op := Op.move (Operand.tmp 16), type := 3, pos := "law.go:188", after := #[], guard := none }) (v := ?_) rfl (by kernel_rfl) (by kernel_rfl) (by kernel_rfl) (fun _ _ _ h => h) (Or.inl ⟨by rfl, ?_⟩) hHeld ?_
  rotate_left 1
  · intro w hSw
    (try dsimp only at hSw)
    (go_simp) <;> (with_reducible rfl)
  try simp only [Act.put, List.setIfInBounds_toArray, List.set_cons_zero, List.set_cons_succ]
  refine wpAnyH_take (i := 1) (oi := { dst := some 94, op := Op.binOp BinOp.neq 3 (Operand.tmp 93) (Operand.const (Value.int IntKind.i64 1)) 3, type := 4, pos := "law.go:188", after := #[{ on := 0, ground := Ground.data }], guard := none }) (v := ?_) rfl (by kernel_rfl) (by kernel_rfl) (by kernel_rfl) (fun _ _ _ h => h) (Or.inl ⟨by rfl, ?_⟩) hHeld ?_
  rotate_left 1
  · intro w hSw
    (try dsimp only at hSw)
    (go_simp) <;> (with_reducible rfl)
  try simp only [Act.put, List.setIfInBounds_toArray, List.set_cons_zero, List.set_cons_succ]
  refine wpAnyH_take (i := 2) (oi := { dst := some 95, op := Op.move (Operand.tmp 94), type := 4, pos := "law.go:188", after := #[{ on := 1, ground := Ground.data }], guard := none }) (v := ?_) rfl (by kernel_rfl) (by kernel_rfl) (by kernel_rfl) (fun _ _ _ h => h) (Or.inl ⟨by rfl, ?_⟩) hHeld ?_
  rotate_left 1
  · intro w hSw
    (try dsimp only at hSw)
    (go_simp) <;> (with_reducible rfl)
  try simp only [Act.put, List.setIfInBounds_toArray, List.set_cons_zero, List.set_cons_succ]
  refine wpAnyH_take (i := 3) (oi := { dst := some 96, op := Op.move (Operand.tmp 17), type := 37, pos := "law.go:188", after := #[{ on := 2, ground := Ground.guard }], guard := some (2, false) }) (v := ?_) rfl (by kernel_rfl) (by kernel_rfl) (by kernel_rfl) (fun _ _ _ h => h) (Or.inl ⟨by rfl, ?_⟩) hHeld ?_
  rotate_left 1
  · intro w hSw
    (try dsimp only at hSw)
    (go_simp) <;> (with_reducible rfl)
  try simp only [Act.put, List.setIfInBounds_toArray, List.set_cons_zero, List.set_cons_succ]
  refine wpAnyH_take (i := 4) (oi := { dst := some 97, op := Op.binOp BinOp.neq 37 (Operand.tmp 96) (Operand.const Value.nilIface) 37, type := 4, pos := "law.go:188", after := #[{ on := 3, ground := Ground.data }, { on := 2, ground := Ground.guard }], guard := some (2, false) }) (v := ?_) rfl (by kernel_rfl) (by kernel_rfl) (by kernel_rfl) (fun _ _ _ h => h) (Or.inl ⟨by rfl, ?_⟩) hHeld ?_
  rotate_left 1
  · intro w hSw
    (try dsimp only at hSw)
    (go_simp) <;> (with_reducible rfl)
  try simp only [Act.put, List.setIfInBounds_toArray, List.set_cons_zero, List.set_cons_succ]
  refine wpAnyH_take (i := 5) (oi := { dst := some 98, op := Op.pick (Operand.tmp 95) (Operand.const (Value.bool true)) (Operand.tmp 97), type := 4, pos := "law.go:188", after := #[{ on := 2, ground := Ground.data }, { on := 4, ground := Ground.data }], guard := none }) (v := ?_) rfl (by kernel_rfl) (by kernel_rfl) (by kernel_rfl) (fun _ _ _ h => h) (Or.inl ⟨by rfl, ?_⟩) hHeld ?_
  rotate_left 1
  · intro w hSw
    (try dsimp only at hSw)
    (go_simp) <;> (with_reducible rfl)
  try simp only [Act.put, List.setIfInBounds_toArray, List.set_cons_zero, List.set_cons_succ]
  refine wpAnyH_take (i := 6) (oi := { dst := some 99, op := Op.move (Operand.tmp 98), type := 4, pos := "law.go:188", after := #[{ on := 5, ground := Ground.data }, { on := 2, ground := Ground.chain }], guard := none }) (v := ?_) rfl (by kernel_rfl) (by kernel_rfl) (by kernel_rfl) (fun _ _ _ h => h) (Or.inl ⟨by rfl, ?_⟩) hHeld ?_
  rotate_left 1
  · intro w hSw
    (try dsimp only at hSw)
    (go_simp) <;> (with_reducible rfl)
  try simp only [Act.put, List.setIfInBounds_toArray, List.set_cons_zero, List.set_cons_succ]
  refine wpAnyH_take (i := 7) (oi := { dst := some 100, op := Op.move (Operand.tmp 11), type := 30, pos := "law.go:188", after := #[{ on := 6, ground := Ground.guard }], guard := some (6, false) }) (v := ?_) rfl (by kernel_rfl) (by kernel_rfl) (by kernel_rfl) (fun _ _ _ h => h) (Or.inl ⟨by rfl, ?_⟩) hHeld ?_
  rotate_left 1
  · intro w hSw
    (try dsimp only at hSw)
    (go_simp) <;> (with_reducible rfl)
  try simp only [Act.put, List.setIfInBounds_toArray, List.set_cons_zero, List.set_cons_succ]
  refine wpAnyH_take (i := 8) (oi := { dst := some 101, op := Op.nilCheck (Operand.tmp 100), type := 0, pos := "law.go:188", after := #[{ on := 7, ground := Ground.data }, { on := 6, ground := Ground.guard }], guard := some (6, false) }) (v := ?_) rfl (by kernel_rfl) (by kernel_rfl) (by kernel_rfl) (fun _ _ _ h => h) (Or.inl ⟨by rfl, ?_⟩) hHeld ?_
  rotate_left 1
  · intro w hSw
    (try dsimp only at hSw)
    (go_simp) <;> (with_reducible rfl)
  try simp only [Act.put, List.setIfInBounds_toArray, List.set_cons_zero, List.set_cons_succ]
  refine wpAnyH_take (i := 9) (oi := { dst := some 102, op := Op.fieldAddr 50 (Operand.tmp 101) 1, type := 0, pos := "law.go:188", after := #[{ on := 8, ground := Ground.data }, { on := 6, ground := Ground.guard }], guard := some (6, false) }) (v := ?_) rfl (by kernel_rfl) (by kernel_rfl) (by kernel_rfl) (fun _ _ _ h => h) (Or.inl ⟨by rfl, ?_⟩) hHeld ?_
  rotate_left 1
  · intro w hSw
    (try dsimp only at hSw)
    (go_simp) <;> (with_reducible rfl)
  try simp only [Act.put, List.setIfInBounds_toArray, List.set_cons_zero, List.set_cons_succ]
  refine wpAnyH_take (i := 10) (oi := { dst := some 103, op := Op.load 48 (Operand.tmp 102), type := 48, pos := "law.go:188", after := #[{ on := 9, ground := Ground.data }, { on := 6, ground := Ground.guard }], guard := some (6, false) }) (v := .agg cs.toArray) rfl (by kernel_rfl) (by kernel_rfl) (by kernel_rfl) (fun _ _ _ h => h) (yieldsIf_load_mid (by rfl) _ _ rfl _ _ rfl cs _ (fun w hSw => hSw.2.1) hu rfl hi) hHeld ?_
  simp only [List.getElem_toArray, List.getElem_cons_succ, List.getElem_cons_zero, Act.put, List.setIfInBounds_toArray, List.set_cons_zero, List.set_cons_succ]
  refine wpAnyH_take (i := 11) (oi := { dst := some 104, op := Op.load 48 (Operand.tmp 13), type := 48, pos := "law.go:188", after := #[{ on := 6, ground := Ground.guard }], guard := some (6, false) }) (v := .agg cs.toArray) rfl (by kernel_rfl) (by kernel_rfl) (by kernel_rfl) (fun _ _ _ h => h) (yieldsIf_load_mid (by rfl) _ _ rfl _ _ rfl cs _ (fun w hSw => hSw.2.2.1) hu rfl hi) hHeld ?_
  simp only [List.getElem_toArray, List.getElem_cons_succ, List.getElem_cons_zero, Act.put, List.setIfInBounds_toArray, List.set_cons_zero, List.set_cons_succ]
  refine wpAnyH_take (i := 12) (oi := { dst := some 105, op := Op.binOp BinOp.neq 48 (Operand.tmp 103) (Operand.tmp 104) 48, type := 4, pos := "law.go:188", after := #[{ on := 10, ground := Ground.data }, { on := 11, ground := Ground.data }, { on := 6, ground := Ground.guard }], guard := some (6, false) }) (v := ?_) rfl (by kernel_rfl) (by kernel_rfl) (by kernel_rfl) (fun _ _ _ h => h) (Or.inl ⟨by rfl, ?_⟩) hHeld ?_
  rotate_left 1
  · intro w hSw
    (try dsimp only at hSw)
    (go_simp) <;> (with_reducible rfl)
  try simp only [Act.put, List.setIfInBounds_toArray, List.set_cons_zero, List.set_cons_succ]
  refine wpAnyH_take (i := 13) (oi := { dst := some 106, op := Op.pick (Operand.tmp 99) (Operand.const (Value.bool true)) (Operand.tmp 105), type := 4, pos := "law.go:188", after := #[{ on := 6, ground := Ground.data }, { on := 12, ground := Ground.data }], guard := none }) (v := ?_) rfl (by kernel_rfl) (by kernel_rfl) (by kernel_rfl) (fun _ _ _ h => h) (Or.inl ⟨by rfl, ?_⟩) hHeld ?_
  rotate_left 1
  · intro w hSw
    (try dsimp only at hSw)
    (go_simp) <;> (with_reducible rfl)
  try simp only [Act.put, List.setIfInBounds_toArray, List.set_cons_zero, List.set_cons_succ]
  refine wpAnyH_take (i := 14) (oi := { dst := some 107, op := Op.move (Operand.tmp 106), type := 4, pos := "law.go:188", after := #[{ on := 13, ground := Ground.data }, { on := 6, ground := Ground.chain }], guard := none }) (v := ?_) rfl (by kernel_rfl) (by kernel_rfl) (by kernel_rfl) (fun _ _ _ h => h) (Or.inl ⟨by rfl, ?_⟩) hHeld ?_
  rotate_left 1
  · intro w hSw
    (try dsimp only at hSw)
    (go_simp) <;> (with_reducible rfl)
  try simp only [Act.put, List.setIfInBounds_toArray, List.set_cons_zero, List.set_cons_succ]
  refine wpAnyH_take (i := 15) (oi := { dst := some 108, op := Op.move (Operand.tmp 11), type := 30, pos := "law.go:188", after := #[{ on := 14, ground := Ground.guard }], guard := some (14, false) }) (v := ?_) rfl (by kernel_rfl) (by kernel_rfl) (by kernel_rfl) (fun _ _ _ h => h) (Or.inl ⟨by rfl, ?_⟩) hHeld ?_
  rotate_left 1
  · intro w hSw
    (try dsimp only at hSw)
    (go_simp) <;> (with_reducible rfl)
  try simp only [Act.put, List.setIfInBounds_toArray, List.set_cons_zero, List.set_cons_succ]
  refine wpAnyH_take (i := 16) (oi := { dst := some 109, op := Op.nilCheck (Operand.tmp 108), type := 0, pos := "law.go:188", after := #[{ on := 15, ground := Ground.data }, { on := 14, ground := Ground.guard }], guard := some (14, false) }) (v := ?_) rfl (by kernel_rfl) (by kernel_rfl) (by kernel_rfl) (fun _ _ _ h => h) (Or.inl ⟨by rfl, ?_⟩) hHeld ?_
  rotate_left 1
  · intro w hSw
    (try dsimp only at hSw)
    (go_simp) <;> (with_reducible rfl)
  try simp only [Act.put, List.setIfInBounds_toArray, List.set_cons_zero, List.set_cons_succ]
  refine wpAnyH_take (i := 17) (oi := { dst := some 110, op := Op.fieldAddr 50 (Operand.tmp 109) 0, type := 0, pos := "law.go:188", after := #[{ on := 16, ground := Ground.data }, { on := 14, ground := Ground.guard }], guard := some (14, false) }) (v := ?_) rfl (by kernel_rfl) (by kernel_rfl) (by kernel_rfl) (fun _ _ _ h => h) (Or.inl ⟨by rfl, ?_⟩) hHeld ?_
  rotate_left 1
  · intro w hSw
    (try dsimp only at hSw)
    (go_simp) <;> (with_reducible rfl)
  try simp only [Act.put, List.setIfInBounds_toArray, List.set_cons_zero, List.set_cons_succ]
  refine wpAnyH_take (i := 18) (oi := { dst := some 111, op := Op.load 3 (Operand.tmp 110), type := 3, pos := "law.go:188", after := #[{ on := 17, ground := Ground.data }, { on := 14, ground := Ground.guard }], guard := some (14, false) }) (v := ?_) rfl (by kernel_rfl) (by kernel_rfl) (by kernel_rfl) (fun _ _ _ h => h) (Or.inl ⟨by rfl, ?_⟩) hHeld ?_
  rotate_left 1
  · intro w hSw
    (try dsimp only at hSw)
    (go_simp) <;> (with_reducible rfl)
  try simp only [Act.put, List.setIfInBounds_toArray, List.set_cons_zero, List.set_cons_succ]
  refine wpAnyH_take (i := 19) (oi := { dst := some 112, op := Op.binOp BinOp.neq 3 (Operand.tmp 111) (Operand.const (Value.int IntKind.i64 1)) 3, type := 4, pos := "law.go:188", after := #[{ on := 18, ground := Ground.data }, { on := 14, ground := Ground.guard }], guard := some (14, false) }) (v := ?_) rfl (by kernel_rfl) (by kernel_rfl) (by kernel_rfl) (fun _ _ _ h => h) (Or.inl ⟨by rfl, ?_⟩) hHeld ?_
  rotate_left 1
  · intro w hSw
    (try dsimp only at hSw)
    (go_simp) <;> (with_reducible rfl)
  try simp only [Act.put, List.setIfInBounds_toArray, List.set_cons_zero, List.set_cons_succ]
  refine wpAnyH_take (i := 20) (oi := { dst := some 113, op := Op.pick (Operand.tmp 107) (Operand.const (Value.bool true)) (Operand.tmp 112), type := 4, pos := "law.go:188", after := #[{ on := 14, ground := Ground.data }, { on := 19, ground := Ground.data }], guard := none }) (v := ?_) rfl (by kernel_rfl) (by kernel_rfl) (by kernel_rfl) (fun _ _ _ h => h) (Or.inl ⟨by rfl, ?_⟩) hHeld ?_
  rotate_left 1
  · intro w hSw
    (try dsimp only at hSw)
    (go_simp) <;> (with_reducible rfl)
  try simp only [Act.put, List.setIfInBounds_toArray, List.set_cons_zero, List.set_cons_succ]
  refine wpAnyH_done (by kernel_rfl) ?_ _
  refine NoPanic.normal ?_
  generalize U11.drew = U12 at *
  have p0 := VD.pc0
  have p1 := VD.fpc
  have V2 := Lib.hid (VD.setPc (3 + (q2 : Int)))
  have p2 := V2.out.pc0
  have S2 := Lib.hid (kept3 V2.out (by omega))
  clear VD hHeld
  go_wp2_with (go_at_call 11; refine (W2.out _).mono ?_; rintro e w' ⟨rfl, rfl⟩)
  go_at_call 12
  refine S2.out.mono ?_
  rintro e U14 ⟨rfl, hb14⟩
  have VD := (V2.out.below hb14).below (Below.refl _ _).drew
  clear hb14 S2 V2 p0 p1 p2
  go_upto_region 18 with fail
  have tpp : ((3 : Int) + (q2 : Int) != (3 : Int) + (q2 : Int)) = false := by simp
  have D1 := Lib.hid (fun U (h : KeptS w U b bm bc X (some ⟨W5.heap.size, 0, none⟩) (3 + (q2 : Int)) R A1 c1 (11 + (q : Int)) (23 + (q1 : Int))) (g : Nat) (hc : IntsIn U .i64 (some ⟨g, 0, none⟩) [4, 5]) => (ints_same (k1 := c1) (k2 := 2) h.fr.bk hc (by simp)).mono fun e w' hp => (⟨hp.1, h.below hp.2⟩ : e = .returned (.bool true) ∧ KeptS w w' b bm bc X (some ⟨W5.heap.size, 0, none⟩) (3 + (q2 : Int)) R A1 c1 (11 + (q : Int)) (23 + (q1 : Int))))
  have D2 := Lib.hid (fun U (h : KeptS w U b bm bc X (some ⟨W5.heap.size, 0, none⟩) (3 + (q2 : Int)) R A1 c1 (11 + (q : Int)) (23 + (q1 : Int))) => (memCount h.mem).mono fun e w' hp => (by
    obtain ⟨rfl, rfl⟩ := hp
    rw [show kM.n = 0 by kernel_rfl]
    exact ⟨rfl, h⟩ : e = .returned (.int .i64 0) ∧ KeptS w w' b bm bc X (some ⟨W5.heap.size, 0, none⟩) (3 + (q2 : Int)) R A1 c1 (11 + (q : Int)) (23 + (q1 : Int))))
  refine wp_region_noPanic ?_
  refine wp_region_held_drew (S := (fun w' => w'.cell? ⟨b, 0, none⟩ = some (.int .i64 (3 + (q2 : Int))) ∧ w'.rangeAt b 1 cs ∧ w'.rangeAt X 0 cs ∧ w'.cell? ⟨b, 33, none⟩ = some (.slice A1 2 c1))) (by kernel_rfl) (SAT.out _ _ VD) (fun hHeld => ?_)
  refine wpAnyH_take (i := 0) (oi := { dst := some 132, op := Op.move (Operand.tmp 16), type := 3, pos := "law.go:194", after := #[], guard := none }) (v := ?_) rfl (by kernel_rfl) (by kernel_rfl) (by kernel_rfl) (fun _ _ _ h => h) (Or.inl ⟨by rfl, ?_⟩) hHeld ?_
  rotate_left 1
  · intro w hSw
    (try dsimp only at hSw)
    (go_simp) <;> (with_reducible rfl)
  try simp only [Act.put, List.setIfInBounds_toArray, List.set_cons_zero, List.set_cons_succ]
  refine wpAnyH_take (i := 1) (oi := { dst := some 133, op := Op.binOp BinOp.neq 3 (Operand.tmp 132) (Operand.const (Value.int IntKind.i64 3)) 3, type := 4, pos := "law.go:194", after := #[{ on := 0, ground := Ground.data }], guard := none }) (v := ?_) rfl (by kernel_rfl) (by kernel_rfl) (by kernel_rfl) (fun _ _ _ h => h) (Or.inl ⟨by rfl, ?_⟩) hHeld ?_
  rotate_left 1
  · intro w hSw
    (try dsimp only at hSw)
    (go_simp) <;> (with_reducible rfl)
  try simp only [Act.put, List.setIfInBounds_toArray, List.set_cons_zero, List.set_cons_succ]
  refine wpAnyH_take (i := 2) (oi := { dst := some 134, op := Op.move (Operand.tmp 133), type := 4, pos := "law.go:194", after := #[{ on := 1, ground := Ground.data }], guard := none }) (v := ?_) rfl (by kernel_rfl) (by kernel_rfl) (by kernel_rfl) (fun _ _ _ h => h) (Or.inl ⟨by rfl, ?_⟩) hHeld ?_
  rotate_left 1
  · intro w hSw
    (try dsimp only at hSw)
    (go_simp) <;> (with_reducible rfl)
  try simp only [Act.put, List.setIfInBounds_toArray, List.set_cons_zero, List.set_cons_succ]
  refine wpAnyH_take (i := 3) (oi := { dst := some 135, op := Op.move (Operand.tmp 17), type := 37, pos := "law.go:194", after := #[{ on := 2, ground := Ground.guard }], guard := some (2, false) }) (v := ?_) rfl (by kernel_rfl) (by kernel_rfl) (by kernel_rfl) (fun _ _ _ h => h) (Or.inl ⟨by rfl, ?_⟩) hHeld ?_
  rotate_left 1
  · intro w hSw
    (try dsimp only at hSw)
    (go_simp) <;> (with_reducible rfl)
  try simp only [Act.put, List.setIfInBounds_toArray, List.set_cons_zero, List.set_cons_succ]
  refine wpAnyH_take (i := 4) (oi := { dst := some 136, op := Op.binOp BinOp.neq 37 (Operand.tmp 135) (Operand.const Value.nilIface) 37, type := 4, pos := "law.go:194", after := #[{ on := 3, ground := Ground.data }, { on := 2, ground := Ground.guard }], guard := some (2, false) }) (v := ?_) rfl (by kernel_rfl) (by kernel_rfl) (by kernel_rfl) (fun _ _ _ h => h) (Or.inl ⟨by rfl, ?_⟩) hHeld ?_
  rotate_left 1
  · intro w hSw
    (try dsimp only at hSw)
    (go_simp) <;> (with_reducible rfl)
  try simp only [Act.put, List.setIfInBounds_toArray, List.set_cons_zero, List.set_cons_succ]
  refine wpAnyH_take (i := 5) (oi := { dst := some 137, op := Op.pick (Operand.tmp 134) (Operand.const (Value.bool true)) (Operand.tmp 136), type := 4, pos := "law.go:194", after := #[{ on := 2, ground := Ground.data }, { on := 4, ground := Ground.data }], guard := none }) (v := ?_) rfl (by kernel_rfl) (by kernel_rfl) (by kernel_rfl) (fun _ _ _ h => h) (Or.inl ⟨by rfl, ?_⟩) hHeld ?_
  rotate_left 1
  · intro w hSw
    (try dsimp only at hSw)
    (go_simp) <;> (with_reducible rfl)
  try simp only [Act.put, List.setIfInBounds_toArray, List.set_cons_zero, List.set_cons_succ]
  refine wpAnyH_take (i := 6) (oi := { dst := some 138, op := Op.move (Operand.tmp 137), type := 4, pos := "law.go:194", after := #[{ on := 5, ground := Ground.data }, { on := 2, ground := Ground.chain }], guard := none }) (v := ?_) rfl (by kernel_rfl) (by kernel_rfl) (by kernel_rfl) (fun _ _ _ h => h) (Or.inl ⟨by rfl, ?_⟩) hHeld ?_
  rotate_left 1
  · intro w hSw
    (try dsimp only at hSw)
    (go_simp) <;> (with_reducible rfl)
  try simp only [Act.put, List.setIfInBounds_toArray, List.set_cons_zero, List.set_cons_succ]
  refine wpAnyH_take (i := 7) (oi := { dst := some 139, op := Op.move (Operand.tmp 11), type := 30, pos := "law.go:194", after := #[{ on := 6, ground := Ground.guard }], guard := some (6, false) }) (v := ?_) rfl (by kernel_rfl) (by kernel_rfl) (by kernel_rfl) (fun _ _ _ h => h) (Or.inl ⟨by rfl, ?_⟩) hHeld ?_
  rotate_left 1
  · intro w hSw
    (try dsimp only at hSw)
    (go_simp) <;> (with_reducible rfl)
  try simp only [Act.put, List.setIfInBounds_toArray, List.set_cons_zero, List.set_cons_succ]
  refine wpAnyH_take (i := 8) (oi := { dst := some 140, op := Op.nilCheck (Operand.tmp 139), type := 0, pos := "law.go:194", after := #[{ on := 7, ground := Ground.data }, { on := 6, ground := Ground.guard }], guard := some (6, false) }) (v := ?_) rfl (by kernel_rfl) (by kernel_rfl) (by kernel_rfl) (fun _ _ _ h => h) (Or.inl ⟨by rfl, ?_⟩) hHeld ?_
  rotate_left 1
  · intro w hSw
    (try dsimp only at hSw)
    (go_simp) <;> (with_reducible rfl)
  try simp only [Act.put, List.setIfInBounds_toArray, List.set_cons_zero, List.set_cons_succ]
  refine wpAnyH_take (i := 9) (oi := { dst := some 141, op := Op.fieldAddr 50 (Operand.tmp 140) 1, type := 0, pos := "law.go:194", after := #[{ on := 8, ground := Ground.data }, { on := 6, ground := Ground.guard }], guard := some (6, false) }) (v := ?_) rfl (by kernel_rfl) (by kernel_rfl) (by kernel_rfl) (fun _ _ _ h => h) (Or.inl ⟨by rfl, ?_⟩) hHeld ?_
  rotate_left 1
  · intro w hSw
    (try dsimp only at hSw)
    (go_simp) <;> (with_reducible rfl)
  try simp only [Act.put, List.setIfInBounds_toArray, List.set_cons_zero, List.set_cons_succ]
  refine wpAnyH_take (i := 10) (oi := { dst := some 142, op := Op.load 48 (Operand.tmp 141), type := 48, pos := "law.go:194", after := #[{ on := 9, ground := Ground.data }, { on := 6, ground := Ground.guard }], guard := some (6, false) }) (v := .agg cs.toArray) rfl (by kernel_rfl) (by kernel_rfl) (by kernel_rfl) (fun _ _ _ h => h) (yieldsIf_load_mid (by rfl) _ _ rfl _ _ rfl cs _ (fun w hSw => hSw.2.1) hu rfl hi) hHeld ?_
  simp only [List.getElem_toArray, List.getElem_cons_succ, List.getElem_cons_zero, Act.put, List.setIfInBounds_toArray, List.set_cons_zero, List.set_cons_succ]
  refine wpAnyH_take (i := 11) (oi := { dst := some 143, op := Op.load 48 (Operand.tmp 13), type := 48, pos := "law.go:194", after := #[{ on := 6, ground := Ground.guard }], guard := some (6, false) }) (v := .agg cs.toArray) rfl (by kernel_rfl) (by kernel_rfl) (by kernel_rfl) (fun _ _ _ h => h) (yieldsIf_load_mid (by rfl) _ _ rfl _ _ rfl cs _ (fun w hSw => hSw.2.2.1) hu rfl hi) hHeld ?_
  simp only [List.getElem_toArray, List.getElem_cons_succ, List.getElem_cons_zero, Act.put, List.setIfInBounds_toArray, List.set_cons_zero, List.set_cons_succ]
  refine wpAnyH_take (i := 12) (oi := { dst := some 144, op := Op.binOp BinOp.neq 48 (Operand.tmp 142) (Operand.tmp 143) 48, type := 4, pos := "law.go:194", after := #[{ on := 10, ground := Ground.data }, { on := 11, ground := Ground.data }, { on := 6, ground := Ground.guard }], guard := some (6, false) }) (v := ?_) rfl (by kernel_rfl) (by kernel_rfl) (by kernel_rfl) (fun _ _ _ h => h) (Or.inl ⟨by rfl, ?_⟩) hHeld ?_
  rotate_left 1
  · intro w hSw
    (try dsimp only at hSw)
    (go_simp) <;> (with_reducible rfl)
  try simp only [Act.put, List.setIfInBounds_toArray, List.set_cons_zero, List.set_cons_succ]
  refine wpAnyH_take (i := 13) (oi := { dst := some 145, op := Op.pick (Operand.tmp 138) (Operand.const (Value.bool true)) (Operand.tmp 144), type := 4, pos := "law.go:194", after := #[{ on := 6, ground := Ground.data }, { on := 12, ground := Ground.data }], guard := none }) (v := ?_) rfl (by kernel_rfl) (by kernel_rfl) (by kernel_rfl) (fun _ _ _ h => h) (Or.inl ⟨by rfl, ?_⟩) hHeld ?_
  rotate_left 1
  · intro w hSw
    (try dsimp only at hSw)
    (go_simp) <;> (with_reducible rfl)
  try simp only [Act.put, List.setIfInBounds_toArray, List.set_cons_zero, List.set_cons_succ]
  refine wpAnyH_take (i := 14) (oi := { dst := some 146, op := Op.move (Operand.tmp 145), type := 4, pos := "law.go:194", after := #[{ on := 13, ground := Ground.data }, { on := 6, ground := Ground.chain }], guard := none }) (v := ?_) rfl (by kernel_rfl) (by kernel_rfl) (by kernel_rfl) (fun _ _ _ h => h) (Or.inl ⟨by rfl, ?_⟩) hHeld ?_
  rotate_left 1
  · intro w hSw
    (try dsimp only at hSw)
    (go_simp) <;> (with_reducible rfl)
  try simp only [Act.put, List.setIfInBounds_toArray, List.set_cons_zero, List.set_cons_succ]
  refine wpAnyH_take (i := 15) (oi := { dst := some 147, op := Op.move (Operand.tmp 11), type := 30, pos := "law.go:194", after := #[{ on := 14, ground := Ground.guard }], guard := some (14, false) }) (v := ?_) rfl (by kernel_rfl) (by kernel_rfl) (by kernel_rfl) (fun _ _ _ h => h) (Or.inl ⟨by rfl, ?_⟩) hHeld ?_
  rotate_left 1
  · intro w hSw
    (try dsimp only at hSw)
    (go_simp) <;> (with_reducible rfl)
  try simp only [Act.put, List.setIfInBounds_toArray, List.set_cons_zero, List.set_cons_succ]
  refine wpAnyH_take (i := 16) (oi := { dst := some 148, op := Op.nilCheck (Operand.tmp 147), type := 0, pos := "law.go:194", after := #[{ on := 15, ground := Ground.data }, { on := 14, ground := Ground.guard }], guard := some (14, false) }) (v := ?_) rfl (by kernel_rfl) (by kernel_rfl) (by kernel_rfl) (fun _ _ _ h => h) (Or.inl ⟨by rfl, ?_⟩) hHeld ?_
  rotate_left 1
  · intro w hSw
    (try dsimp only at hSw)
    (go_simp) <;> (with_reducible rfl)
  try simp only [Act.put, List.setIfInBounds_toArray, List.set_cons_zero, List.set_cons_succ]
  refine wpAnyH_take (i := 17) (oi := { dst := some 149, op := Op.fieldAddr 50 (Operand.tmp 148) 0, type := 0, pos := "law.go:194", after := #[{ on := 16, ground := Ground.data }, { on := 14, ground := Ground.guard }], guard := some (14, false) }) (v := ?_) rfl (by kernel_rfl) (by kernel_rfl) (by kernel_rfl) (fun _ _ _ h => h) (Or.inl ⟨by rfl, ?_⟩) hHeld ?_
  rotate_left 1
  · intro w hSw
    (try dsimp only at hSw)
    (go_simp) <;> (with_reducible rfl)
  try simp only [Act.put, List.setIfInBounds_toArray, List.set_cons_zero, List.set_cons_succ]
  refine wpAnyH_take (i := 18) (oi := { dst := some 150, op := Op.load 3 (Operand.tmp 149), type := 3, pos := "law.go:194", after := #[{ on := 17, ground := Ground.data }, { on := 14, ground := Ground.guard }], guard := some (14, false) }) (v := ?_) rfl (by kernel_rfl) (by kernel_rfl) (by kernel_rfl) (fun _ _ _ h => h) (Or.inl ⟨by rfl, ?_⟩) hHeld ?_
  rotate_left 1
  · intro w hSw
    (try dsimp only at hSw)
    (go_simp) <;> (with_reducible rfl)
  try simp only [Act.put, List.setIfInBounds_toArray, List.set_cons_zero, List.set_cons_succ]
  refine wpAnyH_take (i := 19) (oi := { dst := some 151, op := Op.move (Operand.tmp 18), type := 3, pos := "law.go:194", after := #[{ on := 14, ground := Ground.guard }], guard := some (14, false) }) (v := ?_) rfl (by kernel_rfl) (by kernel_rfl) (by kernel_rfl) (fun _ _ _ h => h) (Or.inl ⟨by rfl, ?_⟩) hHeld ?_
  rotate_left 1
  · intro w hSw
    (try dsimp only at hSw)
    (go_simp) <;> (with_reducible rfl)
  try simp only [Act.put, List.setIfInBounds_toArray, List.set_cons_zero, List.set_cons_succ]
  refine wpAnyH_take (i := 20) (oi := { dst := some 152, op := Op.binOp BinOp.neq 3 (Operand.tmp 150) (Operand.tmp 151) 3, type := 4, pos := "law.go:194", after := #[{ on := 18, ground := Ground.data }, { on := 19, ground := Ground.data }, { on := 14, ground := Ground.guard }], guard := some (14, false) }) (v := ?_) rfl (by kernel_rfl) (by kernel_rfl) (by kernel_rfl) (fun _ _ _ h => h) (Or.inl ⟨by rfl, ?_⟩) hHeld ?_
  rotate_left 1
  · intro w hSw
    (try dsimp only at hSw)
    (go_simp) <;> (with_reducible rfl)
  try simp only [Act.put, List.setIfInBounds_toArray, List.set_cons_zero, List.set_cons_succ]
  refine wpAnyH_take (i := 21) (oi := { dst := some 153, op := Op.pick (Operand.tmp 146) (Operand.const (Value.bool true)) (Operand.tmp 152), type := 4, pos := "law.go:194", after := #[{ on := 14, ground := Ground.data }, { on := 20, ground := Ground.data }], guard := none }) (v := ?_) rfl (by kernel_rfl) (by kernel_rfl) (by kernel_rfl) (fun _ _ _ h => h) (Or.inl ⟨by rfl, ?_⟩) hHeld ?_
  rotate_left 1
  · intro w hSw
    (try dsimp only at hSw)
    (go_simp) <;> (with_reducible rfl)
  try simp only [Act.put, List.setIfInBounds_toArray, List.set_cons_zero, List.set_cons_succ]
  refine wpAnyH_take (i := 22) (oi := { dst := some 154, op := Op.move (Operand.tmp 153), type := 4, pos := "law.go:194", after := #[{ on := 21, ground := Ground.data }, { on := 14, ground := Ground.chain }], guard := none }) (v := ?_) rfl (by kernel_rfl) (by kernel_rfl) (by kernel_rfl) (fun _ _ _ h => h) (Or.inl ⟨by rfl, ?_⟩) hHeld ?_
  rotate_left 1
  · intro w hSw
    (try dsimp only at hSw)
    (go_simp) <;> (with_reducible rfl)
  try simp only [Act.put, List.setIfInBounds_toArray, List.set_cons_zero, List.set_cons_succ]
  refine wpAnyH_take (i := 23) (oi := { dst := some 155, op := Op.move (Operand.tmp 11), type := 30, pos := "law.go:194", after := #[{ on := 22, ground := Ground.guard }], guard := some (22, false) }) (v := ?_) rfl (by kernel_rfl) (by kernel_rfl) (by kernel_rfl) (fun _ _ _ h => h) (Or.inl ⟨by rfl, ?_⟩) hHeld ?_
  rotate_left 1
  · intro w hSw
    (try dsimp only at hSw)
    (go_simp) <;> (with_reducible rfl)
  try simp only [Act.put, List.setIfInBounds_toArray, List.set_cons_zero, List.set_cons_succ]
  refine wpAnyH_take (i := 24) (oi := { dst := some 156, op := Op.nilCheck (Operand.tmp 155), type := 0, pos := "law.go:194", after := #[{ on := 23, ground := Ground.data }, { on := 22, ground := Ground.guard }], guard := some (22, false) }) (v := ?_) rfl (by kernel_rfl) (by kernel_rfl) (by kernel_rfl) (fun _ _ _ h => h) (Or.inl ⟨by rfl, ?_⟩) hHeld ?_
  rotate_left 1
  · intro w hSw
    (try dsimp only at hSw)
    (go_simp) <;> (with_reducible rfl)
  try simp only [Act.put, List.setIfInBounds_toArray, List.set_cons_zero, List.set_cons_succ]
  refine wpAnyH_take (i := 25) (oi := { dst := some 157, op := Op.fieldAddr 50 (Operand.tmp 156) 2, type := 0, pos := "law.go:194", after := #[{ on := 24, ground := Ground.data }, { on := 22, ground := Ground.guard }], guard := some (22, false) }) (v := ?_) rfl (by kernel_rfl) (by kernel_rfl) (by kernel_rfl) (fun _ _ _ h => h) (Or.inl ⟨by rfl, ?_⟩) hHeld ?_
  rotate_left 1
  · intro w hSw
    (try dsimp only at hSw)
    (go_simp) <;> (with_reducible rfl)
  try simp only [Act.put, List.setIfInBounds_toArray, List.set_cons_zero, List.set_cons_succ]
  refine wpAnyH_take (i := 26) (oi := { dst := some 158, op := Op.load 24 (Operand.tmp 157), type := 24, pos := "law.go:194", after := #[{ on := 25, ground := Ground.data }, { on := 22, ground := Ground.guard }], guard := some (22, false) }) (v := ?_) rfl (by kernel_rfl) (by kernel_rfl) (by kernel_rfl) (fun _ _ _ h => h) (Or.inl ⟨by rfl, ?_⟩) hHeld ?_
  rotate_left 1
  · intro w hSw
    (try dsimp only at hSw)
    (go_simp) <;> (with_reducible rfl)
  try simp only [Act.put, List.setIfInBounds_toArray, List.set_cons_zero, List.set_cons_succ]
  refine wpAnyH_ready (rs := [27]) (by kernel_rfl) (by simp) ?_
  refine AllReadyH.cons (o := { dst := some 159, op := Op.buildSlice 24 2 #[(0, Operand.const (Value.int IntKind.i64 4)), (1, Operand.const (Value.int IntKind.i64 5))], type := 24, pos := "law.go:194", after := #[{ on := 22, ground := Ground.guard }], guard := some (22, false) }) rfl (fun K hK => ?_) AllReadyH.nil
  go_simp
  have VD2 := VD.below ((Below.refl U14.drew.heap.size U14.drew).alloc (Nat.le_refl _) (.cells #[.int .i64 4, .int .i64 5] 3))
  have IC : IntsIn (U14.drew.alloc (.cells #[.int .i64 4, .int .i64 5] 3)) .i64 (some ⟨U14.drew.heap.size, 0, none⟩) [4, 5] := fun i hi => ⟨_, rfl, by simp, by
    have hr := Row.new U14.drew [.int .i64 4, .int .i64 5] 3
    rw [addV0]
    have := hr.cell i (by simpa using hi)
    rw [this]
    have h2 : i < 2 := by simpa using hi
    rcases i with _ | _ | i
    · rfl
    · rfl
    · omega⟩
  clear hHeld VD
  have VD := VD2
  refine hK.out _ _ (SAT.out _ _ VD) (fun hHeld => ?_)
  clear hK K VD2
  try simp only [Act.put, List.setIfInBounds_toArray, List.set_cons_zero, List.set_cons_succ]
  refine wpAnyH_ready (rs := [28]) (by kernel_rfl) (by simp) ?_
  refine AllReadyH.cons (o := { dst := some 160, op := Op.call { callee := Callee.value (Operand.func 19), args := #[Operand.tmp 158, Operand.tmp 159], argTypes := #[24, 24] }, type := 4, pos := "law.go:194", after := #[{ on := 26, ground := Ground.data }, { on := 27, ground := Ground.data }, { on := 22, ground := Ground.chain }, { on := 22, ground := Ground.guard }], guard := some (22, false) }) rfl (fun K hK => ?_) AllReadyH.nil
  go_simp
  go_at_call 19
  refine (D1.out _ VD _ IC).mono ?_
  clear hHeld
  clear VD IC
  rintro e U16 ⟨rfl, VD⟩
  refine hK.out _ _ (SAT.out _ _ VD) (fun hHeld => ?_)
  clear hK K
  try simp only [Act.put, List.setIfInBounds_toArray, List.set_cons_zero, List.set_cons_succ]
  refine wpAnyH_take (i := 29) (oi := { dst := some 161, op := Op.unOp UnOp.not 4 (Operand.tmp 160), type := 4, pos := "law.go:194", after := #[{ on := 28, ground := Ground.data }, { on := 22, ground := Ground.guard }], guard := some (22, false) }) (v := ?_) rfl (by kernel_rfl) (by kernel_rfl) (by kernel_rfl) (fun _ _ _ h => h) (Or.inl ⟨by rfl, ?_⟩) hHeld ?_
  rotate_left 1
  · intro w hSw
    (try dsimp only at hSw)
    (go_simp) <;> (with_reducible rfl)
  try simp only [Act.put, List.setIfInBounds_toArray, List.set_cons_zero, List.set_cons_succ]
  refine wpAnyH_take (i := 30) (oi := { dst := some 162, op := Op.pick (Operand.tmp 154) (Operand.const (Value.bool true)) (Operand.tmp 161), type := 4, pos := "law.go:194", after := #[{ on := 22, ground := Ground.data }, { on := 29, ground := Ground.data }], guard := none }) (v := ?_) rfl (by kernel_rfl) (by kernel_rfl) (by kernel_rfl) (fun _ _ _ h => h) (Or.inl ⟨by rfl, ?_⟩) hHeld ?_
  rotate_left 1
  · intro w hSw
    (try dsimp only at hSw)
    (go_simp) <;> (with_reducible rfl)
  try simp only [Act.put, List.setIfInBounds_toArray, List.set_cons_zero, List.set_cons_succ]
  refine wpAnyH_take (i := 31) (oi := { dst := some 163, op := Op.move (Operand.tmp 162), type := 4, pos := "law.go:194", after := #[{ on := 30, ground := Ground.data }, { on := 28, ground := Ground.chain }], guard := none }) (v := ?_) rfl (by kernel_rfl) (by kernel_rfl) (by kernel_rfl) (fun _ _ _ h => h) (Or.inl ⟨by rfl, ?_⟩) hHeld ?_
  rotate_left 1
  · intro w hSw
    (try dsimp only at hSw)
    (go_simp) <;> (with_reducible rfl)
  try simp only [Act.put, List.setIfInBounds_toArray, List.set_cons_zero, List.set_cons_succ]
  refine wpAnyH_take (i := 32) (oi := { dst := some 164, op := Op.move (Operand.tmp 9), type := 25, pos := "law.go:194", after := #[{ on := 31, ground := Ground.guard }], guard := some (31, false) }) (v := ?_) rfl (by kernel_rfl) (by kernel_rfl) (by kernel_rfl) (fun _ _ _ h => h) (Or.inl ⟨by rfl, ?_⟩) hHeld ?_
  rotate_left 1
  · intro w hSw
    (try dsimp only at hSw)
    (go_simp) <;> (with_reducible rfl)
  try simp only [Act.put, List.setIfInBounds_toArray, List.set_cons_zero, List.set_cons_succ]
  refine wpAnyH_ready (rs := [33]) (by kernel_rfl) (by simp) ?_
  refine AllReadyH.cons (o := { dst := some 165, op := Op.call { callee := Callee.value (Operand.func 20), args := #[Operand.tmp 164], argTypes := #[25] }, type := 3, pos := "law.go:194", after := #[{ on := 32, ground := Ground.data }, { on := 31, ground := Ground.chain }, { on := 31, ground := Ground.guard }], guard := some (31, false) }) rfl (fun K hK => ?_) AllReadyH.nil
  go_simp
  go_at_call 20
  refine (D2.out _ VD).mono ?_
  clear hHeld
  clear VD
  rintro e U17 ⟨rfl, VD⟩
  refine hK.out _ _ (SAT.out _ _ VD) (fun hHeld => ?_)
  clear hK K
  try simp only [Act.put, List.setIfInBounds_toArray, List.set_cons_zero, List.set_cons_succ]
  refine wpAnyH_take (i := 34) (oi := { dst := some 166, op := Op.binOp BinOp.neq 3 (Operand.tmp 165) (Operand.const (Value.int IntKind.i64 0)) 3, type := 4, pos := "law.go:194", after := #[{ on := 33, ground := Ground.data }, { on := 31, ground := Ground.guard }], guard := some (31, false) }) (v := ?_) rfl (by kernel_rfl) (by kernel_rfl) (by kernel_rfl) (fun _ _ _ h => h) (Or.inl ⟨by rfl, ?_⟩) hHeld ?_
  rotate_left 1
  · intro w hSw
    (try dsimp only at hSw)
    (go_simp) <;> (with_reducible rfl)
  try simp only [Act.put, List.setIfInBounds_toArray, List.set_cons_zero, List.set_cons_succ]
  refine wpAnyH_take (i := 35) (oi := { dst := some 167, op := Op.pick (Operand.tmp 163) (Operand.const (Value.bool true)) (Operand.tmp 166), type := 4, pos := "law.go:194", after := #[{ on := 31, ground := Ground.data }, { on := 34, ground := Ground.data }], guard := none }) (v := ?_) rfl (by kernel_rfl) (by kernel_rfl) (by kernel_rfl) (fun _ _ _ h => h) (Or.inl ⟨by rfl, ?_⟩) hHeld ?_
  rotate_left 1
  · intro w hSw
    (try dsimp only at hSw)
    (go_simp) <;> (with_reducible rfl)
  try simp only [Act.put, List.setIfInBounds_toArray, List.set_cons_zero, List.set_cons_succ]
  refine wpAnyH_done (by kernel_rfl) ?_ _
  refine NoPanic.normal ?_
  have SN := Lib.hid (step_nil (some ⟨W5.heap.size, 0, none⟩) 3 3 (.iface 25 (.pointer (some ⟨bm, 0, none⟩))))
  have HB := Lib.hid VD.bel
  clear VD hHeld D1 D2
  go_wp2_with fail
  go_at_call 12
  refine (SN.out _).mono ?_
  rintro e U18 ⟨rfl, hb18⟩
  have HB2 := Lib.hid (HB.out.trans (hb18.mono HB.out.size))
  clear HB hb18 SN
  go_wp2_with fail
  go_at_call 8
  refine (AW.out _).mono ?_
  rintro e U19 ⟨rfl, hb19⟩
  go_wp2_with fail
  go_ret
  exact ⟨rfl, HB2.out.trans (hb19.mono HB2.out.size)⟩
end Go.Proofs.YtobbmhboahognaaDoor
