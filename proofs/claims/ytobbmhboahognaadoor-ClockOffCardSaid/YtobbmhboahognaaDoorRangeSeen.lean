/- A loop over a function's values whose body turns what the function reads: here the function's contract may lean on what the loop keeps between two rounds, and each round is told what the function says of the value that it hands over. Nothing of the program. -/
import Derived.Test.YtobbmhboahognaaDoorRoundTail
import Derived.RangeFuncNested
import Derived.RangeFuncBound
namespace Go.Proofs.YtobbmhboahognaaDoor
open Go.RowKit
set_option linter.unusedVariables false

section
variable {P : Program} {n : Nat}
/-- The loop's two blocks: that for the rounds' deferred calls at D, the record behind it. -/
structure Book (D : Nat) (r : Loop) (W : World) : Prop where
  lp : W.heap[D + 1]? = some (.loop r)
  dfr : W.heap[D]? = some (.deferred (some []))
theorem Book.lt {D : Nat} {r : Loop} {W : World} (h : Book D r W) : D + 1 < W.heap.size := (Array.getElem?_eq_some_iff.1 h.lp).1
theorem Book.put {D : Nat} {r : Loop} {W : World} (h : Book D r W) (r' : Loop) : Book D r' (W.putObj (D + 1) (.loop r')) :=
  ⟨World.putObj_heap_same h.lt, (World.putObj_heap_other (by omega)).trans h.dfr⟩
theorem Book.keeps {D : Nat} {r : Loop} {W W' : World} (h : Book D r W) (k : KeepsFrom D W W') : Book D r W' := ⟨k.same _ _ (by omega) h.lp rfl, k.same _ _ (Nat.le_refl _) h.dfr rfl⟩
theorem Book.grown {D : Nat} {r : Loop} {W W' : World} {row : Option Nat} (h : Book D r W) (hg : W.grownBy W' row) (hr : ∀ k, row = some k → ∃ o : Obj, W.heap[k]? = some o ∧ o.isWalk = true) : Book D r W' := by
  have key : ∀ (i : Nat) (o : Obj), W.heap[i]? = some o → o.isWalk = false → W'.heap[i]? = some o := fun i o hi ho => by
    refine (hg.block i (Array.getElem?_eq_some_iff.1 hi).1 fun e => ?_).trans hi
    obtain ⟨o', h1, h2⟩ := hr i e.symm
    rw [hi] at h1; cases h1; rw [ho] at h2; cases h2
  exact ⟨key _ _ h.lp rfl, key _ _ h.dfr rfl⟩

/-- How a round's body may be left. -/
def seenPost {α : Type} (B : Nat) (I : List α → World → Prop) (Ix : Code → List α → World → Prop) (xs : List α) (W : World) : Exit → Act → World → Prop := ownPostG B (fun _ _ => True) I Ix xs W

theorem wpIn_range_seen {α : Type} {g : Operand} {ps : Array Tmp} {assign body : Code} {Q : Exit → Act → World → Prop} {a : Act} {w : World}
    (h1 : 1 ≤ n) {gf : Nat} {lb : Array Value} (hg : a.eval g = .func (.func gf) #[] lb) (eg : ∀ args w, (callFunc gf args).run P w = .ok (.enter gf args) w)
    {encs : α → Array Value} (hps : ∀ x, (encs x).size = ps.size)
    (I : List α → World → Prop) (Ix : Code → List α → World → Prop) (Ok : List α → α → Prop) (S : List α → Prop)
    (hI : OwnFrom w.heap.size I) (hIx : ∀ c, OwnFrom w.heap.size (Ix c)) (h0 : I [] w) (a₁ : α → Act)
    (hseq : ∀ (l : Nat) (J Jx : List α → World → Prop) (W : World), Below w.heap.size w W → AbidesFrom W.heap.size J → AbidesFrom W.heap.size Jx → (∀ pre X, J pre X → I pre X) →
      (∀ pre x X, J pre X → Ok pre x → YieldAt Fence.wide (n - 1 - 1) P l (encs x) X fun e X' => (e = .returned (.bool true) ∧ J (pre ++ [x]) X') ∨ (e = .returned (.bool false) ∧ Jx (pre ++ [x]) X')) →
      J [] W → CallsIn Fence.wide (n - 1) P gf (#[.func (.yield l) #[] #[]] ++ lb) W fun e X' => (∃ v, e = .returned v) ∧ ((∃ xs, S xs ∧ J xs X') ∨ (∃ pre, Jx pre X')))
    (hassign : ∀ (l : Nat) (x : α) (W : World) (K : Act → World → Prop), K (a₁ x) W →
      assign.wpIn (Fence.wide.inRound l) (n - 1 - 1) P (Exit.then K (fun _ _ _ => False)) { tmps := (ps.zip (encs x)).foldl (fun t (p, v) => t.setIfInBounds p v) a.tmps, defers := [] } W)
    (hbody : ∀ (l : Nat) (pre : List α) (x : α) (W : World), I pre W → Ok pre x → body.wpIn (Fence.wide.inRound l) (n - 1 - 1) P (seenPost w.heap.size I Ix (pre ++ [x]) W) (a₁ x) W)
    (hdone : ∀ (xs : List α) (W : World), S xs → I xs W → W.heap[w.heap.size]? = some (.deferred (some [])) → Q .normal { a with defers := { target := .collected w.heap.size, args := #[] } :: a.defers } W)
    (hstop : ∀ (c : Code) (pre : List α) (W : World), Ix c pre W → W.heap[w.heap.size]? = some (.deferred (some [])) → c.wpIn Fence.wide n P Q { a with defers := { target := .collected w.heap.size, args := #[] } :: a.defers } W) :
    (Code.rangeFunc g ps assign body).wpIn Fence.wide n P Q a w := by
  refine wpIn_rangeFunc fun fn _ => ?_
  obtain ⟨D, hD⟩ : ∃ D, D = w.heap.size := ⟨_, rfl⟩
  let r0 : Loop := { state := .ready, pending := none, fn := fn, tmps := a.tmps, params := ps, assign := assign, body := body, defers := D }
  let r1 : Loop := { r0 with state := .busy }
  let rd : Option Code → Loop := fun jump => { r1 with state := if jump.isNone then .ready else .done, pending := jump }
  let W1 : World := (w.alloc (.deferred (some []))).alloc (.loop r0)
  have b1 : Book D r0 W1 := by
    subst hD
    refine ⟨?_, (Below.heap_alloc _ _ _ (by simp)).trans (World.alloc_heap_new w _)⟩
    have := World.alloc_heap_new (w.alloc (.deferred (some []))) (.loop r0)
    rwa [World.size_alloc] at this
  have i1 : I [] W1 := hI.alloc _ (hI.alloc _ h0)
  have e1 : Below w.heap.size w W1 := ((Below.refl _ w).alloc (Nat.le_refl _) _).alloc (by simp) _
  have en := run_enterLoop_outer (P := P) (w := w) fn a.tmps ps assign body
  rw [← hD] at en
  refine ⟨D + 1, [{ target := .collected D, args := #[] }], W1, { target := .fn (.func gf) lb, args := #[.func (.yield (D + 1)) #[] #[]] }, W1, gf, #[.func (.yield (D + 1)) #[] #[]] ++ lb, W1, en, ?_, fun _ _ => trivial, ?_, fun _ => h1, ?_⟩
  · simp only [resolve, hg]; simp [go_sem]
  · simp [invoke, go_sem, eg]
  · refine (hseq (D + 1) (fun pre X => I pre X ∧ Book D r0 X) (fun pre X => ∃ c, Ix c pre X ∧ Book D (rd (some c)) X) W1 e1 ?_ ?_ (fun _ _ h => h.1) ?_ ⟨i1, b1⟩).mono ?_
    · intro s X Y row hs hgr hr
      refine ⟨hI s X Y row hs.1 hgr fun k e => ?_, hs.2.grown hgr fun k e => (hr k e).2⟩
      obtain ⟨h2, o, h3, h4⟩ := hr k e
      exact ⟨Nat.le_trans e1.size h2, o, h3, Obj.not_cells_of_walk h4⟩
    · intro s X Y row hs hgr hr
      obtain ⟨c, hc, hk⟩ := hs
      refine ⟨c, hIx c s X Y row hc hgr fun k e => ?_, hk.grown hgr fun k e => (hr k e).2⟩
      obtain ⟨h2, o, h3, h4⟩ := hr k e
      exact ⟨Nat.le_trans e1.size h2, o, h3, Obj.not_cells_of_walk h4⟩
    · rintro pre x X ⟨hi, hb⟩ hok
      refine ⟨fn, _, assign, body, run_yield (P := P) (args := encs x) hb.lp (hps x), roundIn_of_wpIn trivial (hassign _ x X _ ⟨_, run_beginRound hb.lp rfl, ?_⟩)⟩
      have hb2 : Book D r1 (X.putObj (D + 1) (.loop r1)) := hb.put r1
      have hi2 : I pre (X.putObj (D + 1) (.loop r1)) := hI.putObj _ hi (by omega) hb.lp rfl
      refine wpIn_mono (hbody _ pre x _ hi2 hok) fun e a' X3 hp => ?_
      rw [← hD] at hp
      cases e with
      | normal =>
        obtain ⟨k3, _, i3⟩ := hp
        have b3 := hb2.keeps k3
        exact ⟨_, _, run_endRound (P := P) none b3.lp, .inl ⟨rfl, hI.putObj _ i3 (by omega) b3.lp rfl, b3.put (rd none)⟩⟩
      | ret =>
        obtain ⟨k3, i3⟩ := hp
        have b3 := hb2.keeps k3
        exact ⟨_, _, run_endRound (P := P) (some .ret) b3.lp, .inr ⟨rfl, .ret, (hIx _).putObj _ i3 (by omega) b3.lp rfl, b3.put (rd (some .ret))⟩⟩
      | exit id =>
        obtain ⟨k3, i3⟩ := hp
        have b3 := hb2.keeps k3
        exact ⟨_, _, run_endRound (P := P) (some (.exit id)) b3.lp, .inr ⟨rfl, .exit id, (hIx _).putObj _ i3 (by omega) b3.lp rfl, b3.put (rd (some (.exit id)))⟩⟩
      | goto t =>
        obtain ⟨k3, i3⟩ := hp
        have b3 := hb2.keeps k3
        exact ⟨_, _, run_endRound (P := P) (some (.goto t)) b3.lp, .inr ⟨rfl, .goto t, (hIx _).putObj _ i3 (by omega) b3.lp rfl, b3.put (rd (some (.goto t)))⟩⟩
      | panic ch => exact hp.elim
      | outgrown => exact hp.elim
    · rintro e X ⟨⟨v, rfl⟩, (⟨xs, hs, hi, hb⟩ | ⟨pre, c, hi, hb⟩)⟩
      · refine ⟨none, _, run_endLoop (P := P) (r := r0) hb.lp (by simp [r0]), ?_⟩
        rw [hD]
        exact hdone xs _ hs (by rw [← hD]; exact hI.putObj _ hi (by omega) hb.lp rfl) (by rw [← hD]; exact (World.putObj_heap_other (by omega)).trans hb.dfr)
      · refine ⟨some c, _, run_endLoop (P := P) (r := rd (some c)) hb.lp (by simp [rd]), ?_⟩
        rw [hD]
        exact hstop c pre _ (by rw [← hD]; exact (hIx c).putObj _ hi (by omega) hb.lp rfl) (by rw [← hD]; exact (World.putObj_heap_other (by omega)).trans hb.dfr)
end
end Go.Proofs.YtobbmhboahognaaDoor
