/- The statements' help all of layer 7, whole: at most so many, in order, as a new slice. The conditions: a queue lies there, fewer than 2^30 items. -/
import Derived.Test.YtgkmihlnmhegfaaHeapAll2
namespace Go.Proofs.Ytgkmihlnmhegfaa
open Go.RowKit Go.Shelf
set_option linter.unusedVariables false

set_option maxHeartbeats 1000000 in
theorem mkAll_any (b : Nat) (w : World) :
    Calls Try.prog 24 #[.pointer (some ⟨b, 0, none⟩)] w fun e w' => e = .returned (.func (.func 30) #[] #[.pointer (some ⟨w.heap.size, 0, none⟩)]) ∧ w' = w.alloc (.cells #[.pointer (some ⟨b, 0, none⟩)] 23) := by
  go_enter Try.func24, Try.ntmps24
  go_wp2
  go_ret
  exact ⟨rfl, rfl⟩

set_option maxHeartbeats 2000000 in
set_option maxRecDepth 100000 in
theorem allS {w : World} {b mb N c : Nat} {v : Value} {S : List Itm} {last : Nat} (h : HeapIs w b mb N v c S last) (hl : S.length < 1073741823) (most : Nat) (hm : 1 ≤ most) (hm2 : most < 2147483648) :
    Calls Try.prog 19 #[.pointer (some ⟨b, 0, none⟩), .int .i64 most] w fun e w' => ∃ u, e = .returned u ∧ w'.ownsRow w.heap.size 43 2 u (S.take most).length (flatP (S.take most)) ∧ Below w.heap.size w w' := by
  have bM := ((Boxed.new w 3 (.int .i64 most)).alloc (.cells #[.pointer (some ⟨b, 0, none⟩)] 23)).alloc (.cells #[.slice none 0 0] 40)
  have bA := (Boxed.new (w.alloc (.cells #[.int .i64 most] 3)) 23 (.pointer (some ⟨b, 0, none⟩))).alloc (.cells #[.slice none 0 0] 40)
  have bL := Boxed.new ((w.alloc (.cells #[.int .i64 most] 3)).alloc (.cells #[.pointer (some ⟨b, 0, none⟩)] 23)) 40 (.slice none 0 0)
  simp only [World.size_alloc] at bA bL
  have hB0 : Below w.heap.size w (((w.alloc (.cells #[.int .i64 most] 3)).alloc (.cells #[.pointer (some ⟨b, 0, none⟩)] 23)).alloc (.cells #[.slice none 0 0] 40)) := (((Below.refl _ w).alloc (Nat.le_refl _) _).alloc (by simp) _).alloc (by simp; omega) _
  have CB := Lib.hid (all1_cb (w := w) (Bs := w.heap.size + 1) (Bl := w.heap.size + 1 + 1) (Bm := w.heap.size) bA.cell (h.below hB0) hl ⟨⟨_, bL, World.ownsRow_nil _ _ _ _, by simp [Value.ownBlock]⟩, bM, hB0⟩ (by omega) (by omega) hm)
  have MK := Lib.hid (mkAll_any b)
  have qn : ∀ (cp : Array Value) (W : World), Sem.run Try.prog (binOp .eql 65 (.func (.func 30) #[] cp) .nilFunc) W = .ok (.bool false) W := fun _ _ => by kernel_rfl
  clear h bM bA bL hB0
  go_enter Try.func19, Try.ntmps19
  go_wp2_with (go_at_call 24; refine (MK.out _).mono ?_; rintro e w' ⟨rfl, rfl⟩)
  go_at_call 30
  refine CB.out.mono ?_
  rintro en w1 ⟨rfl, ⟨u, h1, h2, _⟩, _, h5⟩
  have cl := h1.cell
  have FIN := Lib.hid (And.intro h2 h5)
  obtain ⟨p, m, c, rfl⟩ : ∃ p m c, u = .slice p m c := by
    rcases h2.2 with ⟨rfl, e⟩ | ⟨g, cap, cur, rfl, _⟩
    · exact ⟨none, 0, 0, rfl⟩
    · exact ⟨_, _, _, rfl⟩
  clear h1 h2 h5
  go_wp2
  go_ret
  exact ⟨_, rfl, FIN.out⟩
end Go.Proofs.Ytgkmihlnmhegfaa
