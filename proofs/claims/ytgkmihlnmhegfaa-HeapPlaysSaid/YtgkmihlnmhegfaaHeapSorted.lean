/- The library's Collect and SortedFunc over a row of items (layer 7): a new row of the same items in order. The conditions: no two of one handle, fewer than 2^30. -/
import Derived.Test.YtgkmihlnmhegfaaHeapSeq
namespace Go.Proofs.Ytgkmihlnmhegfaa
open Go.RowKit
set_option linter.unusedVariables false

theorem sorted_one {S : List Itm} : ∀ {T : List Itm}, Sorted S → Sorted T → S.Perm T → S = T := by
  induction S with
  | nil => intro T _ _ h; exact h.nil_eq
  | cons x S ih =>
    intro T hs ht h
    cases T with
    | nil => exact absurd h.length_eq (by simp)
    | cons y T =>
      obtain ⟨s1, s2⟩ := List.pairwise_cons.1 hs
      obtain ⟨t1, t2⟩ := List.pairwise_cons.1 ht
      have hxy : x = y := by
        rcases List.mem_cons.1 (h.mem_iff.1 (show x ∈ x :: S by simp)) with e | e
        · exact e
        · rcases List.mem_cons.1 (h.mem_iff.2 (show y ∈ y :: T by simp)) with e2 | e2
          · exact e2.symm
          · have h1 := t1 _ e; have h2 := s1 _ e2; exact absurd h2 (ltI_asymm h1)
      subst hxy
      rw [ih s2 t2 h.cons_inv]

set_option maxHeartbeats 1000000 in
theorem collect_any {w : World} {Bs g cap : Nat} {v : Value} {C : List Itm} (hBs : w.cell? ⟨Bs, 0, none⟩ = some v) (hS : SrcIs w v g cap C) (hl : C.length < 1073741824) :
    Calls Try.prog 38 #[.func (.func 40) #[] #[.pointer (some ⟨Bs, 0, none⟩)]] w fun e w' => ∃ u, e = .returned u ∧ w'.ownsRow w.heap.size 59 3 u C.length (flatI C) ∧ Below w.heap.size w w' := by
  have AS := Lib.hid ((callsIn_wide (n := 3)).1 (appendSeq_in hBs hS hl))
  clear hBs hS
  go_enter Try.func38, Try.ntmps38
  go_wp2_with fail
  go_at_call 43
  refine AS.out.mono ?_
  rintro e w1 ⟨u, rfl, hr⟩
  have HR := Lib.hid hr
  obtain ⟨p, m, c, rfl⟩ : ∃ p m c, u = .slice p m c := by
    rcases hr.1.2 with ⟨rfl, e⟩ | ⟨g, cap, cur, rfl, _⟩
    · exact ⟨none, 0, 0, rfl⟩
    · exact ⟨_, _, _, rfl⟩
  clear hr
  go_wp2_with fail
  go_ret
  exact ⟨_, rfl, HR.out⟩

set_option maxHeartbeats 1000000 in
theorem sortedFunc_any {w : World} {Bs g cap : Nat} {v : Value} {C : List Itm} (hBs : w.cell? ⟨Bs, 0, none⟩ = some v) (hS : SrcIs w v g cap C) (hl : C.length < 1073741824) (hd : Distinct C) :
    Calls Try.prog 31 #[.func (.func 40) #[] #[.pointer (some ⟨Bs, 0, none⟩)], .func (.func 27) #[] #[]] w fun e w' => ∃ u L, e = .returned u ∧ L.Perm C ∧ Sorted L ∧ w'.ownsRow w.heap.size 59 3 u L.length (flatI L) ∧ Below w.heap.size w w' := by
  have CC := Lib.hid (collect_any hBs hS hl)
  clear hBs hS
  go_enter Try.func31, Try.ntmps31
  go_wp2_with fail
  go_at_call 38
  refine CC.out.mono ?_
  rintro e w1 ⟨u, rfl, hr, hb⟩
  have HB := Lib.hid hb
  rcases hr.2 with ⟨rfl, e⟩ | ⟨g1, cap1, cur, rfl, hg1, hgg, hn, hm, hsz, ht⟩
  · have hC : C = [] := List.eq_nil_of_length_eq_zero e
    subst hC
    have SN := Lib.hid (sort_none none 0 w1)
    clear hr hb e
    go_wp2_with fail
    go_at_call 39
    refine SN.out.mono ?_
    rintro e w2 ⟨rfl, rfl⟩
    go_wp2_with fail
    go_ret
    exact ⟨_, [], rfl, List.Perm.refl _, List.Pairwise.nil, World.ownsRow_nil _ _ _ _, HB.out⟩
  · have SA := Lib.hid (sort_any (w := w1) (g := g1) (cap := cap1) (L := C) ⟨cur, hgg, hsz, hn, hm, ht⟩ hd hl)
    have HG := Lib.hid hg1
    obtain ⟨n, hn2⟩ : ∃ n, n = C.length := ⟨_, rfl⟩
    rw [← hn2] at SA ⊢
    have HN := Lib.hid hn2
    clear hr hb hgg hn hm hsz ht hg1 hn2
    go_wp2_with fail
    go_at_call 39
    refine SA.out.mono ?_
    rintro e w2 ⟨rfl, L', hp, hs, hrow, ho⟩
    have FIN := Lib.hid (show ∃ u L, Ending.returned (.slice (some ⟨g1, 0, none⟩) n cap1) = .returned u ∧ L.Perm C ∧ Sorted L ∧ w2.ownsRow w.heap.size 59 3 u L.length (flatI L) ∧ Below w.heap.size w w2 from
      ⟨_, L', by rw [HN.out, ← hp.length_eq], hp, hs, hrow.owns HG.out, HB.out.trans (ho.below (by simp; exact HG.out) HB.out.size)⟩)
    clear hp hs hrow ho
    go_wp2_with fail
    go_ret
    exact FIN.out
end Go.Proofs.Ytgkmihlnmhegfaa
