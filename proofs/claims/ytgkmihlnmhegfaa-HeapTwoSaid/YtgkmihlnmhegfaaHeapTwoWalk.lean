/- The walk of HeapTwo: it returns true; of what was there nothing has turned. -/
import Derived.Test.YtgkmihlnmhegfaaHeapAll3
import Derived.Test.YtgkmihlnmhegfaaHeapLaw
namespace Go.Proofs.Ytgkmihlnmhegfaa
open Go.RowKit
set_option linter.unusedVariables false

/-- Two queues side by side. -/
structure TwoI (w : World) (B0 : Nat) (W : World) (ba ma Na : Nat) (va : Value) (ca : Nat) (Sa : List Itm) (la : Nat) (bb mb Nb : Nat) (vb : Value) (cb : Nat) (Sb : List Itm) (lb : Nat) : Prop where
  a : Since w B0 W ba ma Na va ca Sa la
  b : Since w B0 W bb mb Nb vb cb Sb lb
  n1 : ∀ k, va.ownBlock = some k → k ≠ bb ∧ k ≠ mb ∧ vb.ownBlock ≠ some k
  n2 : ∀ k, vb.ownBlock = some k → k ≠ ba ∧ k ≠ ma
  d : ba ≠ bb ∧ ba ≠ mb ∧ ma ≠ bb ∧ ma ≠ mb
section
variable {w W W' : World} {B0 ba ma Na : Nat} {va : Value} {ca : Nat} {Sa : List Itm} {la bb mb Nb : Nat} {vb : Value} {cb : Nat} {Sb : List Itm} {lb : Nat}
theorem TwoI.swap (h : TwoI w B0 W ba ma Na va ca Sa la bb mb Nb vb cb Sb lb) : TwoI w B0 W bb mb Nb vb cb Sb lb ba ma Na va ca Sa la :=
  ⟨h.b, h.a, fun k hk => ⟨(h.n2 k hk).1, (h.n2 k hk).2, fun e => (h.n1 k e).2.2 hk⟩, fun k hk => ⟨(h.n1 k hk).1, (h.n1 k hk).2.1⟩, ⟨fun e => h.d.1 e.symm, fun e => h.d.2.2.1 e.symm, fun e => h.d.2.1 e.symm, fun e => h.d.2.2.2 e.symm⟩⟩
theorem TwoI.led {v' : Value} {c' : Nat} {S' : List Itm} {l' : Nat} (h : TwoI w B0 W ba ma Na va ca Sa la bb mb Nb vb cb Sb lb) (l : Led W ba ma Na va W' v' c' S' l') : TwoI w B0 W' ba ma Na v' c' S' l' bb mb Nb vb cb Sb lb := by
  have hf := h.b.at1.facts
  have ho := h.b.at1.own
  have hF : ∀ k, k ≠ ba → k ≠ ma → va.ownBlock ≠ some k → k ∉ ba :: ma :: va.ownBlock.toList := fun k h1 h2 h3 => by
    simp only [List.mem_cons, not_or]
    exact ⟨h1, h2, fun e => h3 (by simpa using e)⟩
  refine ⟨h.a.led l, ⟨h.b.at1.only l.only (hF _ (fun e => h.d.1 e.symm) (fun e => h.d.2.2.1 e.symm) (fun e => (h.n1 _ e).1 rfl)) (hF _ (fun e => h.d.2.1 e.symm) (fun e => h.d.2.2.2 e.symm) (fun e => (h.n1 _ e).2.1 rfl)) (fun k hk => hF _ (h.n2 k hk).1 (h.n2 k hk).2 (fun e => (h.n1 k e).2.2 hk)), h.b.hb, h.b.hm, h.b.hN, (h.a.led l).bel⟩, ?_, h.n2, h.d⟩
  intro k hk
  rcases l.jump k hk with e | e
  · exact h.n1 k e
  · exact ⟨by omega, by omega, fun e2 => by have := (ho k e2).2; omega⟩
theorem TwoI.below (h : TwoI w B0 W ba ma Na va ca Sa la bb mb Nb vb cb Sb lb) (hb : Below W.heap.size W W') : TwoI w B0 W' ba ma Na va ca Sa la bb mb Nb vb cb Sb lb := h.led (Led.same h.a.at1 hb)
theorem TwoI.up {d : Nat} (h : TwoI w B0 W ba ma Na va ca Sa la bb mb Nb vb cb Sb lb) (hd : ca ≤ d) : TwoI w B0 W ba ma Na va d Sa la bb mb Nb vb cb Sb lb :=
  ⟨⟨h.a.at1.mono hd, h.a.hb, h.a.hm, h.a.hN, h.a.bel⟩, h.b, h.n1, h.n2, h.d⟩
end

set_option maxHeartbeats 4000000 in
set_option maxRecDepth 100000 in
theorem heapTwo_walk (w : World) (A : Option Addr) (cap : Nat) (zs : List Int) (hl : zs.length ≤ maxLen) (hs : IntsIn w .u64 A zs) (hw : ∀ z ∈ zs, (Lit.int .u64 z).wf = true) :
    Calls Try.prog 7 #[.slice A zs.length cap] w fun e w' => e = .returned (.bool true) ∧ Below w.heap.size w w' := by
  have NW := Lib.hid (newQ w w.heap.size w (Below.refl _ _) (Nat.le_refl _))
  have AW := Lib.hid awake_any
  have S := Lib.hid hs
  obtain ⟨n, hn⟩ : ∃ n, n = zs.length := ⟨_, rfl⟩
  have HN := Lib.hid hn
  rw [← hn] at hl ⊢
  unfold maxLen at hl
  clear hs hw hn
  have hn0 : (0 : Int) ≤ (n : Int) := by omega
  go_enter Try.func7, Try.ntmps7
  go_wp2_with fail
  go_at_call 8
  refine NW.out.mono ?_
  rintro e w1 ⟨rfl, h1⟩
  have NW2 := Lib.hid (newS w1)
  have H1 := Lib.hid h1
  have hsz := h1.at1.facts
  clear h1
  go_wp2_with fail
  go_at_call 8
  refine NW2.out.mono ?_
  rintro e w2 ⟨rfl, h2, hb2⟩
  have t0 : TwoI w w.heap.size w2 (w.heap.size + 1) w.heap.size (w.heap.size + 2) (.slice none 0 0) 0 [] 0 (w1.heap.size + 1) w1.heap.size (w1.heap.size + 2) (.slice none 0 0) 0 [] 0 :=
    ⟨H1.out.below hb2, ⟨h2, by omega, by omega, by omega, (H1.out.below hb2).bel⟩, (fun k hk => by cases hk), (fun k hk => by cases hk), by omega⟩
  obtain ⟨ba, hba⟩ : ∃ ba, ba = w.heap.size + 1 := ⟨_, rfl⟩
  obtain ⟨ma, hma⟩ : ∃ ma, ma = w.heap.size := ⟨_, rfl⟩
  obtain ⟨Na, hNa⟩ : ∃ Na, Na = w.heap.size + 2 := ⟨_, rfl⟩
  obtain ⟨bb, hbb⟩ : ∃ bb, bb = w1.heap.size + 1 := ⟨_, rfl⟩
  obtain ⟨mb, hmb⟩ : ∃ mb, mb = w1.heap.size := ⟨_, rfl⟩
  obtain ⟨Nb, hNb⟩ : ∃ Nb, Nb = w1.heap.size + 2 := ⟨_, rfl⟩
  rw [← hba, ← hNa, ← hbb, ← hNb, show w1.heap.size = mb from hmb.symm, show w.heap.size = ma from hma.symm] at t0
  simp only [← hba, ← hbb]
  have T0 := Lib.hid t0
  have HM := Lib.hid hma
  clear H1 h2 hb2 t0 hba hma hNa hbb hmb hNb hsz NW NW2
  have FIN := Lib.hid (show ∀ (W W' : World), Below ma w W → Below W.heap.size W W' → Below w.heap.size w W' from fun W W' h hb => by
    have hsz := h.size
    rw [← HM.out]; exact h.trans (hb.mono (by rw [HM.out]; exact hsz)))
  by_cases h100 : 100 < n
  · go_wp2_with fail
    go_at_call 21
    refine (AW.out _).mono ?_
    rintro e w3 ⟨rfl, hb3⟩
    go_wp2_with fail
    go_ret
    exact ⟨rfl, FIN.out _ _ T0.out.a.bel hb3⟩
  · go_wp2_with fail
    go_loopw [5] (fun vi wr => ∃ (i : Nat) (va : Value) (Sa : List Itm), i ≤ n ∧ vi = .int .i64 i ∧ Hid (Sa.length = i) ∧ Hid (TwoI w ma wr ba ma Na va (i * 1000) Sa i bb mb Nb (.slice none 0 0) 0 [] 0)) (fun vi _ => n - (intOf vi).toNat)
    case atStart => exact ⟨0, _, [], Nat.zero_le _, rfl, Lib.hid rfl, T0⟩
    case round =>
      obtain ⟨i, va, Sa, hi, rfl, hSa, hT⟩ := hrel
      by_cases hlt : i < n
      · obtain ⟨a, rfl, hal, hac⟩ := ints_at S.out (by rw [← HN.out]; omega)
        have hci := hac i (by rw [← HN.out]; exact hlt)
        have hbel := hT.out.a.bel
        rw [HM.out] at hbel
        have hcr : wr.cell? (a.add i) = some (.int .u64 (zs.getD i 0)) := by rw [cell_below hbel hal]; exact hci
        have hql := hSa.out
        obtain ⟨z, hz⟩ : ∃ z, z = zs.getD i 0 := ⟨_, rfl⟩
        rw [← hz] at hcr
        have PT := Lib.hid (putS hT.out.a.at1 z 5 (by rw [hql]; omega) (by omega) (by rw [hql]; unfold maxLen; omega))
        have HQL := Lib.hid hql
        clear hac hci hbel hz hql
        go_wp2_with fail
        go_at_call 16
        refine PT.out.mono ?_
        rintro e w3 ⟨rfl, v3, l3⟩
        have T3 := Lib.hid ((hT.out.led l3).up (d := (i + 1) * 1000) (by rw [HQL.out]; omega))
        have S3 := Lib.hid (show (insI Sa ⟨z, 5, (i : Int) + 1⟩).length = i + 1 by rw [(insI_perm _ _).length_eq, List.length_cons, HQL.out])
        clear l3
        go_wp2_with fail
        go_roundw
        case rel => exact ⟨i + 1, v3, _, by omega, by go_num, S3, T3⟩
        case measure => simp [intOf]; omega
      · obtain rfl : n = i := by omega
        have FS := Lib.hid (firstS hT.out.b.at1 (by simp))
        go_wp2_with fail
        go_at_call 12
        refine FS.out.mono ?_
        rintro e w3 ⟨rfl, hb3⟩
        have h3 := hT.out.below hb3
        have LB := Lib.hid (lenS h3.b.at1 (by simp))
        have T3 := Lib.hid h3
        clear h3 hb3
        unfold firstW
        dsimp only
        go_wp2_with fail
        go_at_call 18
        refine LB.out.mono ?_
        rintro e w4 ⟨rfl, rfl⟩
        have PB := Lib.hid (putS T3.out.b.at1 1 2 (by simp) (by omega) (by simp [maxLen]))
        go_wp2_with fail
        go_at_call 16
        refine PB.out.mono ?_
        rintro e w5 ⟨rfl, v5, l5⟩
        have h5 := T3.out.swap.led l5
        have LA := Lib.hid (lenS h5.b.at1 (by rw [hSa.out]; omega))
        rw [hSa.out] at LA
        have AL := Lib.hid (allS h5.a.at1 (by simp [insI]) 9 (by omega) (by omega))
        have T5 := Lib.hid h5
        clear h5 l5
        go_wp2_with fail
        go_at_call 18
        refine LA.out.mono ?_
        rintro e w6 ⟨rfl, rfl⟩
        go_wp2_with fail
        go_at_call 19
        refine AL.out.mono ?_
        rintro e w7 ⟨u, rfl, hu, hb7⟩
        obtain ⟨g, cap9, rfl⟩ : ∃ g cap, u = .slice (some ⟨g, 0, none⟩) 1 cap := by
          have hu' := hu
          simp only [insI, List.take, List.length_cons, List.length_nil] at hu'
          exact ownsRow_succ (k := 0) hu'
        have HB7 := Lib.hid hb7
        clear hu hb7
        go_wp2_with fail
        go_at_call 21
        refine (AW.out _).mono ?_
        rintro e w8 ⟨rfl, hb8⟩
        go_wp2_with fail
        go_ret
        exact ⟨rfl, FIN.out _ _ T5.out.a.bel (HB7.out.trans (hb8.mono HB7.out.size))⟩
end Go.Proofs.Ytgkmihlnmhegfaa
