/- The walk of All's own function, and the statements' help all (layer 7). The conditions: a queue lies there, fewer than 2^30 items. -/
import Derived.Test.YtgkmihlnmhegfaaHeapAll
namespace Go.Proofs.Ytgkmihlnmhegfaa
open Go.RowKit
set_option linter.unusedVariables false

theorem take_succ_itm (S : List Itm) (k : Nat) (h : k < S.length) : S.take (k + 1) = S.take k ++ [at_ S k] := by rw [List.take_succ_eq_append_getElem h, at_get _ _ h]

set_option maxHeartbeats 4000000 in
set_option maxRecDepth 100000 in
theorem all1_cb {w W : World} {Bs b mb N c : Nat} {v : Value} {S : List Itm} {last : Nat} {Bl Bm most : Nat} (hBs : W.cell? ⟨Bs, 0, none⟩ = some (.pointer (some ⟨b, 0, none⟩))) (h : HeapIs W b mb N v c S last) (hl : S.length < 1073741823)
    (hC : Coll w Bl Bm most [] W) (hne : Bl ≠ Bm) (hB : w.heap.size ≤ Bl) (hm : 1 ≤ most) :
    Calls Try.prog 30 #[.func (.func 25) #[] #[.pointer (some ⟨Bl, 0, none⟩), .pointer (some ⟨Bm, 0, none⟩)], .pointer (some ⟨Bs, 0, none⟩)] W fun en W' => en = .returned (.tuple #[]) ∧ Coll w Bl Bm most (S.take most) W' := by
  obtain ⟨L, hL, hp, hs⟩ := h
  have c0 := hL.c0
  have hbl := hL.row.lt
  have hle := hp.length_eq
  have hv : ∃ p n c, v = .slice p n c := by
    rcases hL.two with ⟨rfl, _⟩ | ⟨g, cap, rfl, _⟩
    · exact ⟨_, _, _, rfl⟩
    · exact ⟨_, _, _, rfl⟩
  obtain ⟨g0, cap0, hsrc⟩ : ∃ g cap, SrcIs W v g cap L := by
    rcases hL.two with ⟨e1, e2⟩ | ⟨g, cap, e1, _, e3⟩
    · exact ⟨0, 0, .inl ⟨e1, e2⟩⟩
    · exact ⟨g, cap, .inr ⟨e1, e3⟩⟩
  have MV := Lib.hid (mkValues_any v hv)
  have hb1 : Below W.heap.size W (W.alloc (.cells #[v] 54)) := (Below.refl _ _).alloc (Nat.le_refl _) _
  have SF := Lib.hid (sortedFunc_any (w := W.alloc (.cells #[v] 54)) (Bs := W.heap.size) (Boxed.new W _ v).cell (hsrc.below hb1) (by omega) hL.dist)
  have HC := Lib.hid (hC.keep hb1)
  have HP := Lib.hid hp
  have HS := Lib.hid hs
  obtain ⟨p, m, cc, rfl⟩ := hv
  clear hL hp hs hle hsrc hb1 hC
  go_enter Try.func30, Try.ntmps30
  go_wp2_with fail
  go_at_call 32
  refine (MV.out _).mono ?_
  rintro e W1 ⟨rfl, rfl⟩
  go_wp2_with fail
  go_at_call 31
  refine SF.out.mono ?_
  rintro e W2 ⟨u, L', rfl, hp', hs', hown, hb2⟩
  obtain rfl : L' = S := sorted_one hs' HS.out (hp'.trans HP.out)
  have C2 := Lib.hid (HC.out.keep hb2)
  rcases hown.2 with ⟨rfl, e⟩ | ⟨g, cap, cur, rfl, hg, hgg, hn, hmx, hsz, ht⟩
  · have hS : L' = [] := List.eq_nil_of_length_eq_zero e
    subst hS
    clear hown hp' hs' hb2 e
    go_wp2_with fail
    go_loopw [12] (fun vi wr => vi = .int .i64 0 ∧ wr = W2) (fun _ _ => 0)
    case atStart => exact ⟨rfl, rfl⟩
    case round =>
      obtain ⟨rfl, rfl⟩ := hrel
      go_wp2_with fail
      go_end0
      exact ⟨rfl, by simpa using C2.out⟩
  · have R2 := Lib.hid (show IRow W2 g cap L' from ⟨cur, hgg, hsz, hn, hmx, ht⟩)
    obtain ⟨n, hn2⟩ : ∃ n, n = L'.length := ⟨_, rfl⟩
    rw [← hn2] at hl ⊢
    have HN := Lib.hid hn2
    clear hown hp' hs' hb2 hg hgg hn hmx hsz ht hn2
    go_wp2_with fail
    go_loopw [12] (fun vi wr => ∃ k : Nat, k ≤ n ∧ k < most ∧ vi = .int .i64 k ∧ Hid (Coll w Bl Bm most (L'.take k) wr) ∧ Hid (IRow wr g cap L')) (fun vi _ => n - (intOf vi).toNat)
    case atStart => exact ⟨0, Nat.zero_le _, hm, rfl, C2, R2⟩
    case round =>
      obtain ⟨k, hk, hkm, rfl, hcoll, hrow⟩ := hrel
      by_cases hlt : k < n
      · obtain ⟨p0, p1, p2⟩ := hrow.out.at3 k (by rw [← HN.out]; exact hlt)
        have d1 := take_succ_itm L' k (by rw [← HN.out]; exact hlt)
        obtain ⟨x, hx⟩ : ∃ x, x = at_ L' k := ⟨_, rfl⟩
        rw [← hx] at p0 p1 p2 d1
        have hpl : (L'.take k).length = k := by simp; rw [← HN.out]; omega
        have hbx : Below wr.heap.size wr (wr.alloc (.cells #[.int .u64 x.d, .int .u64 x.w, .int .i64 x.h] 59)) := (Below.refl _ _).alloc (Nat.le_refl _) _
        have CB := Lib.hid (fun bb hbb => coll_any (hcoll.out.keep hbx) hne hB (by omega) x bb hbb)
        rw [hpl, ← d1] at CB
        have R3 := Lib.hid (show IRow (wr.alloc (.cells #[.int .u64 x.d, .int .u64 x.w, .int .i64 x.h] 59)) g cap L' from hrow.out.block (hbx.block g hrow.out.lt))
        obtain ⟨x0, x1, x2⟩ := x
        clear d1 hx hpl hbx
        dsimp only at p0 p1 p2 CB R3
        by_cases hmo : k + 1 < most
        · have CB2 := Lib.hid (CB.out true (by rw [eq_comm, decide_eq_true_eq]; omega))
          go_wp2_with fail
          go_at_call 25
          refine CB2.out.mono ?_
          rintro en W3 ⟨rfl, hc3, hr3⟩
          have HC3 := Lib.hid hc3
          have HR3 := Lib.hid (hr3 _ _ _ R3.out)
          clear hc3 hr3
          go_wp2_with fail
          go_roundw
          case rel => exact ⟨k + 1, by omega, hmo, by go_num, HC3, HR3⟩
          case measure => simp [intOf]; omega
        · have CB2 := Lib.hid (CB.out false (by rw [eq_comm, decide_eq_false_iff_not]; omega))
          obtain rfl : most = k + 1 := by omega
          go_wp2_with fail
          go_at_call 25
          refine CB2.out.mono ?_
          rintro en W3 ⟨rfl, hc3, hr3⟩
          have HC3 := Lib.hid hc3
          clear hc3 hr3
          go_wp2_with fail
          refine bodyPost_ret (results_none rfl _ _ _) rfl ?_
          exact ⟨rfl, HC3.out⟩
      · have hT : L'.take most = L'.take k := by rw [List.take_of_length_le (by rw [← HN.out]; omega), List.take_of_length_le (by rw [← HN.out]; omega)]
        have HT := Lib.hid hT
        clear hT
        go_wp2_with fail
        go_end0
        exact ⟨rfl, by rw [HT.out]; exact hcoll.out⟩
end Go.Proofs.Ytgkmihlnmhegfaa
