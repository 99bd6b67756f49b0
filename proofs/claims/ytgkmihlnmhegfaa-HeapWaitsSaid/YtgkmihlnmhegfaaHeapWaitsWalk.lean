/- The walk of HeapWaits: it returns true; of what was there nothing has turned. -/
import Derived.Test.YtgkmihlnmhegfaaHeapLaw
namespace Go.Proofs.Ytgkmihlnmhegfaa
open Go.RowKit
set_option linter.unusedVariables false

set_option maxHeartbeats 2000000 in
set_option maxRecDepth 100000 in
theorem heapWaits_long (w : World) (A : Option Addr) (cap n : Nat) (now : Int) (h0 : 200 < n) (hl : n ≤ 9223372036854775807) :
    Calls Try.prog 5 #[.slice A n cap, .int .u64 now] w fun e w' => e = .returned (.bool true) ∧ Below w.heap.size w w' := by
  have NW := Lib.hid (newAwake w)
  have AW := Lib.hid awake_any
  go_enter Try.func5, Try.ntmps5
  go_wp2_with fail
  go_at_call 8
  refine NW.out.mono ?_
  rintro e w1 ⟨rfl, hb⟩
  go_wp2_with fail
  go_at_call 21
  refine (AW.out _).mono ?_
  rintro e w2 ⟨rfl, hb2⟩
  go_wp2_with fail
  go_ret
  exact ⟨rfl, hb.trans (hb2.mono hb.size)⟩

/-- How many of the first i have come. -/
def come (zs : List Int) (now : Int) (i : Nat) : Nat := (List.range i).countP fun j => decide (zs.getD j 0 ≤ now)
theorem come_succ (zs : List Int) (now : Int) (i : Nat) : come zs now (i + 1) = come zs now i + if zs.getD i 0 ≤ now then 1 else 0 := by
  unfold come; rw [List.range_succ, List.countP_append]; simp [List.countP_cons]
theorem come_le (zs : List Int) (now : Int) (i : Nat) : come zs now i ≤ i := by
  unfold come; have := List.countP_le_length (p := fun j => decide (zs.getD j 0 ≤ now)) (l := List.range i); simpa using this
theorem come_queue (zs : List Int) (now : Int) (i : Nat) : (queue zs i).countP (fun y => decide (y.d ≤ now)) = come zs now i := by
  rw [(queue_perm zs i).countP_eq, List.countP_map]; rfl
theorem sorted_come {S : List Itm} (h : Sorted S) (now : Int) : ∀ k, k < S.length → ((at_ S k).d ≤ now ↔ k < S.countP fun y => decide (y.d ≤ now)) := by
  induction S with
  | nil => intro k hk; simp at hk
  | cons y S ih =>
    obtain ⟨h1, h2⟩ := List.pairwise_cons.1 h
    intro k hk
    rw [List.countP_cons]
    by_cases hy : y.d ≤ now
    · rw [if_pos (by simpa using hy)]
      cases k with
      | zero => simp [at_, hy]
      | succ k =>
        have := ih h2 k (by simpa using hk)
        rw [show at_ (y :: S) (k + 1) = at_ S k by simp [at_], this]; omega
    · rw [if_neg (by simpa using hy)]
      have hz : S.countP (fun y => decide (y.d ≤ now)) = 0 := by
        rw [List.countP_eq_zero]
        intro z hz
        have := h1 z hz
        unfold ltI at this
        simp; omega
      rw [hz]
      cases k with
      | zero => simp [at_]; omega
      | succ k =>
        have hk' : k < S.length := by simpa using hk
        rw [show at_ (y :: S) (k + 1) = at_ S k by simp [at_]]
        have := h1 (at_ S k) (by rw [at_get _ _ hk']; exact List.getElem_mem _)
        unfold ltI at this
        constructor
        · intro hd; omega
        · intro hd; omega
theorem queue_sorted (zs : List Int) (m : Nat) : Sorted (queue zs m) := by
  induction m with
  | zero => exact List.Pairwise.nil
  | succ m ih =>
    rw [queue_succ]
    refine insI_sorted ih _ fun y hy => ?_
    obtain ⟨q, hq, rfl⟩ := queue_mem zs m y hy
    show (q : Int) + 1 ≠ (m : Int) + 1
    omega

set_option maxHeartbeats 4000000 in
set_option maxRecDepth 100000 in
theorem heapWaits_walk (now : Int) (hnow : (Lit.int .u64 now).wf = true) (w : World) (A : Option Addr) (cap : Nat) (zs : List Int) (hl : zs.length ≤ maxLen) (hs : IntsIn w .u64 A zs) (hw : ∀ z ∈ zs, (Lit.int .u64 z).wf = true) :
    Calls Try.prog 5 #[.slice A zs.length cap, .int .u64 now] w fun e w' => e = .returned (.bool true) ∧ Below w.heap.size w w' := by
  by_cases h0 : 200 < zs.length
  · exact heapWaits_long w A cap zs.length now h0 (by unfold maxLen at hl; omega)
  · have NW := Lib.hid (newQ w w.heap.size w (Below.refl _ _) (Nat.le_refl _))
    have AW := Lib.hid awake_any
    have S := Lib.hid hs
    obtain ⟨n, hn⟩ : ∃ n, n = zs.length := ⟨_, rfl⟩
    have HN := Lib.hid hn
    rw [← hn] at h0 ⊢
    clear hl hs hw hn hnow
    have CL := Lib.hid (come_le zs now)
    go_enter Try.func5, Try.ntmps5
    go_wp2_with fail
    go_at_call 8
    refine NW.out.mono ?_
    rintro e w1 ⟨rfl, h1⟩
    obtain ⟨b, hb⟩ : ∃ b, b = w.heap.size + 1 := ⟨_, rfl⟩
    obtain ⟨mb, hmb⟩ : ∃ mb, mb = w.heap.size := ⟨_, rfl⟩
    obtain ⟨N, hN⟩ : ∃ N, N = w.heap.size + 2 := ⟨_, rfl⟩
    rw [← hb, ← hN] at h1
    rw [show w.heap.size = mb from hmb.symm] at h1
    simp only [← hb]
    have HM := Lib.hid hmb
    clear hb hmb hN
    have H1 := Lib.hid h1
    clear h1
    go_wp2_with fail
    go_loopw [6, 7] (fun vn vi wr => ∃ (i q : Nat) (v : Value), i ≤ n ∧ vi = .int .i64 i ∧ vn = .int .i64 q ∧ Hid (q = come zs now i) ∧ q ≤ i ∧ Hid (Since w mb wr b mb N v (i * 1000) (queue zs i) i)) (fun _ vi _ => n - (intOf vi).toNat)
    case atStart => exact ⟨0, 0, _, Nat.zero_le _, rfl, rfl, Lib.hid rfl, Nat.le_refl _, H1⟩
    case round =>
      obtain ⟨i, q, v, hi, rfl, rfl, hqc, hqi, hq⟩ := hrel
      by_cases hlt : i < n
      · obtain ⟨a, rfl, hal, hac⟩ := ints_at S.out (by rw [← HN.out]; omega)
        have hci := hac i (by rw [← HN.out]; exact hlt)
        have hbel := hq.out.bel
        rw [HM.out] at hbel
        have hcr : wr.cell? (a.add i) = some (.int .u64 (zs.getD i 0)) := by rw [cell_below hbel hal]; exact hci
        have hql := queue_length zs i
        have PT := Lib.hid (putS hq.out.at1 (zs.getD i 0) i (by rw [hql]; omega) (by omega) (by rw [hql]; unfold maxLen; omega))
        have QS := Lib.hid (queue_succ zs i)
        have CS := Lib.hid (come_succ zs now i)
        obtain ⟨z, hz⟩ : ∃ z, z = zs.getD i 0 := ⟨_, rfl⟩
        rw [← hz] at hcr PT
        rw [← hz, ← hqc.out] at CS
        have HCI := Lib.hid hci
        have hcv : IntKind.u64.wrap (i : Int) = (i : Int) := by rw [IntKind.wrap_u64]; omega
        have HZ := Lib.hid hz
        have HQL := Lib.hid hql
        clear hac hci hbel hz hql
        go_wp2_with fail
        go_at_call 16
        refine PT.out.mono ?_
        rintro e w2 ⟨rfl, v2, l2⟩
        have h2 := hq.out.led l2
        have hbel2 := h2.bel
        rw [HM.out] at hbel2
        have hcr2 : w2.cell? (a.add i) = some (.int .u64 z) := by rw [cell_below hbel2 hal, HZ.out]; exact HCI.out
        have H2 := Lib.hid (show Since w mb w2 b mb N v2 ((i + 1) * 1000) (queue zs (i + 1)) (i + 1) by
          rw [QS.out]
          have e : itmOf zs i = ⟨z, (i : Int), (i : Int) + 1⟩ := by rw [HZ.out]; rfl
          rw [e]
          exact ⟨h2.at1.mono (by rw [HQL.out]; omega), h2.hb, h2.hm, h2.hN, h2.bel⟩)
        clear l2 h2 hcr hbel2
        by_cases hzn : z ≤ now
        · have C1 := CS.out
          rw [if_pos hzn] at C1
          have HC1 := Lib.hid C1
          clear C1
          go_wp2_with fail
          go_roundw
          case rel => exact ⟨i + 1, q + 1, v2, by omega, by go_num, by go_num, Lib.hid HC1.out.symm, by omega, H2⟩
          case measure => simp [intOf]; omega
        · have C1 := CS.out
          rw [if_neg hzn] at C1
          have HC1 := Lib.hid C1
          clear C1
          go_wp2_with fail
          go_roundw
          case rel => exact ⟨i + 1, q, v2, by omega, by go_num, rfl, Lib.hid HC1.out.symm, by omega, H2⟩
          case measure => simp [intOf]; omega
      · obtain rfl : n = i := by omega
        have H2 := Lib.hid (show Since w mb wr b mb N v (n * 1000 + 0 * 1000) ((queue zs n).drop 0) n by simpa using hq.out)
        clear hq
        go_wp2_with fail
        obtain ⟨wq, hwq⟩ : ∃ wq, wq = wr := ⟨_, rfl⟩
        clear hwq
        go_loopw [8] (fun vi wr => ∃ (k : Nat) (v : Value), k ≤ q ∧ vi = .int .i64 k ∧ Hid (Since w mb wr b mb N v (n * 1000 + k * 1000) ((queue zs n).drop k) n)) (fun vi _ => q - (intOf vi).toNat)
        case atStart => exact ⟨0, _, Nat.zero_le _, rfl, H2⟩
        case round =>
          obtain ⟨k, v, hk, rfl, hp⟩ := hrel
          have hqs := queue_sorted zs n
          have hcome := sorted_come hqs now
          rw [come_queue, ← hqc.out] at hcome
          by_cases hlt2 : k < q
          · obtain ⟨a, rfl, hal, hac⟩ := ints_at S.out (by rw [← HN.out]; omega)
            rw [← HN.out] at hac
            obtain ⟨j, hjn, hj⟩ := queue_at zs n k (by omega)
            have hdrop := drop_at (queue zs n) k (by rw [queue_length]; omega)
            have hd := (hcome k (by rw [queue_length]; omega)).2 hlt2
            rw [hj] at hdrop hd
            have hat := hp.out.at1
            rw [hdrop] at hat
            have hlen : (itmOf zs j :: (queue zs n).drop (k + 1)).length = n - k := by simp [queue_length]; omega
            have PP := Lib.hid (popS_yes hat now hd (by rw [hlen]; omega) (by omega) (by rw [hlen]; unfold maxLen; omega))
            rw [hlen] at PP
            have hjc := hac j hjn
            obtain ⟨zj, hzj⟩ : ∃ zj, zj = zs.getD j 0 := ⟨_, rfl⟩
            rw [← hzj] at hjc
            have hdz : zj ≤ now := by rw [hzj]; exact hd
            have HJC := Lib.hid hjc
            have hj0 : (0 : Int) ≤ (j : Int) := by omega
            have hj1 : (j : Int) < (n : Int) := by omega
            have hge : decide ((n : Int) ≤ (j : Int)) = false := by simp; omega
            have hg2 : decide (now < zj) = false := by simp; omega
            have hnv : IntKind.u64.wrap (n : Int) = (n : Int) := by rw [IntKind.wrap_u64]; omega
            clear hdrop hat hlen hac hjc hj hzj hd hcome hqs
            dsimp only [itmOf] at PP
            go_wp2_with fail
            go_at_call 14
            refine PP.out.mono ?_
            rintro e w2 ⟨rfl, v', l⟩
            have hs2 := hp.out.led l
            have hbel := hs2.bel
            rw [HM.out] at hbel
            have hcj : w2.cell? (a.add j) = some (.int .u64 zj) := by rw [cell_below hbel hal]; exact HJC.out
            have H3 := Lib.hid (show Since w mb w2 b mb N v' (n * 1000 + (k + 1) * 1000) ((queue zs n).drop (k + 1)) n from ⟨hs2.at1.mono (by omega), hs2.hb, hs2.hm, hs2.hN, hs2.bel⟩)
            clear hs2 l hbel
            go_wp2_with fail
            go_roundw
            case rel => exact ⟨k + 1, v', by omega, by go_num, H3⟩
            case measure => simp [intOf]; omega
          · obtain rfl : q = k := by omega
            have hno : ∀ y T, (queue zs n).drop q = y :: T → now < y.d := by
              intro y T e
              have hqn : q < n := by
                rcases Nat.lt_or_ge q n with h | h
                · exact h
                · rw [List.drop_eq_nil_iff.2 (by rw [queue_length]; exact h)] at e; cases e
              rw [drop_at _ _ (by rw [queue_length]; exact hqn)] at e
              cases e
              have := hcome q (by rw [queue_length]; exact hqn)
              omega
            have hlen : ((queue zs n).drop q).length = n - q := by rw [List.length_drop, queue_length]
            have PP := Lib.hid (popS_no hp.out.at1 now hno (by rw [hlen]; omega))
            have HNO := Lib.hid hno
            have HLEN := Lib.hid hlen
            have hsub : ((n - q : Nat) : Int) = (n : Int) - (q : Int) := by omega
            have HSUB := Lib.hid hsub
            clear hcome hqs hno hlen hsub
            go_wp2_with fail
            go_at_call 14
            refine PP.out.mono ?_
            rintro e w3 ⟨rfl, hb3⟩
            have h3 := hp.out.below hb3
            have LN := lenS h3.at1 (by rw [HLEN.out]; omega)
            rw [HLEN.out, HSUB.out] at LN
            have LN2 := Lib.hid LN
            have FS := Lib.hid (firstS h3.at1 (by rw [HLEN.out]; omega))
            have H3 := Lib.hid h3
            clear hb3 h3 LN
            go_wp2_with fail
            go_at_call 18
            refine LN2.out.mono ?_
            rintro e w4 ⟨rfl, rfl⟩
            have hne : ((n : Int) - (q : Int) != (n : Int) - (q : Int)) = false := by simp
            by_cases hqn : q < n
            · have hd1 : ((queue zs n).drop q) = at_ (queue zs n) q :: (queue zs n).drop (q + 1) := drop_at _ _ (by rw [queue_length]; exact hqn)
              have hd2 := HNO.out _ _ hd1
              rw [hd1] at FS
              unfold firstW at FS
              obtain ⟨y, hy⟩ : ∃ y, y = at_ (queue zs n) q := ⟨_, rfl⟩
              rw [← hy] at FS hd2
              obtain ⟨y0, y1, y2⟩ := y
              dsimp only at FS hd2
              have hdd : decide ((q : Int) < (n : Int)) = true := by simp; omega
              have hdd2 : decide (q < n) = true := by simp; omega
              clear hd1 hy
              go_wp2_with fail
              go_at_call 12
              refine FS.out.mono ?_
              rintro e w5 ⟨rfl, hb5⟩
              have h5 := H3.out.below hb5
              have H5 := Lib.hid h5
              clear hb5 h5
              go_wp2_with fail
              go_at_call 21
              refine (AW.out _).mono ?_
              rintro e w6 ⟨rfl, hb6⟩
              go_wp2_with fail
              go_ret
              have hbel := H5.out.bel
              rw [HM.out] at hbel
              exact ⟨rfl, hbel.trans (hb6.mono hbel.size)⟩
            · have hd1 : ((queue zs n).drop q) = [] := List.drop_eq_nil_iff.2 (by rw [queue_length]; omega)
              rw [hd1] at FS
              unfold firstW at FS
              dsimp only at FS
              have hdd : decide ((q : Int) < (n : Int)) = false := by simp; omega
              have hdd2 : decide (q < n) = false := by simp; omega
              clear hd1
              go_wp2_with fail
              go_at_call 12
              refine FS.out.mono ?_
              rintro e w5 ⟨rfl, hb5⟩
              have h5 := H3.out.below hb5
              have H5 := Lib.hid h5
              clear hb5 h5
              go_wp2_with fail
              go_at_call 21
              refine (AW.out _).mono ?_
              rintro e w6 ⟨rfl, hb6⟩
              go_wp2_with fail
              go_ret
              have hbel := H5.out.bel
              rw [HM.out] at hbel
              exact ⟨rfl, hbel.trans (hb6.mono hbel.size)⟩
end Go.Proofs.Ytgkmihlnmhegfaa
