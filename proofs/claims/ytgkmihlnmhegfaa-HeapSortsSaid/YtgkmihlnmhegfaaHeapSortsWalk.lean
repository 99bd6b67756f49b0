/- The walk of HeapSorts: it returns true; of what was there nothing has turned. -/
import Derived.Test.YtgkmihlnmhegfaaHeapLaw
namespace Go.Proofs.Ytgkmihlnmhegfaa
open Go.RowKit
set_option linter.unusedVariables false

set_option maxHeartbeats 2000000 in
set_option maxRecDepth 100000 in
theorem heapSorts_long (w : World) (A : Option Addr) (cap n : Nat) (h0 : 300 < n) (hl : n ≤ 9223372036854775807) :
    Calls Try.prog 4 #[.slice A n cap] w fun e w' => e = .returned (.bool true) ∧ Below w.heap.size w w' := by
  have NW := Lib.hid (newAwake w)
  have AW := Lib.hid awake_any
  go_enter Try.func4, Try.ntmps4
  go_wp2_with fail
  go_at_call 8
  refine NW.out.mono ?_
  rintro e w1 ⟨rfl, hb⟩
  go_wp2_with fail
  go_at_call 21
  refine (AW.out _).mono ?_
  rintro e w2 ⟨rfl, hb2⟩
  go_wp2_with fail
  go_ret
  exact ⟨rfl, hb.trans (hb2.mono hb.size)⟩

/-- Between two rounds of the second loop: k items were popped. -/
structure PopI (w0 : World) (B0 : Nat) (W : World) (b mb N sb : Nat) (v : Value) (zs : List Int) (n k : Nat) (lst : Nat) : Prop where
  at1 : Since w0 B0 W b mb N v (n * 1000 + k * 1000) ((queue zs n).drop k) n
  row : Row W sb (boolsT (fun j => ((queue zs n).take k).any fun y => y.w == (j : Int)) n)
  vb : v.ownBlock ≠ some sb
  bs : b ≠ sb ∧ mb ≠ sb ∧ B0 ≤ sb
  lst0 : k ≠ 0 → at_ (queue zs n) (k - 1) = itmOf zs lst ∧ lst < n
section
variable {w0 W W' : World} {B0 b mb N sb : Nat} {v : Value} {zs : List Int} {n k lst : Nat}
theorem queue_sorted (zs : List Int) (m : Nat) : Sorted (queue zs m) := by
  induction m with
  | zero => exact List.Pairwise.nil
  | succ m ih =>
    rw [queue_succ]
    refine insI_sorted ih _ fun y hy => ?_
    obtain ⟨q, hq, rfl⟩ := queue_mem zs m y hy
    show (q : Int) + 1 ≠ (m : Int) + 1
    omega
theorem PopI.fresh (h : PopI w0 B0 W b mb N sb v zs n k lst) (hk : k < n) {j : Nat} (hj : at_ (queue zs n) k = itmOf zs j) : (((queue zs n).take k).any fun y => y.w == (j : Int)) = false := by
  have hS := queue_sorted zs n
  rw [List.any_eq_false]
  intro y hy
  obtain ⟨p, hp, e⟩ := List.mem_iff_getElem.1 hy
  rw [List.length_take, queue_length] at hp
  rw [List.getElem_take] at e
  have hlt := sorted_at hS (p := p) (q := k) (by omega) (by rw [queue_length]; exact hk)
  rw [at_get _ p (by rw [queue_length]; omega), e, hj] at hlt
  obtain ⟨q, hq, rfl⟩ := queue_mem zs n y (List.mem_of_mem_take hy)
  intro hw
  have hqj : (q : Int) = (j : Int) := by simpa [itmOf] using hw
  have : q = j := by omega
  subst this
  exact ltI_irrefl _ hlt
theorem PopI.next {v' : Value} {j : Nat} (h : PopI w0 B0 W b mb N sb v zs n k lst) (hk : k < n) (hj : at_ (queue zs n) k = itmOf zs j) (hjn : j < n) (l : Led W b mb N v W' v' (n * 1000 + k * 1000 + 2 * (n - k) + 1) ((queue zs n).drop (k + 1)) n) (hn : n ≤ 300) :
    PopI w0 B0 (W'.setCell ⟨sb, j, none⟩ (.bool true)) b mb N sb v' zs n (k + 1) j := by
  have hs := h.at1.led l
  have hsb := h.row.lt
  have hv' : v'.ownBlock ≠ some sb := fun e => by
    rcases l.jump sb e with e | e
    · exact h.vb e
    · omega
  have hsF : sb ∉ b :: mb :: v.ownBlock.toList := by
    simp only [List.mem_cons, not_or]
    exact ⟨fun e => h.bs.1 e.symm, fun e => h.bs.2.1 e.symm, fun e => h.vb (by simpa using e)⟩
  have r1 := h.row.only l.only hsF
  have r2 := r1.set j (by rw [boolsT_len]; exact hjn) (.bool true)
  have o3 : Only [sb] W' (W'.setCell ⟨sb, j, none⟩ (.bool true)) := (Only.refl [sb] W').setCell (p := ⟨sb, j, none⟩) (Or.inl (by simp)) _
  refine ⟨⟨(hs.at1.mono (by omega)).only o3 (by simpa using h.bs.1) (by simpa using h.bs.2.1) (fun q hq => by simp; intro e; subst e; exact hv' hq), hs.hb, hs.hm, hs.hN, hs.bel.trans (o3.below (fun q hq => by simp at hq; subst hq; exact h.bs.2.2) (by have := hs.at1.facts; have := hs.hN; omega))⟩, ?_, hv', h.bs, fun _ => ⟨by simpa using hj, hjn⟩⟩
  rw [boolsT_set] at r2
  rw [boolsT_congr (g := fun q => (((queue zs n).take k).any fun y => y.w == (q : Int)) || decide (j = q)) (fun q hq => ?_)]
  · exact r2
  · rw [List.take_add_one, List.any_append]
    have : (queue zs n)[k]? = some (itmOf zs j) := by rw [List.getElem?_eq_getElem (by rw [queue_length]; exact hk), ← at_get _ k (by rw [queue_length]; exact hk), hj]
    rw [this]
    congr 1
    simp [itmOf]
    by_cases e : j = q
    · subst e; simp
    · simp [e]; omega
end

set_option maxHeartbeats 4000000 in
set_option maxRecDepth 100000 in
theorem heapSorts_walk (w : World) (A : Option Addr) (cap : Nat) (zs : List Int) (hl : zs.length ≤ maxLen) (hs : IntsIn w .u64 A zs) (hw : ∀ z ∈ zs, (Lit.int .u64 z).wf = true) :
    Calls Try.prog 4 #[.slice A zs.length cap] w fun e w' => e = .returned (.bool true) ∧ Below w.heap.size w w' := by
  by_cases h0 : 300 < zs.length
  · exact heapSorts_long w A cap zs.length h0 (by unfold maxLen at hl; omega)
  · have NW := Lib.hid (newQ w w.heap.size w (Below.refl _ _) (Nat.le_refl _))
    have AW := Lib.hid awake_any
    have S := Lib.hid hs
    have U := Lib.hid (fun i h => u64_mem hw i h)
    obtain ⟨n, hn⟩ : ∃ n, n = zs.length := ⟨_, rfl⟩
    have HN := Lib.hid hn
    rw [← hn] at h0 ⊢
    clear hl hs hw hn
    have mk := make_bools n (by omega)
    rw [made_bools] at mk
    go_enter Try.func4, Try.ntmps4
    go_wp2_with fail
    go_at_call 8
    refine NW.out.mono ?_
    rintro e w1 ⟨rfl, h1⟩
    obtain ⟨b, hb⟩ : ∃ b, b = w.heap.size + 1 := ⟨_, rfl⟩
    obtain ⟨mb, hmb⟩ : ∃ mb, mb = w.heap.size := ⟨_, rfl⟩
    obtain ⟨N, hN⟩ : ∃ N, N = w.heap.size + 2 := ⟨_, rfl⟩
    rw [← hb, ← hN] at h1
    rw [show w.heap.size = mb from hmb.symm] at h1
    simp only [← hb]
    have HB := Lib.hid hb
    have HM := Lib.hid hmb
    have HNN := Lib.hid hN
    clear hb hmb hN
    have H1 := Lib.hid h1
    clear h1
    go_wp2_with fail
    go_loopw [4] (fun vi wr => ∃ (i : Nat) (v : Value), i ≤ n ∧ vi = .int .i64 i ∧ Hid (Since w mb wr b mb N v (i * 1000) (queue zs i) i)) (fun vi _ => n - (intOf vi).toNat)
    case atStart => exact ⟨0, _, Nat.zero_le _, rfl, H1⟩
    case round =>
      obtain ⟨i, v, hi, rfl, hq⟩ := hrel
      by_cases hlt : i < n
      · obtain ⟨a, rfl, hal, hac⟩ := ints_at S.out (by rw [← HN.out]; omega)
        have hci := hac i (by rw [← HN.out]; exact hlt)
        have hbel := hq.out.bel
        rw [HM.out] at hbel
        have hcr : wr.cell? (a.add i) = some (.int .u64 (zs.getD i 0)) := by rw [cell_below hbel hal]; exact hci
        have hql := queue_length zs i
        have PT := Lib.hid (putS hq.out.at1 (zs.getD i 0) i (by rw [hql]; omega) (by omega) (by rw [hql]; unfold maxLen; omega))
        have QS := Lib.hid (queue_succ zs i)
        obtain ⟨z, hz⟩ : ∃ z, z = zs.getD i 0 := ⟨_, rfl⟩
        rw [← hz] at hcr PT
        have hcv : IntKind.u64.wrap (i : Int) = (i : Int) := by rw [IntKind.wrap_u64]; omega
        have HZ := Lib.hid hz
        have HQL := Lib.hid hql
        clear hac hci hbel hz hql
        go_wp2_with fail
        go_at_call 16
        refine PT.out.mono ?_
        rintro e w2 ⟨rfl, v2, l2⟩
        have h2 := hq.out.led l2
        have hne : ((i : Int) + 1 != (i : Int) + 1) = false := by simp
        have H2 := Lib.hid (show Since w mb w2 b mb N v2 ((i + 1) * 1000) (queue zs (i + 1)) (i + 1) by
          rw [QS.out]
          have e : itmOf zs i = ⟨z, (i : Int), (i : Int) + 1⟩ := by rw [HZ.out]; rfl
          rw [e]
          exact ⟨h2.at1.mono (by rw [HQL.out]; omega), h2.hb, h2.hm, h2.hN, h2.bel⟩)
        clear l2 h2
        go_wp2_with fail
        go_roundw
        case rel => exact ⟨i + 1, v2, by omega, by go_num, H2⟩
        case measure => simp [intOf]; omega
      · obtain rfl : n = i := by omega
        have hq1 := hq.out
        obtain ⟨sb, hsb⟩ : ∃ sb, sb = wr.heap.size := ⟨_, rfl⟩
        have I0 : PopI w mb (wr.alloc (.cells (boolsT (fun _ => false) n).toArray 4)) b mb N sb v zs n 0 0 := by
          have hf := hq1.at1.facts
          refine ⟨⟨(hq1.at1.mono (by omega)).below ((Below.refl _ _).alloc (Nat.le_refl _) _), hq1.hb, hq1.hm, hq1.hN, hq1.bel.alloc (by have := hq1.hN; omega) _⟩, ?_, fun e => by have := (hq1.at1.own sb e).2; omega, ⟨by omega, by omega, by have := hq1.hN; omega⟩, fun h => absurd rfl h⟩
          have := Row.new wr (boolsT (fun _ => false) n) 4
          rw [← hsb] at this
          exact this
        have II := Lib.hid I0
        clear I0 hq1 hq
        go_wp2_with fail
        simp only [← hsb]
        generalize wr.alloc (.cells (boolsT (fun _ => false) n).toArray 4) = W1 at *
        clear hsb mk
        obtain ⟨wq, hwq⟩ : ∃ wq, wq = wr := ⟨_, rfl⟩
        clear hwq
        go_loopw [6, 7] (fun vl vi wr => ∃ (k lst : Nat) (v : Value), k ≤ n ∧ vi = .int .i64 k ∧ vl = .int .u64 lst ∧ Hid (PopI w mb wr b mb N sb v zs n k lst)) (fun _ vi _ => n - (intOf vi).toNat)
        case atStart => exact ⟨0, 0, _, Nat.zero_le _, rfl, rfl, II⟩
        case round =>
          obtain ⟨k, lst, v, hk, rfl, rfl, hp⟩ := hrel
          by_cases hlt : k < n
          · obtain ⟨a, rfl, hal, hac⟩ := ints_at S.out (by rw [← HN.out]; omega)
            rw [← HN.out] at hac
            obtain ⟨j, hjn, hj⟩ := queue_at zs n k hlt
            have hdrop := drop_at (queue zs n) k (by rw [queue_length]; exact hlt)
            rw [hj] at hdrop
            have hat := hp.out.at1.at1
            rw [hdrop] at hat
            have hlen : (itmOf zs j :: (queue zs n).drop (k + 1)).length = n - k := by simp [queue_length]; omega
            have PP := Lib.hid (popS_yes hat 18446744073709551615 (U.out j (by rw [← HN.out]; exact hjn)).2 (by rw [hlen]; omega) (by omega) (by rw [hlen]; unfold maxLen; omega))
            rw [hlen] at PP
            have hfr := hp.out.fresh hlt hj
            have hjc := hac j hjn
            have HAC := Lib.hid hac
            have HJ := Lib.hid hj
            obtain ⟨zj, hzj⟩ : ∃ zj, zj = zs.getD j 0 := ⟨_, rfl⟩
            rw [← hzj] at hjc
            have HZJ := Lib.hid hzj
            have HJC := Lib.hid hjc
            have HFR := Lib.hid hfr
            have hsbl := hp.out.row.lt
            have hbs := hp.out.bs
            have hj0 : (0 : Int) ≤ (j : Int) := by omega
            have hj1 : (j : Int) < (n : Int) := by omega
            have hge : decide ((n : Int) ≤ (j : Int)) = false := by simp; omega
            have hnv : IntKind.u64.wrap (n : Int) = (n : Int) := by rw [IntKind.wrap_u64]; omega
            clear hdrop hat hlen hac hjc hfr hj hzj
            dsimp only [itmOf] at PP
            go_wp2_with fail
            go_at_call 14
            refine PP.out.mono ?_
            rintro e w2 ⟨rfl, v', l⟩
            have hs2 := hp.out.at1.led l
            have hbel := hs2.bel
            rw [HM.out] at hbel
            have hcj : w2.cell? (a.add j) = some (.int .u64 zj) := by rw [cell_below hbel hal]; exact HJC.out
            have hsF : sb ∉ b :: mb :: v.ownBlock.toList := by
              simp only [List.mem_cons, not_or]
              exact ⟨fun e => hbs.1 e.symm, fun e => hbs.2.1 e.symm, fun e => hp.out.vb (by simpa using e)⟩
            have r2 := hp.out.row.only l.only hsF
            have hsc : w2.cell? ⟨sb, j, none⟩ = some (.bool false) := by
              rw [r2.cell j (by rw [boolsT_len]; exact hjn), boolsT_get, HFR.out]
            have hsf : w2.frozen? ⟨sb, j, none⟩ = false := r2.free j (by rw [boolsT_len]; exact hjn)
            have NX := Lib.hid (fun q => hp.out.next hlt HJ.out hjn (l.drewN q) (by omega))
            clear hs2 r2 hsF l
            by_cases hk0 : k = 0
            · subst hk0
              clear hbel
              go_wp2_with fail
              go_quiet (fail)
              go_wp2_with fail
              go_roundw
              case rel => exact ⟨0 + 1, j, v', by omega, rfl, rfl, Lib.hid (NX.out nq)⟩
              case measure => simp [intOf]; omega
            · obtain ⟨hl0, hln⟩ := hp.out.lst0 hk0
              have hlt2 := sorted_at (queue_sorted zs n) (p := k - 1) (q := k) (by omega) (by rw [queue_length]; exact hlt)
              rw [hl0, HJ.out] at hlt2
              unfold ltI itmOf at hlt2
              dsimp only at hlt2
              have hcl : w2.cell? (a.add lst) = some (.int .u64 (zs.getD lst 0)) := by rw [cell_below hbel hal]; exact HAC.out lst hln
              obtain ⟨zl, hzl⟩ : ∃ zl, zl = zs.getD lst 0 := ⟨_, rfl⟩
              rw [← hzl] at hcl hlt2
              rw [← HZJ.out] at hlt2
              have hk1 : decide ((0 : Int) < (k : Int)) = true := by simp; omega
              have hk2 : decide (0 < k) = true := by simp; omega
              have hk3 : 0 < k := by omega
              have hg1 : decide (zj < zl) = false := by simp; omega
              have hl1 : (0 : Int) ≤ (lst : Int) := by omega
              have hl2 : (lst : Int) < (n : Int) := by omega
              clear hl0 hzl hbel
              by_cases he : zl = zj
              · have hbe : (zl == zj) = true := by simpa using he
                have hll : decide ((j : Int) < (lst : Int)) = false := by simp; omega
                have hll2 : decide (j < lst) = false := by simp; omega
                clear he hlt2
                go_wp2_with fail
                go_quiet (fail)
                go_wp2_with fail
                go_roundw
                case rel => exact ⟨k + 1, j, v', by omega, by go_num, rfl, Lib.hid (NX.out nq)⟩
                case measure => simp [intOf]; omega
              · have hbe : (zl == zj) = false := by simpa using he
                clear he hlt2
                go_wp2_with fail
                go_quiet (fail)
                go_wp2_with fail
                go_roundw
                case rel => exact ⟨k + 1, j, v', by omega, by go_num, rfl, Lib.hid (NX.out nq)⟩
                case measure => simp [intOf]; omega
          · obtain rfl : n = k := by omega
            have hat := hp.out.at1
            have hdr : (queue zs n).drop n = [] := by rw [List.drop_eq_nil_iff, queue_length]; exact Nat.le_refl _
            rw [hdr] at hat
            have PP := Lib.hid (popS_no hat.at1 18446744073709551615 (by intro y T e; cases e) (by simp))
            have HT := Lib.hid hat
            clear hat hdr
            go_wp2_with fail
            go_at_call 14
            refine PP.out.mono ?_
            rintro e w3 ⟨rfl, hb3⟩
            have h3 := HT.out.below hb3
            have LN := Lib.hid (lenS h3.at1 (by simp))
            have H3 := Lib.hid h3
            clear hb3 h3
            go_wp2_with fail
            go_at_call 18
            refine LN.out.mono ?_
            rintro e w4 ⟨rfl, rfl⟩
            go_wp2_with fail
            go_at_call 21
            refine (AW.out _).mono ?_
            rintro e w5 ⟨rfl, hb5⟩
            go_wp2_with fail
            go_ret
            have hbel := H3.out.bel
            rw [HM.out] at hbel
            exact ⟨rfl, hbel.trans (hb5.mono hbel.size)⟩
end Go.Proofs.Ytgkmihlnmhegfaa
