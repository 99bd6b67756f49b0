/- The walk of ClockOnce: it returns true; of what was there nothing has turned. -/
import Derived.Test.YtobbmhboahognaaClkLaw
import Derived.Deep.CutRange
import Derived.Deep.DeepCutAuto
import Derived.Deep.CutBlock
import Derived.Deep.Light
namespace Go.Proofs.Ytobbmhboahognaa
open Go.RowKit
set_option linter.unusedVariables false

def itmC (zs : List Int) (j : Nat) : Itm := ⟨zs.getD j 0 % 50, (j : Int) + 1, (j : Int) + 1⟩

theorem below_drewN (B : Nat) (w : World) (n : Nat) : Below B w (w.drewN n) := ⟨rfl, rfl, rfl, Nat.le_refl _, fun _ _ => rfl⟩
theorem owns_slice {W : World} {B : Nat} {t : TypeId} {s : Nat} {v : Value} {n : Nat} {xs : List Value} (h : W.ownsRow B t s v n xs) : ∃ ad c, v = .slice ad n c := by
  rcases h.2 with ⟨rfl, e⟩ | ⟨g, cap, cur, rfl, _⟩
  · exact ⟨none, 0, by rw [e]⟩
  · exact ⟨_, _, rfl⟩
/-- Which are left when the next time is t: all whose time has not come. -/
def OnceR (zs : List Int) (n t p : Nat) : Prop := (t = 1 ∧ p = 0) ∨ ∀ q, p ≤ q → q < n → (t : Int) - 1 < (at_ (queueG (itmC zs) n) q).d
theorem onceR_next {zs : List Int} {n t p k : Nat} (hk : k ≤ n - p) (h : ∀ y T, ((queueG (itmC zs) n).drop p).drop k = y :: T → (t : Int) < y.d) : OnceR zs n (t + 1) (p + k) := by
  refine .inr fun q hq hqn => ?_
  have hl : (queueG (itmC zs) n).length = n := queueG_length _ _
  have h1 : (queueG (itmC zs) n).drop (p + k) = at_ (queueG (itmC zs) n) (p + k) :: (queueG (itmC zs) n).drop (p + k + 1) := dropAt _ _ (by rw [hl]; omega)
  rw [List.drop_drop] at h
  have h2 := h _ _ h1
  have h3 := sortedD (queueG_sorted (itmC zs) (fun _ => rfl) n) hq (by rw [hl]; exact hqn)
  omega
theorem once_d (zs : List Int) (hz : ∀ i, i < zs.length → 0 ≤ zs.getD i 0 ∧ zs.getD i 0 ≤ 18446744073709551615) (n : Nat) (hn : n ≤ zs.length) (q : Nat) (hq : q < n) : ∃ j, j < n ∧ (at_ (queueG (itmC zs) n) q).w = (j : Int) + 1 ∧ (at_ (queueG (itmC zs) n) q).d = zs.getD j 0 % 50 ∧ 0 ≤ zs.getD j 0 % 50 ∧ zs.getD j 0 % 50 < 50 := by
  obtain ⟨j, hj, e⟩ := queueG_at (itmC zs) n q hq
  have := hz j (by omega)
  exact ⟨j, hj, by rw [e]; rfl, by rw [e]; rfl, by omega, by omega⟩
set_option maxHeartbeats 4000000 in
set_option maxRecDepth 100000 in
theorem clockOnce_walk (w : World) (A : Option Addr) (cap : Nat) (zs : List Int) (hl : zs.length ≤ maxLen) (hs : IntsIn w .u64 A zs) (hw : ∀ z ∈ zs, (Lit.int .u64 z).wf = true) :
    Calls Try.prog 4 #[.slice A zs.length cap] w fun e w' => e = .returned (.bool true) ∧ Below w.heap.size w w' := by
  have NW := Lib.hid (clkNew w w.heap.size w (Below.refl _ _) (Nat.le_refl _))
  have AW := Lib.hid awake_any
  have S := Lib.hid hs
  have U := Lib.hid (fun i h => u64_mem hw i h)
  obtain ⟨L, hL⟩ : ∃ L, L = zs.length := ⟨_, rfl⟩
  have HL := Lib.hid hL
  obtain ⟨n, hn⟩ : ∃ n, n = min L 40 := ⟨_, rfl⟩
  have hmin : min (L : Int) 40 = (n : Int) := by omega
  have hnL : n ≤ L := by omega
  have hn40 : n ≤ 40 := by omega
  unfold maxLen at hl
  rw [← hL] at hl ⊢
  clear hs hw hL hn
  go_enter Try.func4, Try.ntmps4
  go_wp2_with fail
  go_at_call 9
  refine NW.out.mono ?_
  rintro e w1 ⟨b, F1, rfl, h1⟩
  have H1 := Lib.hid h1
  clear h1
  go_upto_region 4 with fail
  go_cut [0, 3, 4] from 4 to 117 (fun s0 s3 s4 w' => s0 = .slice A L cap ∧ s3 = .pointer (some ⟨b, 0, none⟩) ∧ s4 = .int .i64 n ∧ w1 = w')
  case first =>
    by_cases h40 : L ≤ 40
    · have e : (n : Int) = (L : Int) := by omega
      have h40' : ¬ (40 < (L : Int)) := by omega
      go_wp2_with fail
      go_meet
      exact ⟨rfl, rfl, by rw [e], rfl⟩
    · have e : (n : Int) = 40 := by omega
      have h40' : (40 : Int) < (L : Int) := by omega
      go_wp2_with fail
      go_meet
      exact ⟨rfl, rfl, by rw [e], rfl⟩
  case rest =>
  obtain ⟨rfl, rfl, rfl, rfl⟩ := hcut
  go_wp2_with fail
  go_loopw [5] (fun vi wr => ∃ (i : Nat) (F : List Nat), i ≤ n ∧ vi = .int .i64 i ∧ Hid (ClkSince w w.heap.size wr F b 0 (queueG (itmC zs) i) i (2 * i))) (fun vi _ => n - (intOf vi).toNat)
  case atStart => exact ⟨0, _, Nat.zero_le _, rfl, H1⟩
  case round =>
    obtain ⟨i, F, hi, rfl, hq⟩ := hrel
    by_cases hlt : i < n
    · obtain ⟨a, rfl, hal, hac⟩ := ints_atC S.out (by rw [← HL.out]; omega)
      have hci := hac i (by rw [← HL.out]; omega)
      have hz0 := U.out i (by rw [← HL.out]; omega)
      have hcr : wr.cell? (a.add i) = some (.int .u64 (zs.getD i 0)) := by rw [cell_belowC hq.out.bel hal]; exact hci
      obtain ⟨z, hz⟩ : ∃ z, z = zs.getD i 0 := ⟨_, rfl⟩
      rw [← hz] at hcr hz0
      have AP := Lib.hid (clkArm_yes hq.out.at1 ((i : Int) + 1) (z % 50) (WalkArith.wf_u64 (by omega)) (by omega) (fun x hx => by obtain ⟨j, hj, rfl⟩ := queueG_mem _ _ _ hx; show (j : Int) + 1 ≠ (i : Int) + 1; omega) (by omega) (by omega))
      have hcv : IntKind.u64.wrap ((i : Int) + 1) = (i : Int) + 1 := by rw [IntKind.wrap_u64]; omega
      have HA := Lib.hid hac
      have QS' := Lib.hid (show queueG (itmC zs) (i + 1) = insI (queueG (itmC zs) i) ⟨z % 50, (i : Int) + 1, (i : Int) + 1⟩ by rw [queueG_succ, hz]; rfl)
      clear hac hci hz hmin
      go_wp2_with fail
      go_at_call 10
      refine AP.out.mono ?_
      rintro e w2 hp
      obtain ⟨rfl, F2, h2⟩ := hq.out.arm hp
      rw [← QS'.out] at h2
      have H2 := Lib.hid h2
      clear hq h2 hp hcr
      go_wp2_with fail
      go_roundw
      case rel => exact ⟨i + 1, F2, by omega, by go_num, H2⟩
      case measure => simp [intOf]; omega
    · obtain rfl : n = i := by omega
      have H2 := Lib.hid hq.out
      have QL := queueG_length (itmC zs) n
      have OD := Lib.hid (once_d zs U.out n (by rw [← HL.out]; exact hnL))
      have SO := Lib.hid (fun p q => sortedD (p := p) (q := q) (queueG_sorted (itmC zs) (fun _ => rfl) n))
      clear hq hlt hmin H1
      go_wp2_with fail
      go_loopw [6, 7] (fun v6 v7 wr => ∃ (t p : Nat) (F : List Nat), 1 ≤ t ∧ t ≤ 52 ∧ p ≤ n ∧ v6 = .int .i64 p ∧ v7 = .int .u64 t ∧ Hid (ClkSince w w.heap.size wr F b ((t : Int) - 1) ((queueG (itmC zs) n).drop p) n (2 * n)) ∧ Hid (OnceR zs n t p)) (fun _ v7 _ => 52 - (intOf v7).toNat)
      case atStart => exact ⟨1, 0, F, by omega, by omega, by omega, rfl, rfl, by simpa using H2, Lib.hid (.inl ⟨rfl, rfl⟩)⟩
      case round =>
        obtain ⟨t, p, F, ht1, ht52, hp, rfl, rfl, hq, hr⟩ := hrel
        by_cases htl : t < 52
        · have TK := Lib.hid (clkTick hq.out.at1 (by omega) (by omega) (by omega))
          have hti : (t : Int) < 52 := by omega
          go_wp2_with fail
          go_at_call 11
          refine TK.out.mono ?_
          rintro e w3 ⟨k, vc, F3, hk, rfl, o3, l3, d3, p3, q3⟩
          rw [List.length_drop, QL] at hk
          have hkl : (((queueG (itmC zs) n).drop p).take k).length = k := by rw [List.length_take, List.length_drop, QL]; omega
          obtain ⟨ad, c3, rfl⟩ := owns_slice o3
          have h3 := hq.out.led l3
          rw [show (t : Int) - 1 + 1 = (((t + 1 : Nat) : Int)) - 1 by omega, List.drop_drop] at h3
          have HR := Lib.hid (onceR_next (zs := zs) (n := n) (t := t) (p := p) (k := k) hk (fun y T e => by have := q3 y T e; omega))
          have HC := Lib.hid (fun i (hi : i < k) => (show ∃ g, ad = some ⟨g, 0, none⟩ ∧ w3.cell? ⟨g, i, none⟩ = some (.int .u64 (at_ (queueG (itmC zs) n) (p + i)).w) ∧ (0 < i → w3.cell? ⟨g, i - 1, none⟩ = some (.int .u64 (at_ (queueG (itmC zs) n) (p + i - 1)).w)) by
            obtain ⟨g, cap, e, hc⟩ := ids_at o3 (by omega)
            cases e
            have c1 := hc i (by omega)
            rw [at_takeS _ _ _ hi, at_drop] at c1
            refine ⟨g, rfl, c1, fun h0 => ?_⟩
            have c2 := hc (i - 1) (by omega)
            rw [at_takeS _ _ _ (by omega), at_drop, show p + (i - 1) = p + i - 1 by omega] at c2
            exact c2))
          have HT := Lib.hid (fun i (hi : i < k) => (show max (at_ (queueG (itmC zs) n) (p + i)).d 1 = (t : Int) by
            have e1 := p3 i hi
            rw [at_drop] at e1
            obtain ⟨j, hj, _, e2, e3, _⟩ := OD.out (p + i) (by omega)
            rcases hr.out with ⟨r1, r2⟩ | r
            · omega
            · have := r (p + i) (by omega) (by omega)
              omega))
          rw [hkl]
          have H3 := Lib.hid h3
          clear hq hr TK o3 l3 d3 p3 q3 h3 hkl
          go_wp2_with fail
          go_loopw [9] (fun vi wr => ∃ (i : Nat), i ≤ k ∧ vi = .int .i64 i ∧ Hid (∃ m, wr = w3.drewN m)) (fun vi _ => k - (intOf vi).toNat)
          case atStart => exact ⟨0, Nat.zero_le _, rfl, Lib.hid ⟨0, rfl⟩⟩
          case round =>
            obtain ⟨i, hi, rfl, hwr⟩ := hrel
            have hcw : ∀ a, wr.cell? a = w3.cell? a := fun a => by obtain ⟨m, rfl⟩ := hwr.out; rfl
            by_cases hik : i < k
            · obtain ⟨g, rfl, c1, c2⟩ := HC.out i hik
              obtain ⟨a, rfl, hal, hac⟩ := ints_atC S.out (by rw [← HL.out]; omega)
              rw [← HL.out] at hac
              have hbel := H3.out.bel
              obtain ⟨j, hj, ew, ed, d0, d50⟩ := OD.out (p + i) (by omega)
              have hmx := HT.out i hik
              have hz : wr.cell? (a.add j) = some (.int .u64 (zs.getD j 0)) := by
                rw [hcw, cell_belowC hbel hal]; exact hac j (by omega)
              have q1 : wr.cell? ⟨g, i, none⟩ = some (.int .u64 (at_ (queueG (itmC zs) n) (p + i)).w) := (hcw _).trans c1
              rw [ew] at q1
              rw [ed] at hmx
              have HJ := Lib.hid (fun (h0 : 0 < i) => (show ∃ (j' : Nat) (x' z' : Int), j' < n ∧ x' = (j' : Int) + 1 ∧ wr.cell? ⟨g, i - 1, none⟩ = some (.int .u64 x') ∧ wr.cell? (a.add j') = some (.int .u64 z') ∧ z'.tmod 50 ≤ zs.getD j 0 % 50 ∧ 0 ≤ z' by
                obtain ⟨j', hj', ew', ed', _, _⟩ := OD.out (p + i - 1) (by omega)
                have hs := SO.out (p + i - 1) (p + i) (by omega) (by rw [QL]; omega)
                rw [ed, ed'] at hs
                refine ⟨j', _, zs.getD j' 0, hj', rfl, ?_, ?_, by rw [Int.tmod_eq_emod_of_nonneg (U.out j' (by rw [← HL.out]; omega)).1]; exact hs, (U.out j' (by rw [← HL.out]; omega)).1⟩
                · rw [← ew', hcw]; exact c2 h0
                · rw [hcw, cell_belowC hbel hal]; exact hac j' (by omega)))
              obtain ⟨x, hx⟩ : ∃ x : Int, x = (j : Int) + 1 := ⟨_, rfl⟩
              rw [← hx] at q1
              obtain ⟨z, hzz⟩ : ∃ z, z = zs.getD j 0 := ⟨_, rfl⟩
              have hz0 : 0 ≤ z := by rw [hzz]; exact (U.out j (by rw [← HL.out]; omega)).1
              rw [← hzz] at hz hmx HJ d0 d50
              have hx1 : ¬ x < 1 := by omega
              have hx2 : ¬ ((n : Int) < x) := by omega
              have hx3 : IntKind.u64.wrap (x - 1) = (j : Int) := by rw [IntKind.wrap_u64]; omega
              have hnv : IntKind.u64.wrap (n : Int) = (n : Int) := by rw [IntKind.wrap_u64]; omega
              have hjL : (j : Int) < (L : Int) := by omega
              have hik2 : (i : Int) < (k : Int) := by omega
              clear hac hbel c1 c2 ew ed hx hzz hcw
              rw [← Int.tmod_eq_emod_of_nonneg hz0] at hmx d0 d50 HJ
              have hM : (z.tmod 50 = 0 ∧ t = 1) ∨ (z.tmod 50 = (t : Int) ∧ ¬ (t : Int) < 1) := by omega
              rcases hM with ⟨m1, m2⟩ | ⟨m1, m2⟩
              · subst m2
                rw [m1] at HJ
                clear d0 d50 hmx
                rcases Nat.eq_zero_or_pos i with h0 | h0
                · subst h0
                  clear HJ
                  go_upto_region 18 with fail
                  go_quiet (fail)
                  go_wp2_with fail
                  go_roundw
                  case rel => exact ⟨1, by omega, by go_num, Lib.hid (by obtain ⟨m, e⟩ := hwr.out; exact ⟨_, by rw [e, World.drewN_drewN]⟩)⟩
                  case measure => simp [intOf]; omega
                · obtain ⟨j', x', z', hj', hx', c1, c2, hle, hz0'⟩ := HJ.out h0
                  have n1 : z'.tmod 50 = 0 := by have := Int.tmod_nonneg (a := z') 50 hz0'; omega
                  have y1 : IntKind.u64.wrap (x' - 1) = (j' : Int) := by rw [IntKind.wrap_u64]; omega
                  have y2 : (i : Int) - 1 = ((i - 1 : Nat) : Int) := by omega
                  have y3 : (j' : Int) < (L : Int) := by omega
                  have y4 : ((i - 1 : Nat) : Int) < (k : Int) := by omega
                  have y5 : (0 : Int) < (i : Int) := by omega
                  generalize i - 1 = i1 at c1 y2 y4
                  clear hx' hle hz0' HJ
                  go_upto_region 18 with fail
                  go_quiet (fail)
                  go_wp2_with fail
                  go_roundw
                  case rel => exact ⟨i + 1, by omega, by go_num, Lib.hid (by obtain ⟨m, e⟩ := hwr.out; exact ⟨_, by rw [e, World.drewN_drewN]⟩)⟩
                  case measure => simp [intOf]; omega
              · rw [m1] at HJ
                clear d0 d50 hmx
                rcases Nat.eq_zero_or_pos i with h0 | h0
                · subst h0
                  clear HJ
                  go_upto_region 18 with fail
                  go_quiet (fail)
                  go_wp2_with fail
                  go_roundw
                  case rel => exact ⟨1, by omega, by go_num, Lib.hid (by obtain ⟨m, e⟩ := hwr.out; exact ⟨_, by rw [e, World.drewN_drewN]⟩)⟩
                  case measure => simp [intOf]; omega
                · obtain ⟨j', x', z', hj', hx', c1, c2, hle, hz0'⟩ := HJ.out h0
                  obtain ⟨y', n1⟩ : ∃ y', z'.tmod 50 = y' := ⟨_, rfl⟩
                  have n2 : ¬ ((t : Int) < y') := by omega
                  have y1 : IntKind.u64.wrap (x' - 1) = (j' : Int) := by rw [IntKind.wrap_u64]; omega
                  have y2 : (i : Int) - 1 = ((i - 1 : Nat) : Int) := by omega
                  have y3 : (j' : Int) < (L : Int) := by omega
                  have y4 : ((i - 1 : Nat) : Int) < (k : Int) := by omega
                  have y5 : (0 : Int) < (i : Int) := by omega
                  generalize i - 1 = i1 at c1 y2 y4
                  clear hx' hle hz0' HJ
                  go_upto_region 18 with fail
                  go_quiet (fail)
                  go_wp2_with fail
                  go_roundw
                  case rel => exact ⟨i + 1, by omega, by go_num, Lib.hid (by obtain ⟨m, e⟩ := hwr.out; exact ⟨_, by rw [e, World.drewN_drewN]⟩)⟩
                  case measure => simp [intOf]; omega
            · obtain rfl : k = i := by omega
              have H4 := Lib.hid (H3.out.below (W' := wr) (by obtain ⟨m, rfl⟩ := hwr.out; exact below_drewN _ _ m))
              clear HC HT H3
              go_wp2_with fail
              go_roundw
              case rel => exact ⟨t + 1, p + k, F3, by omega, by omega, by omega, by go_num, by go_num, H4, HR⟩
              case measure => simp [intOf]; omega
        · obtain rfl : t = 52 := by omega
          have hpn : p = n := by
            rcases hr.out with ⟨r1, _⟩ | r
            · omega
            · rcases Nat.lt_or_ge p n with h | h
              · have h1 := r p (Nat.le_refl _) h
                obtain ⟨j, _, _, e2, _, e3⟩ := OD.out p h
                omega
              · omega
          subst hpn
          have CA := Lib.hid (clkArmed hq.out.at1)
          have CN := Lib.hid (clkNow hq.out.at1)
          rw [show ((queueG (itmC zs) p).drop p).length = 0 by rw [List.length_drop, QL]; omega] at CA
          rw [show (((52 : Nat) : Int) - 1) = 51 by omega] at CN
          have HB := Lib.hid hq.out.bel
          clear hq hr
          go_wp2_with (first
            | (go_at_call 12; refine CA.out.mono ?_; rintro e w' ⟨rfl, rfl⟩)
            | (go_at_call 13; refine CN.out.mono ?_; rintro e w' ⟨rfl, rfl⟩)
            | (go_at_call 8; refine (AW.out _).mono ?_; rintro e w' ⟨rfl, hb⟩))
          go_ret
          exact ⟨rfl, HB.out.trans (hb.mono HB.out.size)⟩
end Go.Proofs.Ytobbmhboahognaa
