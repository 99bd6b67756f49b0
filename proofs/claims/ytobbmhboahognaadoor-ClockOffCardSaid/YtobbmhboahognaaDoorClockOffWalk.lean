/- The walk of ClockOff: it returns true; of what was there nothing has turned. The condition: the library's variable errors.errorType holds the type error. -/
import Derived.Test.YtobbmhboahognaaDoorClkDisarm
import Derived.Test.YtobbmhboahognaaDoorClkLaw
import Derived.Test.YtobbmhboahognaaDoorClkWords
import Derived.Test.YtobbmhboahognaaDoorBoolsIn
import Derived.Deep.CutRange
import Derived.Deep.DeepCutAuto
import Derived.Deep.CutBlock
import Derived.Deep.Light
namespace Go.Proofs.YtobbmhboahognaaDoor
open Go.RowKit
set_option linter.unusedVariables false

/-- A Fail of the document's, in blocks of its own. -/
def OFault (k : Int) (W : World) (e : Ending) (w' : World) : Prop := ∃ z, e = .returned (.pointer (some ⟨z + 1 + 1, 0, none⟩)) ∧ W.heap.size ≤ z ∧ FailBlk w' z clockS 0 k ∧ Below W.heap.size W w'
theorem ono_any (k : Int) (w : World) : Calls Tryd.prog 18 #[.string clockS, .int .i64 0, .int .i64 k] w (OFault k w) := by
  refine (no_any clockS 0 k w).mono ?_
  rintro e w' ⟨rfl, rfl⟩
  exact ⟨w.heap.size, rfl, Nat.le_refl _, FailBlk.new w clockS 0 k, ((((Below.refl _ _).alloc (Nat.le_refl _) _).alloc (by simp) _).alloc (by simp; omega) _)⟩
theorem errAt_off {w W : World} {B0 : Nat} (hg : ErrType w) (hB : 0 < B0) (hb : Below B0 w W) : ErrType W := errType_below hb hg hB
def itmO (j : Nat) : Itm := ⟨3, (j : Int) + 1, (j : Int) + 1⟩
/-- Those that are still armed. -/
def offQ (zs : List Bool) (i : Nat) : List Itm := ((List.range i).filter fun j => !zs.getD j false).map itmO
theorem insI_last (A : List Itm) (x : Itm) (hA : ∀ a ∈ A, ¬ ltI x a) : insI A x = A ++ [x] := by
  induction A with
  | nil => rfl
  | cons a A ih => rw [insI, if_neg (hA a (by simp)), ih (fun a h => hA a (List.mem_cons_of_mem _ h))]; rfl
theorem offQ_mem {zs : List Bool} {i : Nat} {x : Itm} (h : x ∈ offQ zs i) : ∃ j, j < i ∧ x = itmO j := by
  obtain ⟨j, hj, rfl⟩ := List.mem_map.1 h
  exact ⟨j, List.mem_range.1 (List.mem_filter.1 hj).1, rfl⟩
theorem offQ_ins (zs : List Bool) (i : Nat) : insI (offQ zs i) ⟨3, (i : Int) + 1, (i : Int) + 1⟩ = offQ zs i ++ [itmO i] :=
  insI_last _ _ fun a ha => by
    obtain ⟨j, hj, rfl⟩ := offQ_mem ha
    unfold ltI itmO
    simp only; omega
theorem offQ_yes (zs : List Bool) (i : Nat) (h : zs.getD i false = true) : offQ zs (i + 1) = offQ zs i := by
  unfold offQ
  rw [List.range_succ, List.filter_append, List.map_append]
  rw [List.getD_eq_getElem?_getD] at h
  simp [h]
theorem offQ_no (zs : List Bool) (i : Nat) (h : zs.getD i false = false) : offQ zs (i + 1) = offQ zs i ++ [itmO i] := by
  unfold offQ
  rw [List.range_succ, List.filter_append, List.map_append]
  rw [List.getD_eq_getElem?_getD] at h
  simp [h]
theorem offQ_d (zs : List Bool) (n j : Nat) (h : j < (offQ zs n).length) : (at_ (offQ zs n) j).d = 3 := by
  obtain ⟨q, _, e⟩ := offQ_mem (zs := zs) (i := n) (x := at_ (offQ zs n) j) (by rw [at_get _ _ h]; exact List.getElem_mem _)
  rw [e]; rfl
/-- Who is told by how many ticks. -/
def offS (S : List Itm) (i : Nat) : List Itm := if i < 3 then S else []
def offG (S : List Itm) (i : Nat) : Nat := if i < 3 then 0 else S.length
theorem off_tick {zs : List Bool} {n i q : Nat} (hq : q ≤ (offS (offQ zs n) i).length) (hd : ∀ j, j < q → (at_ (offS (offQ zs n) i) j).d ≤ (i : Int) + 1) (hn : ∀ y T, (offS (offQ zs n) i).drop q = y :: T → (i : Int) + 1 < y.d) :
    (offS (offQ zs n) i).drop q = offS (offQ zs n) (i + 1) ∧ offG (offQ zs n) i + q = offG (offQ zs n) (i + 1) := by
  unfold offS offG at *
  by_cases h1 : i + 1 < 3
  · rw [if_pos (show i < 3 by omega)] at *
    rw [if_pos (show i + 1 < 3 by omega), if_pos (show i + 1 < 3 by omega)]
    obtain rfl : q = 0 := by
      rcases Nat.eq_zero_or_pos q with h | h
      · exact h
      · have := hd 0 h
        rw [offQ_d zs n 0 (by omega)] at this; omega
    rw [if_pos (show i < 3 by omega)]
    simp
  · rw [if_neg h1, if_neg h1]
    by_cases h2 : i < 3
    · rw [if_pos h2] at *
      rw [if_pos h2]
      obtain rfl : q = (offQ zs n).length := by
        rcases Nat.lt_or_ge q (offQ zs n).length with h | h
        · have := hn _ _ (dropAt _ _ h)
          rw [offQ_d zs n q h] at this; omega
        · omega
      simp
    · rw [if_neg h2] at *
      rw [if_neg h2]
      simp at hq
      subst hq
      simp
set_option maxHeartbeats 8000000 in
set_option maxRecDepth 100000 in
theorem clockOff_walk (d0 : Int) (_w0 : (Lit.int .i64 d0).wf = true) (w : World) (A : Option Addr) (cap : Nat) (zs : List Bool) (hl : zs.length ≤ maxLen) (hs : BoolsIn w A zs) (hg : ErrType w) :
    Calls Tryd.prog 6 #[.slice A zs.length cap, .int .i64 d0] w fun e w' => e = .returned (.bool true) ∧ Below w.heap.size w w' := by
  have b1 := Int.emod_nonneg d0 (show (8 : Int) ≠ 0 by omega)
  have b2 := Int.emod_lt_of_pos d0 (show (0 : Int) < 8 by omega)
  have WI := Lib.hid (fun W => within_any d0 8 (by omega) (by omega) W)
  obtain ⟨k, hk⟩ : ∃ k : Nat, d0 % 8 = k := ⟨(d0 % 8).toNat, by omega⟩
  rw [hk] at WI b1 b2
  have hk8 : k < 8 := by omega
  have NW := Lib.hid (clkNew w w.heap.size w (Below.refl _ _) (Nat.le_refl _))
  have AW := Lib.hid awake_any
  have HG := Lib.hid hg
  have GB := Lib.hid (show 0 < w.heap.size from cell_lt hg)
  have FA := Lib.hid (ono_any 8)
  have S := Lib.hid hs
  obtain ⟨L, hL⟩ : ∃ L, L = zs.length := ⟨_, rfl⟩
  have HL := Lib.hid hL
  obtain ⟨n, hn⟩ : ∃ n, n = min L 30 := ⟨_, rfl⟩
  have hnL : n ≤ L := by omega
  have hn30 : n ≤ 30 := by omega
  unfold maxLen at hl
  rw [← hL] at hl ⊢
  clear hs hL hk b1 b2 _w0 hg
  go_enter Tryd.func6, Tryd.ntmps6
  go_wp2_with fail
  go_at_call 21
  refine NW.out.mono ?_
  rintro e w1 ⟨b, F1, rfl, h1⟩
  have H1 := Lib.hid h1
  clear h1
  go_upto_region 4 with fail
  go_cut [0, 1, 5, 6] from 6 to 102 (fun s0 s1 s5 s6 w' => s0 = .slice A L cap ∧ s1 = .int .i64 d0 ∧ s5 = .pointer (some ⟨b, 0, none⟩) ∧ s6 = .int .i64 n ∧ w1 = w')
  case first =>
    by_cases h30 : L ≤ 30
    · have e : (n : Int) = (L : Int) := by omega
      have h30' : ¬ (30 < (L : Int)) := by omega
      go_wp2_with fail
      go_meet
      exact ⟨rfl, rfl, rfl, by rw [e], rfl⟩
    · have e : (n : Int) = 30 := by omega
      have h30' : (30 : Int) < (L : Int) := by omega
      go_wp2_with fail
      go_meet
      exact ⟨rfl, rfl, rfl, by rw [e], rfl⟩
  case rest =>
  obtain ⟨rfl, rfl, rfl, rfl, rfl⟩ := hcut
  clear hn
  go_wp2_with fail
  go_loopw [7, 8] (fun v7 v8 wr => ∃ (i q : Nat) (F : List Nat), i ≤ n ∧ v8 = .int .i64 i ∧ v7 = .int .i64 q ∧ Hid (q = (offQ zs i).length) ∧ q ≤ i ∧ Hid (ClkSince w w.heap.size wr F b 0 (offQ zs i) i (2 * i))) (fun _ v8 _ => n - (intOf v8).toNat)
  case atStart => exact ⟨0, 0, _, Nat.zero_le _, rfl, rfl, Lib.hid rfl, Nat.le_refl _, H1⟩
  case round =>
    obtain ⟨i, q, F, hi, rfl, rfl, hqc, hqi, hq⟩ := hrel
    by_cases hlt : i < n
    · obtain ⟨a, rfl, hal, hac⟩ := S.out i (by rw [← HL.out]; omega)
      have hbl := hq.out.bel
      have AB := Lib.hid (show a.block < w.heap.size from hal)
      have CZ := Lib.hid hac
      have wid := WalkArith.wf_u64 (n := (i : Int) + 1) (by omega)
      have A1 := Lib.hid (clkArm_yes hq.out.at1 ((i : Int) + 1) 3 wid (by omega) (fun x hx => by obtain ⟨j, hj, rfl⟩ := offQ_mem hx; show (j : Int) + 1 ≠ (i : Int) + 1; omega) (by omega) (by omega))
      have hcv : IntKind.u64.wrap ((i : Int) + 1) = (i : Int) + 1 := by rw [IntKind.wrap_u64]; omega
      have hcv2 : IntKind.u64.wrap ((i : Int) + 1 + 100) = (i : Int) + 101 := by rw [IntKind.wrap_u64]; omega
      have hiL : (i : Int) < (L : Int) := by omega
      clear hac hbl
      go_wp2_with fail
      go_at_call 29
      refine A1.out.mono ?_
      rintro e w2 hp
      obtain ⟨rfl, F2, h2⟩ := hq.out.arm hp
      rw [offQ_ins] at h2
      have A2 := Lib.hid (clkArm_state h2.at1 ((i : Int) + 1) 9 wid (by omega) (x := itmO i) (by simp) rfl)
      have H2 := Lib.hid h2
      clear hq hp h2 A1
      go_wp2_with fail
      go_at_call 29
      refine A2.out.mono ?_
      rintro e w3 ⟨x, rfl, hx1, hx2, hx3⟩
      have h3 := H2.out.below hx3
      have H3 := Lib.hid h3
      have E3 := Lib.hid hx2
      clear hx1 hx2 hx3 h3 H2 A2
      go_wp2_with fail
      go_at_call 18
      refine (FA.out _).mono ?_
      rintro e w4 ⟨z, rfl, hz1, hz2, hz3⟩
      have h4 := H3.out.below hz3
      have SM := Lib.hid (same_blk (E3.out.only (F := []) (Only.of_below hz3) (by simp)) hz2 (by omega) (by omega) (errAt_off HG.out GB.out h4.bel))
      have H4 := Lib.hid h4
      clear hz1 hz2 hz3 h4 H3 E3
      go_wp2_with fail
      go_at_call 14
      refine SM.out.mono ?_
      rintro e w5 ⟨rfl, hb5⟩
      have h5 := H4.out.below hb5
      have wid2 := WalkArith.wf_u64 (n := (i : Int) + 101) (by omega)
      have hno : ∀ x ∈ offQ zs i ++ [itmO i], x.w ≠ (i : Int) + 101 := fun x hx => by
        rcases List.mem_append.1 hx with hx | hx
        · obtain ⟨j, hj, rfl⟩ := offQ_mem hx; show (j : Int) + 1 ≠ (i : Int) + 101; omega
        · obtain rfl := List.mem_singleton.1 hx; show (i : Int) + 1 ≠ (i : Int) + 101; omega
      have A5 := Lib.hid (clkArm_forever h5.at1 ((i : Int) + 101) wid2 (by omega) hno)
      have H5 := Lib.hid h5
      have HNO := Lib.hid hno
      clear hb5 h5 hno H4 SM
      go_wp2_with fail
      go_at_call 29
      refine A5.out.mono ?_
      rintro e w6 ⟨rfl, hb6⟩
      have h6 := H5.out.below hb6
      have D6 := Lib.hid (clkDisarm_no h6.at1 ((i : Int) + 101) wid2 HNO.out)
      have H6 := Lib.hid h6
      clear hb6 h6 H5 A5
      go_wp2_with fail
      go_at_call 22
      refine D6.out.mono ?_
      rintro e w7 ⟨rfl, hb7⟩
      have h7 := H6.out.below hb7
      have hz : w7.cell? (a.add i) = some (.bool (zs.getD i false)) := by rw [cell_belowC h7.bel AB.out]; exact CZ.out
      have H7 := Lib.hid h7
      clear hb7 h7 H6 D6
      cases hzi : zs.getD i false
      · have HQ := Lib.hid (offQ_no zs i hzi)
        rw [hzi] at hz
        clear hzi
        go_wp2_with fail
        go_roundw
        case rel =>
          have h8 := H7.out
          rw [← HQ.out] at h8
          rw [show 2 * i + 2 = 2 * (i + 1) by omega] at h8
          exact ⟨i + 1, q + 1, F2, by omega, by go_num, by go_num, Lib.hid (by rw [HQ.out, List.length_append, ← hqc.out]; rfl), by omega, Lib.hid h8⟩
        case measure => simp [intOf]; omega
      · have HQ := Lib.hid (offQ_yes zs i hzi)
        rw [hzi] at hz
        clear hzi
        have D7 := Lib.hid (clkDisarm_yes (A := offQ zs i) (y := itmO i) (B := []) H7.out.at1 (by omega))
        go_wp2_with fail
        go_at_call 22
        refine D7.out.mono ?_
        rintro e w8 ⟨rfl, F8, l8⟩
        have h8 := H7.out.led l8
        rw [List.append_nil] at h8
        have D8 := Lib.hid (clkDisarm_no h8.at1 ((i : Int) + 1) wid (fun x hx => by obtain ⟨j, hj, rfl⟩ := offQ_mem hx; show (j : Int) + 1 ≠ (i : Int) + 1; omega))
        have H8 := Lib.hid h8
        clear l8 h8 H7 D7
        go_wp2_with fail
        go_at_call 22
        refine D8.out.mono ?_
        rintro e w9 ⟨rfl, hb9⟩
        have h9 := H8.out.below hb9
        rw [← HQ.out] at h9
        have H9 := Lib.hid h9
        clear h9 hb9 H8 D8
        go_wp2_with fail
        go_roundw
        case rel =>
          have h9 := H9.out
          rw [show 2 * i + 2 = 2 * (i + 1) by omega] at h9
          exact ⟨i + 1, q, F8, by omega, by go_num, rfl, Lib.hid (by rw [HQ.out]; exact hqc.out), by omega, Lib.hid h9⟩
        case measure => simp [intOf]; omega
    · obtain rfl : n = i := by omega
      have H2 := Lib.hid (show ClkSince w w.heap.size wr F b ((0 : Nat) : Int) (offS (offQ zs n) 0) n (2 * n) from hq.out)
      clear hq hlt H1
      go_wp2_with (go_at_call 11; refine (WI.out _).mono ?_; rintro e w' ⟨rfl, rfl⟩)
      go_loopw [11, 12] (fun v11 v12 wr => ∃ (i g : Nat) (F : List Nat), i ≤ k ∧ v12 = .int .i64 i ∧ v11 = .int .i64 g ∧ Hid (g = offG (offQ zs n) i) ∧ g ≤ 30 ∧ Hid (ClkSince w w.heap.size wr F b (i : Int) (offS (offQ zs n) i) n (2 * n))) (fun _ v12 _ => k - (intOf v12).toNat)
      case atStart => exact ⟨0, 0, F, Nat.zero_le _, rfl, rfl, Lib.hid rfl, by omega, H2⟩
      case round =>
        obtain ⟨i, g, F, hi, rfl, rfl, hgc, hg30, hq⟩ := hrel
        have hq30 : q ≤ 30 := by
          rw [hqc.out]
          unfold offQ
          rw [List.length_map]
          exact Nat.le_trans (List.length_filter_le _ _) (by simp; omega)
        by_cases hlt : i < k
        · have TK := Lib.hid (clkTick hq.out.at1 (by omega) (by omega) (by omega))
          go_wp2_with fail
          go_at_call 27
          refine TK.out.mono ?_
          rintro e w2 ⟨t, vc, F2, ht, rfl, o2, l2, _, p2, q2⟩
          obtain ⟨x1, x2⟩ := off_tick ht p2 q2
          have h2 := hq.out.led l2
          rw [x1] at h2
          rw [List.length_take, Nat.min_eq_left ht] at o2
          obtain ⟨ad, c2, rfl⟩ := owns_sliceW o2
          have H2 := Lib.hid h2
          have X2 := Lib.hid x2
          have hle : offG (offQ zs n) (i + 1) ≤ 30 := by
            unfold offG
            split
            · omega
            · rw [← hqc.out]; exact hq30
          have hgt : g + t ≤ 30 := by rw [hgc.out, x2]; exact hle
          clear hq TK o2 l2 p2 q2 ht h2 x1 x2 hle
          go_wp2_with fail
          go_roundw
          case rel => exact ⟨i + 1, g + t, F2, by omega, by go_num, by go_num, Lib.hid (by rw [← X2.out, ← hgc.out]), hgt, H2⟩
          case measure => simp [intOf]; omega
        · obtain rfl : k = i := by omega
          have CA := Lib.hid (clkArmed hq.out.at1)
          have HB := Lib.hid hq.out.bel
          by_cases hk3 : k < 3
          · have e1 : g = 0 := by rw [hgc.out]; unfold offG; rw [if_pos hk3]
            have e2 : offS (offQ zs n) k = offQ zs n := by unfold offS; rw [if_pos hk3]
            rw [e2, ← hqc.out] at CA
            subst e1
            have hk3' : (k : Int) < 3 := by omega
            have hqq : ((q : Int) == (q : Int)) = true := by simp
            clear hq hgc e2
            go_wp2_with (first
              | (go_at_call 32; refine CA.out.mono ?_; rintro e w' ⟨rfl, rfl⟩)
              | (go_at_call 33; refine (AW.out _).mono ?_; rintro e w' ⟨rfl, hb⟩))
            go_ret
            exact ⟨rfl, HB.out.trans (hb.mono HB.out.size)⟩
          · have e1 : g = q := by rw [hgc.out, hqc.out]; unfold offG; rw [if_neg hk3]
            have e2 : offS (offQ zs n) k = [] := by unfold offS; rw [if_neg hk3]
            rw [e2] at CA
            subst e1
            have hk3' : ¬ (k : Int) < 3 := by omega
            have hqq : ((g : Int) == (g : Int)) = true := by simp
            clear hq hgc e2
            go_wp2_with (first
              | (go_at_call 32; refine CA.out.mono ?_; rintro e w' ⟨rfl, rfl⟩)
              | (go_at_call 33; refine (AW.out _).mono ?_; rintro e w' ⟨rfl, hb⟩))
            go_ret
            exact ⟨rfl, HB.out.trans (hb.mono HB.out.size)⟩
end Go.Proofs.YtobbmhboahognaaDoor
