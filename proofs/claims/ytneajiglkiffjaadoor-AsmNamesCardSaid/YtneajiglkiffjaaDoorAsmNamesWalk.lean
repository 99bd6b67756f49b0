/- The walk of the statement on names (layer 5). The conditions: errors.errorType holds the type error; the program's table of names holds the names. -/
import Derived.Test.YtneajiglkiffjaaDoorAsmAwake
import Derived.Test.YtneajiglkiffjaaDoorAsmNamesPlain
import Derived.Test.YtneajiglkiffjaaDoorSameAt
import Derived.Test.YtneajiglkiffjaaDoorErrAs2
import Derived.Deep.CutRange
import Derived.Deep.DeepCutAuto
import Derived.Deep.CutBlock
import Derived.Deep.Light
namespace Go.Proofs.YtneajiglkiffjaaDoor
open Go.RowKit
set_option linter.unusedVariables false

theorem names_lt {w : World} (N : NamesAt w) : 1 < w.heap.size := World.block_lt_of_cell? _ _ (N 0 _ rfl)
theorem errType_keep {w w' : World} (h : ErrType w) (hb : Below w.heap.size w w') : ErrType w' := errType_only (Only.of_below hb) (F := []) (by simp) h
/-- What the law looks for in the loop. -/
structure NmSt (s : ByteArray) (i : Nat) : Prop where
  ok : ∀ t, t < i → (s.data.toList.getD t 0) ≠ 10 ∧ (s.data.toList.getD t 0) ≠ 32 ∧ (s.data.toList.getD t 0) ≠ 59 ∧ (s.data.toList.getD t 0) ≠ 58
theorem NmSt.step {s : ByteArray} {i : Nat} (h : NmSt s i) (hi : i < s.size) (h1 : ((s[i].toNat : Int) == 10) = false) (h2 : ((s[i].toNat : Int) == 32) = false) (h3 : ((s[i].toNat : Int) == 59) = false) (h4 : ((s[i].toNat : Int) == 58) = false) : NmSt s (i + 1) := ⟨fun t ht => by
  by_cases hti : t < i
  · exact h.ok t hti
  · obtain rfl : t = i := by omega
    rw [getD_at s t hi]
    have ne : ∀ c : UInt8, ((s[t].toNat : Int) == (c.toNat : Int)) = false → s[t] ≠ c := fun c hc e => by rw [e] at hc; simp at hc
    exact ⟨ne 10 h1, ne 32 h2, ne 59 h3, ne 58 h4⟩⟩
set_option maxHeartbeats 8000000 in
set_option maxRecDepth 100000 in
theorem asmNames_walk (s : ByteArray) (hs : s.size ≤ maxLen) (w : World) (hE : ErrType w) (N : NamesAt w) : Calls Tryd.prog 4 #[.string s] w fun e w' => e = .returned (.bool true) ∧ Below w.heap.size w w' := by
  unfold maxLen at hs
  have AW := Lib.hid (show ∀ W, Below w.heap.size w W → Calls Tryd.prog 6 #[] W fun e w' => e = .returned (.bool true) ∧ Below w.heap.size w w' from fun W hW =>
    (awake_any W (N.below hW (names_lt N)) (Nat.lt_of_lt_of_le (names_lt N) hW.size)).mono fun e w' ⟨h1, h2⟩ => ⟨h1, hW.trans (h2.mono hW.size)⟩)
  have HE := Lib.hid hE
  have HN := Lib.hid N
  clear hE N
  by_cases h100 : 100 < s.size
  · have i1 : (100 : Int) < (s.size : Int) := by omega
    clear h100
    go_enter Tryd.func4, Tryd.ntmps4
    go_wp2_with fail
    go_at_call 6
    refine (AW.out _ (Below.refl _ _)).mono ?_
    rintro e w' ⟨rfl, hb⟩
    have HB := Lib.hid hb
    clear hb
    go_wp2_with fail
    go_ret
    exact ⟨rfl, HB.out⟩
  have i1 : ¬ (100 : Int) < (s.size : Int) := by omega
  have PR := Lib.hid (show (∀ t, t < s.size → (s.data.toList.getD t 0) ≠ 10 ∧ (s.data.toList.getD t 0) ≠ 32 ∧ (s.data.toList.getD t 0) ≠ 59 ∧ (s.data.toList.getD t 0) ≠ 58) →
      parseP (s.data.toList ++ [58, 10, 106, 109, 112, 32] ++ s.data.toList ++ [10]) = if nameB s.data.toList then .ok [⟨12, 0, 0, 0, 0, 0, 0⟩] [(s.data.toList, 0, 0)] else .text 0 from fun h => names_parse s.data.toList (by simp; omega) (fun c hc => by
    obtain ⟨t, ht, e⟩ := List.mem_iff_getElem.1 hc
    have := h t (by simpa using ht)
    rw [List.getD_eq_getElem?_getD, List.getElem?_eq_getElem ht, Option.getD_some, e] at this
    exact this))
  have PA := Lib.hid (fun W (hW : Below w.heap.size w W) => asmParse_any (s ++ ⟨#[58, 10, 106, 109, 112, 32]⟩ ++ s ++ ⟨#[10]⟩) (by simp [ByteArray.size_append]; have : (⟨#[58, 10, 106, 109, 112, 32]⟩ : ByteArray).size = 6 := rfl; have : (⟨#[10]⟩ : ByteArray).size = 1 := rfl; omega) W (HN.out.below hW (names_lt HN.out)) (Nat.lt_of_lt_of_le (names_lt HN.out) hW.size))
  have TX := Lib.hid (show (s ++ (⟨#[58, 10, 106, 109, 112, 32]⟩ : ByteArray) ++ s ++ (⟨#[10]⟩ : ByteArray)).data.toList = s.data.toList ++ [58, 10, 106, 109, 112, 32] ++ s.data.toList ++ [10] from by simp)
  have q1 : ¬ 9223372036854775807 < s.size + 6 := by omega
  have q2 : ¬ 9223372036854775807 < s.size + 6 + s.size := by omega
  have q3 : ¬ 9223372036854775807 < s.size + 6 + s.size + 1 := by omega
  obtain ⟨g0, hg0⟩ : ∃ g, g = goodOn s.data.toList 0 := ⟨_, rfl⟩
  have HG0 := Lib.hid hg0
  clear hg0
  go_enter Tryd.func4, Tryd.ntmps4
  go_upto_region 3 with fail
  go_cut [3] from 13 to 20 (fun s3 w' => s3 = .bool g0 ∧ w = w')
  case first =>
   as_aux_lemma =>
    have e : g0 = (decide (1 ≤ s.size) && decide (s.size ≤ 16)) := by rw [HG0.out, goodOn]; simp
    clear HG0 AW PR PA TX
    by_cases h1 : 1 ≤ s.size
    · have j1 : (1 : Int) ≤ (s.size : Int) := by omega
      by_cases h2 : s.size ≤ 16
      · have j2 : (s.size : Int) ≤ 16 := by omega
        rw [decide_eq_true h1, decide_eq_true h2] at e
        subst e
        clear h1 h2
        go_wp2_with fail
        go_meet
        exact ⟨rfl, rfl⟩
      · have j2 : ¬ (s.size : Int) ≤ 16 := by omega
        rw [decide_eq_true h1, decide_eq_false h2] at e
        subst e
        clear h1 h2
        go_wp2_with fail
        go_meet
        exact ⟨rfl, rfl⟩
    · have j1 : ¬ (1 : Int) ≤ (s.size : Int) := by omega
      rw [decide_eq_false h1] at e
      simp only [Bool.false_and] at e
      subst e
      clear h1
      go_wp2_with fail
      go_meet
      exact ⟨rfl, rfl⟩
  case rest =>
  obtain ⟨rfl, rfl⟩ := hcut
  go_wp2_with fail
  go_loop [3, 4] (fun s3 vi => ∃ i : Nat, ∃ g, i ≤ s.size ∧ vi = .int .i64 i ∧ s3 = .bool g ∧ Hid (g = goodOn s.data.toList i) ∧ Hid (NmSt s i)) (fun _ vi => s.size - (intOf vi).toNat)
  case atStart => exact ⟨0, g0, by omega, rfl, rfl, HG0, Lib.hid ⟨fun t ht => by omega⟩⟩
  case round =>
    obtain ⟨i, g, hi, rfl, rfl, HG, NS⟩ := hrel
    by_cases hlt : i < s.size
    · obtain ⟨c, hc⟩ : ∃ c : Int, c = (s[i].toNat : Int) := ⟨_, rfl⟩
      have SPEC := Lib.hid (fun h1 h2 h3 h4 => NS.out.step hlt h1 h2 h3 h4)
      have OKA := Lib.hid (show okAt s.data.toList i = ((decide (97 ≤ s[i].toNat) && decide (s[i].toNat ≤ 122)) || (decide (0 < i) && (decide (48 ≤ s[i].toNat) && decide (s[i].toNat ≤ 57)))) from by rw [okAt, getD_at s i hlt, isLow])
      rw [← hc] at SPEC
      by_cases h10 : (s[i].toNat : Int) = 10
      · have e10 : ((s[i].toNat : Int) == 10) = true := by rw [h10]; rfl
        clear hc SPEC OKA PR PA TX h10
        go_wp2_with fail
        go_at_call 6
        refine (AW.out _ (Below.refl _ _)).mono ?_
        rintro e w' ⟨rfl, hb⟩
        have HB := Lib.hid hb
        clear hb
        go_wp2_with fail
        go_ret
        exact ⟨rfl, HB.out⟩
      have e10 : ((s[i].toNat : Int) == 10) = false := beq_eq_false_iff_ne.2 h10
      by_cases h32 : (s[i].toNat : Int) = 32
      · have e32 : ((s[i].toNat : Int) == 32) = true := by rw [h32]; rfl
        clear hc SPEC OKA PR PA TX h32
        go_wp2_with fail
        go_at_call 6
        refine (AW.out _ (Below.refl _ _)).mono ?_
        rintro e w' ⟨rfl, hb⟩
        have HB := Lib.hid hb
        clear hb
        go_wp2_with fail
        go_ret
        exact ⟨rfl, HB.out⟩
      have e32 : ((s[i].toNat : Int) == 32) = false := beq_eq_false_iff_ne.2 h32
      by_cases h59 : (s[i].toNat : Int) = 59
      · have e59 : ((s[i].toNat : Int) == 59) = true := by rw [h59]; rfl
        clear hc SPEC OKA PR PA TX h59
        go_wp2_with fail
        go_at_call 6
        refine (AW.out _ (Below.refl _ _)).mono ?_
        rintro e w' ⟨rfl, hb⟩
        have HB := Lib.hid hb
        clear hb
        go_wp2_with fail
        go_ret
        exact ⟨rfl, HB.out⟩
      have e59 : ((s[i].toNat : Int) == 59) = false := beq_eq_false_iff_ne.2 h59
      by_cases h58 : (s[i].toNat : Int) = 58
      · have e58 : ((s[i].toNat : Int) == 58) = true := by rw [h58]; rfl
        clear hc SPEC OKA PR PA TX h58
        go_wp2_with fail
        go_at_call 6
        refine (AW.out _ (Below.refl _ _)).mono ?_
        rintro e w' ⟨rfl, hb⟩
        have HB := Lib.hid hb
        clear hb
        go_wp2_with fail
        go_ret
        exact ⟨rfl, HB.out⟩
      have e58 : ((s[i].toNat : Int) == 58) = false := beq_eq_false_iff_ne.2 h58
      have NX := Lib.hid (show NmSt s (i + 1) from NS.out.step hlt e10 e32 e59 e58)
      clear hc SPEC h10 h32 h59 h58
      have GS := Lib.hid (show goodOn s.data.toList (i + 1) = (g && okAt s.data.toList i) from by rw [goodOn, HG.out])
      cases g with
      | false =>
        have GX := Lib.hid (show false = goodOn s.data.toList (i + 1) from by rw [GS.out]; rfl)
        go_wp2_with fail
        go_round
        case rel => exact ⟨i + 1, false, by omega, by go_num, rfl, GX, NX⟩
        case measure => simp [intOf]; omega
      | true =>
        by_cases a1 : 97 ≤ (s[i].toNat : Int)
        · by_cases a2 : (s[i].toNat : Int) ≤ 122
          · have GX := Lib.hid (show true = goodOn s.data.toList (i + 1) from by rw [GS.out, OKA.out, decide_eq_true (show 97 ≤ s[i].toNat by omega), decide_eq_true (show s[i].toNat ≤ 122 by omega)]; rfl)
            go_wp2_with fail
            go_round
            case rel => exact ⟨i + 1, true, by omega, by go_num, rfl, GX, NX⟩
            case measure => simp [intOf]; omega
          · have b2 : ¬ (s[i].toNat : Int) ≤ 57 := by omega
            have b1 : 48 ≤ (s[i].toNat : Int) := by omega
            have GX := Lib.hid (show false = goodOn s.data.toList (i + 1) from by rw [GS.out, OKA.out, decide_eq_false (show ¬ s[i].toNat ≤ 122 by omega), decide_eq_false (show ¬ s[i].toNat ≤ 57 by omega)]; simp)
            by_cases a3 : (0 : Int) < (i : Int)
            · skip
              go_wp2_with fail
              go_round
              case rel => exact ⟨i + 1, false, by omega, by go_num, rfl, GX, NX⟩
              case measure => simp [intOf]; omega
            · skip
              go_wp2_with fail
              go_round
              case rel => exact ⟨i + 1, false, by omega, by go_num, rfl, GX, NX⟩
              case measure => simp [intOf]; omega
        · by_cases a3 : (0 : Int) < (i : Int)
          · by_cases b1 : 48 ≤ (s[i].toNat : Int)
            · by_cases b2 : (s[i].toNat : Int) ≤ 57
              · have GX := Lib.hid (show true = goodOn s.data.toList (i + 1) from by rw [GS.out, OKA.out, decide_eq_true (show 48 ≤ s[i].toNat by omega), decide_eq_true (show s[i].toNat ≤ 57 by omega), decide_eq_true (show 0 < i by omega)]; simp)
                go_wp2_with fail
                go_round
                case rel => exact ⟨i + 1, true, by omega, by go_num, rfl, GX, NX⟩
                case measure => simp [intOf]; omega
              · have GX := Lib.hid (show false = goodOn s.data.toList (i + 1) from by rw [GS.out, OKA.out, decide_eq_false (show ¬ 97 ≤ s[i].toNat by omega), decide_eq_false (show ¬ s[i].toNat ≤ 57 by omega)]; simp)
                go_wp2_with fail
                go_round
                case rel => exact ⟨i + 1, false, by omega, by go_num, rfl, GX, NX⟩
                case measure => simp [intOf]; omega
            · have GX := Lib.hid (show false = goodOn s.data.toList (i + 1) from by rw [GS.out, OKA.out, decide_eq_false (show ¬ 97 ≤ s[i].toNat by omega), decide_eq_false (show ¬ 48 ≤ s[i].toNat by omega)]; simp)
              go_wp2_with fail
              go_round
              case rel => exact ⟨i + 1, false, by omega, by go_num, rfl, GX, NX⟩
              case measure => simp [intOf]; omega
          · have GX := Lib.hid (show false = goodOn s.data.toList (i + 1) from by rw [GS.out, OKA.out, decide_eq_false (show ¬ 97 ≤ s[i].toNat by omega), decide_eq_false (show ¬ 0 < i by omega)]; simp)
            go_wp2_with fail
            go_round
            case rel => exact ⟨i + 1, false, by omega, by go_num, rfl, GX, NX⟩
            case measure => simp [intOf]; omega
    · have hfull : i = s.size := by omega
      have GD := Lib.hid (show g = goodOn s.data.toList s.data.toList.length from by rw [HG.out, hfull]; simp)
      have NF := Lib.hid (PR.out (fun t ht => NS.out.ok t (by omega)))
      have hsl : s.data.toList.length = s.size := by simp
      have HSL := Lib.hid hsl
      clear hfull hsl
      cases g with
      | false =>
        have P2 := Lib.hid (show Calls Tryd.prog 7 #[.string (s ++ ⟨#[58, 10, 106, 109, 112, 32]⟩ ++ s ++ ⟨#[10]⟩)] w (ParOut (.text 0) w) from by
          have := PA.out w (Below.refl _ _)
          rw [TX.out, NF.out, name_bad _ GD.out.symm] at this
          exact this)
        clear PA TX NF PR
        go_wp2_with fail
        go_at_call 7
        refine P2.out.mono ?_
        rintro e w1 ⟨hb, x, rfl, hx⟩
        have HX := Lib.hid hx
        have HB1 := Lib.hid hb
        clear hb hx
        go_wp2_with fail
        go_at_call 10
        refine (no_any _ _ _ _).mono ?_
        rintro e w2 ⟨rfl, hw2⟩
        have HF := Lib.hid (show FailBlk w2 w1.heap.size ⟨#[97, 115, 109]⟩ 0 6 from by rw [hw2]; exact FailBlk.new _ _ _ _)
        have hb2 : Below w1.heap.size w1 w2 := by rw [hw2]; exact (((Below.refl _ _).alloc (Nat.le_refl _) _).alloc (by simp) _).alloc (by simp; omega) _
        have HB2 := Lib.hid hb2
        have SM := Lib.hid (show Calls Tryd.prog 9 #[.iface 55 (.pointer (some ⟨x, 0, none⟩)), .pointer (some ⟨w1.heap.size + 1 + 1, 0, none⟩)] w2 fun e w' => e = .returned (.bool true) ∧ Below w2.heap.size w2 w' from
          same_blk (y := ⟨#[97, 115, 109]⟩) (n := 0) (k := 6) ((hb2.block x (heap_lt HX.out)).trans HX.out) HF.out (by decide) (by decide) (errType_keep HE.out (HB1.out.trans (hb2.mono HB1.out.size))))
        clear hw2 hb2
        go_wp2_with fail
        go_at_call 9
        refine SM.out.mono ?_
        rintro e w3 ⟨rfl, hb3⟩
        have HB3 := Lib.hid (show Below w.heap.size w w3 from (HB1.out.trans (HB2.out.mono HB1.out.size)).trans (hb3.mono (Nat.le_trans HB1.out.size HB2.out.size)))
        clear hb3
        go_wp2_with fail
        go_at_call 6
        refine (AW.out _ HB3.out).mono ?_
        rintro e w' ⟨rfl, hb⟩
        have HB := Lib.hid hb
        clear hb
        go_wp2_with fail
        go_ret
        exact ⟨rfl, HB.out⟩
      | true =>
        have h0 : 0 < s.size := by
          have := ((goodOn_iff _ _).1 GD.out.symm).1.1
          rw [HSL.out] at this
          omega
        have G0 := Lib.hid (getD_at s 0 h0)
        by_cases r0 : (s[0].toNat : Int) = 114
        · have r1 : ((s[0].toNat : Int) == 114) = true := by rw [r0]; rfl
          clear r0
          by_cases n1 : 1 < s.size
          · have n2 : (1 : Int) < (s.size : Int) := by omega
            have G1 := Lib.hid (getD_at s 1 n1)
            by_cases d1 : 48 ≤ (s[1].toNat : Int)
            · by_cases d2 : (s[1].toNat : Int) ≤ 57
              · clear PR PA TX NF GD
                go_wp2_with fail
                go_at_call 6
                refine (AW.out _ (Below.refl _ _)).mono ?_
                rintro e w' ⟨rfl, hb⟩
                have HB := Lib.hid hb
                clear hb
                go_wp2_with fail
                go_ret
                exact ⟨rfl, HB.out⟩
              · skip
                have NR := Lib.hid (show notReg s.data.toList from fun hh => by
                  obtain ⟨y1, y2, y3, y4⟩ := hh
                  rw [G1.out] at y4; omega)
                have P2 := Lib.hid (show Calls Tryd.prog 7 #[.string (s ++ ⟨#[58, 10, 106, 109, 112, 32]⟩ ++ s ++ ⟨#[10]⟩)] w (ParOut (.ok [⟨12, 0, 0, 0, 0, 0, 0⟩] [(s.data.toList, 0, 0)]) w) from by
                  have := PA.out w (Below.refl _ _)
                  rw [TX.out, NF.out, name_good _ GD.out.symm NR.out] at this
                  exact this)
                clear PA TX NF PR
                go_wp2_with fail
                go_at_call 7
                refine P2.out.mono ?_
                rintro e w1 ⟨hb, vc, vl, rfl, h1, h2⟩
                obtain ⟨g, cap, rfl⟩ := nil_form h1 (by simp)
                obtain ⟨g2, cap2, rfl⟩ := nil_form h2 (by simp)
                have a4 := own_cell h1 4 (.int .u64 0) rfl
                have l0 := own_cell h2 0 (.string s) (by simp [flatLab])
                have HB1 := Lib.hid hb
                have ss : (s.toList == s.toList) = true := by simp
                clear hb h1 h2
                simp only [List.length_cons, List.length_nil]
                go_wp2_with fail
                go_at_call 6
                refine (AW.out _ HB1.out).mono ?_
                rintro e w' ⟨rfl, hb⟩
                have HB := Lib.hid hb
                clear hb
                go_wp2_with fail
                go_ret
                exact ⟨rfl, HB.out⟩
            · skip
              have NR := Lib.hid (show notReg s.data.toList from fun hh => by
                obtain ⟨y1, y2, y3, y4⟩ := hh
                rw [G1.out] at y3; omega)
              have P2 := Lib.hid (show Calls Tryd.prog 7 #[.string (s ++ ⟨#[58, 10, 106, 109, 112, 32]⟩ ++ s ++ ⟨#[10]⟩)] w (ParOut (.ok [⟨12, 0, 0, 0, 0, 0, 0⟩] [(s.data.toList, 0, 0)]) w) from by
                have := PA.out w (Below.refl _ _)
                rw [TX.out, NF.out, name_good _ GD.out.symm NR.out] at this
                exact this)
              clear PA TX NF PR
              go_wp2_with fail
              go_at_call 7
              refine P2.out.mono ?_
              rintro e w1 ⟨hb, vc, vl, rfl, h1, h2⟩
              obtain ⟨g, cap, rfl⟩ := nil_form h1 (by simp)
              obtain ⟨g2, cap2, rfl⟩ := nil_form h2 (by simp)
              have a4 := own_cell h1 4 (.int .u64 0) rfl
              have l0 := own_cell h2 0 (.string s) (by simp [flatLab])
              have HB1 := Lib.hid hb
              have ss : (s.toList == s.toList) = true := by simp
              clear hb h1 h2
              simp only [List.length_cons, List.length_nil]
              go_wp2_with fail
              go_at_call 6
              refine (AW.out _ HB1.out).mono ?_
              rintro e w' ⟨rfl, hb⟩
              have HB := Lib.hid hb
              clear hb
              go_wp2_with fail
              go_ret
              exact ⟨rfl, HB.out⟩
          · have n2 : ¬ (1 : Int) < (s.size : Int) := by omega
            have NR := Lib.hid (show notReg s.data.toList from fun hh => by
              obtain ⟨y1, y2, y3, y4⟩ := hh
              rw [HSL.out] at y2; omega)
            have P2 := Lib.hid (show Calls Tryd.prog 7 #[.string (s ++ ⟨#[58, 10, 106, 109, 112, 32]⟩ ++ s ++ ⟨#[10]⟩)] w (ParOut (.ok [⟨12, 0, 0, 0, 0, 0, 0⟩] [(s.data.toList, 0, 0)]) w) from by
              have := PA.out w (Below.refl _ _)
              rw [TX.out, NF.out, name_good _ GD.out.symm NR.out] at this
              exact this)
            clear PA TX NF PR
            go_wp2_with fail
            go_at_call 7
            refine P2.out.mono ?_
            rintro e w1 ⟨hb, vc, vl, rfl, h1, h2⟩
            obtain ⟨g, cap, rfl⟩ := nil_form h1 (by simp)
            obtain ⟨g2, cap2, rfl⟩ := nil_form h2 (by simp)
            have a4 := own_cell h1 4 (.int .u64 0) rfl
            have l0 := own_cell h2 0 (.string s) (by simp [flatLab])
            have HB1 := Lib.hid hb
            have ss : (s.toList == s.toList) = true := by simp
            clear hb h1 h2
            simp only [List.length_cons, List.length_nil]
            go_wp2_with fail
            go_at_call 6
            refine (AW.out _ HB1.out).mono ?_
            rintro e w' ⟨rfl, hb⟩
            have HB := Lib.hid hb
            clear hb
            go_wp2_with fail
            go_ret
            exact ⟨rfl, HB.out⟩
        · have r1 : ((s[0].toNat : Int) == 114) = false := beq_eq_false_iff_ne.2 r0
          have NR := Lib.hid (show notReg s.data.toList from fun hh => by
            obtain ⟨y1, y2, y3, y4⟩ := hh
            rw [G0.out] at y1; rw [y1] at r0; exact r0 rfl)
          clear r0
          have P2 := Lib.hid (show Calls Tryd.prog 7 #[.string (s ++ ⟨#[58, 10, 106, 109, 112, 32]⟩ ++ s ++ ⟨#[10]⟩)] w (ParOut (.ok [⟨12, 0, 0, 0, 0, 0, 0⟩] [(s.data.toList, 0, 0)]) w) from by
            have := PA.out w (Below.refl _ _)
            rw [TX.out, NF.out, name_good _ GD.out.symm NR.out] at this
            exact this)
          clear PA TX NF PR
          go_wp2_with fail
          go_at_call 7
          refine P2.out.mono ?_
          rintro e w1 ⟨hb, vc, vl, rfl, h1, h2⟩
          obtain ⟨g, cap, rfl⟩ := nil_form h1 (by simp)
          obtain ⟨g2, cap2, rfl⟩ := nil_form h2 (by simp)
          have a4 := own_cell h1 4 (.int .u64 0) rfl
          have l0 := own_cell h2 0 (.string s) (by simp [flatLab])
          have HB1 := Lib.hid hb
          have ss : (s.toList == s.toList) = true := by simp
          clear hb h1 h2
          simp only [List.length_cons, List.length_nil]
          go_wp2_with fail
          go_at_call 6
          refine (AW.out _ HB1.out).mono ?_
          rintro e w' ⟨rfl, hb⟩
          have HB := Lib.hid hb
          clear hb
          go_wp2_with fail
          go_ret
          exact ⟨rfl, HB.out⟩
end Go.Proofs.YtneajiglkiffjaaDoor
