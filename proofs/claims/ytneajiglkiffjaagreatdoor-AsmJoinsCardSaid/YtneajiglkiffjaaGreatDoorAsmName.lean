/- Contract of package asm's isName (layer 5): can a word be a label's name? No condition but the text's length. -/
import Derived.Test.YtneajiglkiffjaaGreatDoorAsmReg
namespace Go.Proofs.YtneajiglkiffjaaGreatDoor
open Go.RowKit
set_option linter.unusedVariables false

theorem getD_at (s : ByteArray) (k : Nat) (h : k < s.size) : s.data.toList.getD k 0 = s[k] := by
  rw [List.getD_eq_getElem?_getD, List.getElem?_eq_getElem (by simpa using h)]; rfl
theorem nameB_eq (s : List UInt8) (h1 : 1 ≤ s.length) (h2 : s.length ≤ 16) (h3 : isLow (s.getD 0 0) = true) (h4 : s.all isLowDig = true) : nameB s = !(regP s).isSome := by
  unfold nameB
  rw [decide_eq_true h1, decide_eq_true h2, h3, h4]
  cases regP s <;> rfl
theorem nameB_not (s : List UInt8) (h : ¬ (1 ≤ s.length ∧ s.length ≤ 16 ∧ isLow (s.getD 0 0) = true ∧ s.all isLowDig = true)) : nameB s = false := by
  cases hn : nameB s with
  | false => rfl
  | true =>
    exfalso
    unfold nameB at hn
    simp only [Bool.and_eq_true, decide_eq_true_eq] at hn
    exact h ⟨hn.1.1.1.1, hn.1.1.1.2, hn.1.1.2, hn.1.2⟩
set_option maxHeartbeats 1000000 in
theorem isName_any (s : ByteArray) (hs : s.size ≤ 9223372036854775807) (w : World) : Calls Tryz.prog 74 #[.string s] w fun e w' => e = .returned (.bool (nameB s.data.toList)) ∧ Below w.heap.size w w' := by
  have hsz : s.data.toList.length = s.size := by simp
  obtain ⟨R, hR⟩ : ∃ R, R = nameB s.data.toList := ⟨_, rfl⟩
  rw [← hR]
  have HR := Lib.hid hR
  have HZ := Lib.hid hsz
  clear hR hsz
  have RG := Lib.hid (show ∀ W, Calls Tryz.prog 91 #[.string s] W (RegPost (regP s.data.toList) W) from fun W => by have := regOf_any s.data.toList W; rwa [bytesA_eq] at this)
  by_cases h1 : 1 ≤ s.size
  · by_cases h16 : s.size ≤ 16
    · have h0 : 0 < s.size := by omega
      obtain ⟨q, hq⟩ : ∃ q, q = isLow s[0] := ⟨_, rfl⟩
      have L0 := Lib.hid (fun W => isLetter_any s[0] W)
      rw [← hq] at L0
      have HQ := Lib.hid hq
      clear hq
      have i1 : ¬ (s.size : Int) < 1 := by omega
      have i2 : ¬ (16 : Int) < (s.size : Int) := by omega
      cases q with
      | false =>
        have FIN := Lib.hid (show Ending.returned (.bool R) = .returned (.bool false) ∧ Below w.heap.size w w from ⟨by rw [HR.out, nameB_not _ (fun h => by have := h.2.2.1; rw [getD_at s 0 h0, ← HQ.out] at this; cases this)], Below.refl _ _⟩)
        clear h16
        go_enter Tryz.func74, Tryz.ntmps74
        go_wp2_with (go_at_call 90; refine (L0.out _).mono ?_; rintro e w' ⟨rfl, rfl⟩)
        go_ret
        exact ⟨by rw [FIN.out.1]; rfl, FIN.out.2⟩
      | true =>
        go_enter Tryz.func74, Tryz.ntmps74
        go_wp2_with (go_at_call 90; refine (L0.out _).mono ?_; rintro e w' ⟨rfl, rfl⟩)
        go_loop [22] (fun vi => ∃ i : Nat, i ≤ s.size ∧ vi = .int .i64 i ∧ Hid (∀ t (h : t < s.size), t < i → isLowDig s[t] = true)) (fun vi => s.size - (intOf vi).toNat)
        case atStart => exact ⟨0, by omega, rfl, Lib.hid (fun t h ht => by omega)⟩
        case round =>
          obtain ⟨i, hi, rfl, hok⟩ := hrel
          by_cases hlt : i < s.size
          · obtain ⟨p, hp⟩ : ∃ p, p = isLow s[i] := ⟨_, rfl⟩
            have L1 := Lib.hid (fun W => isLetter_any s[i] W)
            rw [← hp] at L1
            have HP := Lib.hid hp
            clear hp
            have step : isLowDig s[i] = true → Hid (∀ t (h : t < s.size), t < i + 1 → isLowDig s[t] = true) := fun hd => Lib.hid (fun t h ht => by
              by_cases hti : t < i
              · exact hok.out t h hti
              · obtain rfl : t = i := by omega
                exact hd)
            have ST := Lib.hid step
            have NO := Lib.hid (show isLowDig s[i] = false → R = false from fun hd => by
              rw [HR.out, nameB_not _ (fun h => by
                have := List.all_eq_true.1 h.2.2.2 s[i] (List.mem_iff_getElem.2 ⟨i, by simpa using hlt, rfl⟩)
                rw [hd] at this; cases this)])
            clear step
            cases p with
            | true =>
              have NX := ST.out (by unfold isLowDig; rw [← HP.out]; rfl)
              go_wp2_with (go_at_call 90; refine (L1.out _).mono ?_; rintro e w' ⟨rfl, rfl⟩)
              go_round
              case rel => exact ⟨i + 1, by omega, by go_num, NX⟩
              case measure => simp [intOf]; omega
            | false =>
              by_cases d1 : (s[i].toNat : Int) < 48
              · have NX := NO.out (by unfold isLowDig; rw [← HP.out, decide_eq_false (show ¬ 48 ≤ s[i].toNat by omega)]; rfl)
                have NH := Lib.hid NX
                clear NX
                go_wp2_with (go_at_call 90; refine (L1.out _).mono ?_; rintro e w' ⟨rfl, rfl⟩)
                go_ret
                exact ⟨by rw [NH.out]; rfl, Below.refl _ _⟩
              · by_cases d2 : 57 < (s[i].toNat : Int)
                · have NX := NO.out (by unfold isLowDig; rw [← HP.out, decide_eq_false (show ¬ s[i].toNat ≤ 57 by omega)]; simp)
                  have NH := Lib.hid NX
                  clear NX
                  go_wp2_with (go_at_call 90; refine (L1.out _).mono ?_; rintro e w' ⟨rfl, rfl⟩)
                  go_ret
                  exact ⟨by rw [NH.out]; rfl, Below.refl _ _⟩
                · have NX := ST.out (by unfold isLowDig; rw [decide_eq_true (show 48 ≤ s[i].toNat by omega), decide_eq_true (show s[i].toNat ≤ 57 by omega)]; simp)
                  go_wp2_with (go_at_call 90; refine (L1.out _).mono ?_; rintro e w' ⟨rfl, rfl⟩)
                  go_round
                  case rel => exact ⟨i + 1, by omega, by go_num, NX⟩
                  case measure => simp [intOf]; omega
          · have FIN := Lib.hid (show R = !(regP s.data.toList).isSome from by
              rw [HR.out, nameB_eq _ (by rw [HZ.out]; omega) (by rw [HZ.out]; omega) (by rw [getD_at s 0 h0, ← HQ.out]) (List.all_eq_true.2 (fun c hc => by
                obtain ⟨t, ht, e⟩ := List.mem_iff_getElem.1 hc
                have hts : t < s.size := by simpa using ht
                rw [← e]
                exact hok.out t hts (by omega)))])
            go_wp2_with fail
            go_at_call 91
            refine (RG.out _).mono ?_
            rintro e w1 ⟨rfl, hb⟩
            have HB := Lib.hid hb
            clear hb
            obtain ⟨g, hg⟩ : ∃ g, g = (regP s.data.toList).isSome := ⟨_, rfl⟩
            rw [← hg] at FIN ⊢
            clear hg
            go_wp2_with fail
            go_ret
            exact ⟨by rw [FIN.out]; rfl, HB.out⟩
    · have i1 : ¬ (s.size : Int) < 1 := by omega
      have i2 : (16 : Int) < (s.size : Int) := by omega
      have FIN := Lib.hid (show R = false from by rw [HR.out, nameB_not _ (fun h => by have := h.2.1; rw [HZ.out] at this; omega)])
      clear h16
      go_enter Tryz.func74, Tryz.ntmps74
      go_wp2
      go_ret
      exact ⟨by rw [FIN.out]; rfl, Below.refl _ _⟩
  · have i1 : (s.size : Int) < 1 := by omega
    have FIN := Lib.hid (show R = false from by rw [HR.out, nameB_not _ (fun h => by have := h.1; rw [HZ.out] at this; omega)])
    clear h1
    go_enter Tryz.func74, Tryz.ntmps74
    go_wp2
    go_ret
    exact ⟨by rw [FIN.out]; rfl, Below.refl _ _⟩
end Go.Proofs.YtneajiglkiffjaaGreatDoor
