/- Contract of package asm's operationOf (layer 5): the operation of that name. The condition: the program's table of names holds the names. -/
import Derived.Test.YtneajiglkiffjaaGreatDoorAsmReg
import Derived.Deep.MidRow
namespace Go.Proofs.YtneajiglkiffjaaGreatDoor
open Go.RowKit
set_option linter.unusedVariables false

def namesL : List Value := opTab.map fun l => Value.string (bytesA l)
/-- The program's table of names holds the names. -/
def NamesAt (W : World) : Prop := W.rangeAt 0 0 namesL
theorem NamesAt.below {B : Nat} {W W' : World} (h : NamesAt W) (hb : Below B W W') (hB : 0 < B) : NamesAt W' := fun j v hv => by
  rw [hb.cell (p := ⟨0, 0 + j, none⟩) hB]; exact h j v hv
theorem names_get (k : Nat) (hk : k < 59) : namesL.toArray[k]? = some (.string (bytesA (opTab.getD k []))) := by
  have hl : opTab.length = 59 := rfl
  simp only [List.getElem?_toArray, namesL]
  rw [List.getElem?_map, List.getElem?_eq_getElem (by rw [hl]; exact hk), List.getD_eq_getElem?_getD, List.getElem?_eq_getElem (by rw [hl]; exact hk)]
  rfl
theorem info_names : (Tryz.prog.info? 89).map (·.size) = some 59 := by kernel_rfl
theorem run_index_names (k : Nat) (hk : k < 59) (W : World) : (Instr.index 89 (.agg namesL.toArray) (.int .i64 (k : Int))).run Tryz.prog W = .ok (.string (bytesA (opTab.getD k []))) W := by
  have h := names_get k hk
  have hs : ∀ W, (sizeOf 9).run Tryz.prog W = .ok 1 W := fun W => by kernel_rfl
  have ha : ∀ W, (isAgg 9).run Tryz.prog W = .ok false W := fun W => by kernel_rfl
  generalize namesL.toArray = cs at h ⊢
  simp [Instr.index, asIntOf, run_underlying Tryz.underlying89, Result.andThen, hk, part, hs, ha, h]
theorem opP_at (l : List UInt8) (i : Nat) (hi : i < 59) (h : opTab.getD i [] = l) (hn : ∀ t, t < i → opTab.getD t [] ≠ l) : opP l = some i := by
  unfold opP
  rw [List.findIdx?_eq_some_iff_getElem]
  have hl : opTab.length = 59 := rfl
  have g : ∀ t (ht : t < opTab.length), opTab.getD t [] = opTab[t] := fun t ht => by rw [List.getD_eq_getElem?_getD, List.getElem?_eq_getElem ht]; rfl
  refine ⟨by rw [hl]; exact hi, by rw [← g i (by rw [hl]; exact hi), h]; simp, fun j hj => ?_⟩
  have := hn j hj
  rw [g j (by rw [hl]; omega)] at this
  simpa using this
theorem opP_none (l : List UInt8) (hn : ∀ t, t < 59 → opTab.getD t [] ≠ l) : opP l = none := by
  unfold opP
  rw [List.findIdx?_eq_none_iff]
  intro x hx
  obtain ⟨t, ht, e⟩ := List.mem_iff_getElem.1 hx
  have := hn t ht
  rw [List.getD_eq_getElem?_getD, List.getElem?_eq_getElem ht] at this
  rw [← e]
  simpa using this
set_option maxHeartbeats 1000000 in
set_option maxRecDepth 100000 in
theorem opOf_any (s : ByteArray) (w : World) (N : NamesAt w) : Calls Tryz.prog 75 #[.string s] w fun e w' =>
    e = .returned (.tuple #[.int .i64 (((opP s.data.toList).getD 0 : Nat) : Int), .bool (opP s.data.toList).isSome]) ∧ w = w' := by
  obtain ⟨R, hR⟩ : ∃ R, R = opP s.data.toList := ⟨_, rfl⟩
  rw [← hR]
  have HR := Lib.hid hR
  clear hR
  have HI := Lib.hid (fun k hk => run_index_names k hk w)
  have HN := Lib.hid N
  clear N
  have HS := Lib.hid (show namesL.toArray.size = namesL.length by simp)
  obtain ⟨cs, hcs⟩ : ∃ cs, cs = namesL.toArray := ⟨_, rfl⟩
  rw [← hcs] at HI
  have HC := Lib.hid hcs
  clear hcs
  go_enter Tryz.func75, Tryz.ntmps75
  go_wp2_with (refine wpList_load_mid rfl 89 _ rfl 0 0 rfl namesL _ HN.out Tryz.underlying89 rfl info_names ?_; rw [← HC.out])
  go_loop [7] (fun vi => ∃ i : Nat, i ≤ 59 ∧ vi = .int .i64 i ∧ Hid (∀ t, t < i → opTab.getD t [] ≠ s.data.toList)) (fun vi => 59 - (intOf vi).toNat)
  case atStart => exact ⟨0, by omega, rfl, Lib.hid (fun t ht => by omega)⟩
  case round =>
    obtain ⟨i, hi, rfl, hok⟩ := hrel
    by_cases hlt : i < 59
    · have hx := HI.out i hlt
      have HB := Lib.hid (show ((bytesA (opTab.getD i [])).toList == s.toList) = decide (opTab.getD i [] = s.data.toList) from by have := bytesA_ne (opTab.getD i []) s.data.toList; rwa [bytesA_eq] at this)
      by_cases hd : opTab.getD i [] = s.data.toList
      · have hb : ((bytesA (opTab.getD i [])).toList == s.toList) = true := by rw [HB.out]; simpa using hd
        have FIN := Lib.hid (show R = some i from by rw [HR.out]; exact opP_at _ i hlt hd hok.out)
        clear hd HB
        obtain ⟨x, hxx⟩ : ∃ x, x = bytesA (opTab.getD i []) := ⟨_, rfl⟩
        rw [← hxx] at hb hx
        clear hxx
        go_wp2_with fail
        go_ret2
        rw [FIN.out]
        exact ⟨rfl, rfl⟩
      · have hb : ((bytesA (opTab.getD i [])).toList == s.toList) = false := by rw [HB.out]; simpa using hd
        have NX := Lib.hid (show ∀ t, t < i + 1 → opTab.getD t [] ≠ s.data.toList from fun t ht => by
          by_cases hti : t < i
          · exact hok.out t hti
          · obtain rfl : t = i := by omega
            exact hd)
        clear hd HB
        obtain ⟨x, hxx⟩ : ∃ x, x = bytesA (opTab.getD i []) := ⟨_, rfl⟩
        rw [← hxx] at hb hx
        clear hxx
        go_wp2_with fail
        go_round
        case rel => exact ⟨i + 1, by omega, by go_num, NX⟩
        case measure => simp [intOf]; omega
    · have FIN := Lib.hid (show R = none from by rw [HR.out]; exact opP_none _ (fun t ht => hok.out t (by omega)))
      go_wp2_with fail
      go_ret2
      rw [FIN.out]
      exact ⟨rfl, rfl⟩
end Go.Proofs.YtneajiglkiffjaaGreatDoor
