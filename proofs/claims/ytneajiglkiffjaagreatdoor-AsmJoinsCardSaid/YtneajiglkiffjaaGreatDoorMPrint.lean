/- Contracts of package asm's targetsOf, placeIn, firstInvalid and Print, of strings.Builder's WriteString at this program, of the statements' help CopyCode and Code (layer 5). -/
import Derived.Test.YtneajiglkiffjaaGreatDoorInsIn
import Derived.Deep.Upon
import Derived.Deep.AppendSrc
import Derived.Lib.AppendZeros
import Derived.Deep.CutRange
import Derived.Deep.DeepCutAuto
import Derived.Deep.CutBlock
import Derived.BigQuiet
import Derived.Test.YtneajiglkiffjaaGreatDoorOpsOf
import Derived.Test.YtneajiglkiffjaaGreatDoorMSay
import Derived.Laws.MakeOwn
import Derived.Test.YtneajiglkiffjaaGreatDoorCodeCheck
import Derived.Test.YtneajiglkiffjaaGreatDoorErrAs2
import Derived.Test.YtneajiglkiffjaaGreatDoorAsmFin0
import Derived.Test.YtneajiglkiffjaaGreatDoorShelf
import Derived.Test.YtneajiglkiffjaaGreatDoorProg
import Derived.Shelf.Strings.Builder1
import Derived.Lib.OthersKept
import Derived.Lib.Hide
import Derived.Test.YtneajiglkiffjaaGreatDoorMWrite
namespace Go.Proofs.YtneajiglkiffjaaGreatDoor
open Go.RowKit
set_option linter.unusedVariables false

/-- An instruction's cells. -/
def Inst.vs (x : Inst) : List Value := [.int .i64 x.op, .int .i64 x.a, .int .i64 x.b, .int .i64 x.c, .int .u64 x.v, .int .i64 x.m, .int .i64 x.wh]
def flatIns (l : List Inst) : List Value := l.flatMap Inst.vs
theorem flatIns_length (l : List Inst) : (flatIns l).length = l.length * 7 := by
  induction l with
  | nil => rfl
  | cons x l ih => rw [flatIns, List.flatMap_cons, List.length_append, ← flatIns, ih, List.length_cons, show x.vs.length = 7 from rfl]; omega
theorem flatIns_get : ∀ (l : List Inst) (i k : Nat), i < l.length → k < 7 → (flatIns l)[i * 7 + k]? = (l.getD i inst0).vs[k]?
  | [], i, k, h, _ => by simp at h
  | x :: l, 0, k, _, hk => by
    rw [flatIns, List.flatMap_cons, List.getElem?_append_left (by show 0 * 7 + k < 7; omega)]; simp
  | x :: l, i + 1, k, h, hk => by
    rw [flatIns, List.flatMap_cons, List.getElem?_append_right (by show 7 ≤ _; omega), ← flatIns, show (i + 1) * 7 + k - x.vs.length = i * 7 + k by show (i + 1) * 7 + k - 7 = _; omega, flatIns_get l i k (by simpa using h) hk]; simp
theorem flatIns_one (l : List Inst) : ∀ u ∈ flatIns l, u.oneCell' = true := by
  intro u hu
  simp only [flatIns, List.mem_flatMap] at hu
  obtain ⟨x, _, hx⟩ := hu
  simp [Inst.vs] at hx
  rcases hx with rfl | rfl | rfl | rfl | rfl | rfl | rfl <;> rfl
/-- The cells behind a slice of instructions, one after another. -/
theorem InsIn.news {W : World} {p : Addr} {l : List Inst} (h : InsIn W (some p) l) : ∀ j u, (flatIns l)[j]? = some u → W.cell? (p.add j) = some u := by
  intro j u hu
  have hj : j < l.length * 7 := by rw [← flatIns_length]; exact (List.getElem?_eq_some_iff.1 hu).1
  have hi : j / 7 < l.length := by omega
  have hk : j % 7 < 7 := by omega
  have hjk : j = j / 7 * 7 + j % 7 := by omega
  rw [hjk, flatIns_get l _ _ hi hk] at hu
  obtain ⟨p', e, _, c0, c1, c2, c3, c4, c5, c6⟩ := h (j / 7) hi
  obtain rfl : p = p' := Option.some.inj e
  have ad : ∀ k, 0 < k → p.add (j / 7 * 7 + k) = ⟨(p.add (j / 7 * 7)).block, (p.add (j / 7 * 7)).off + k, none⟩ := fun k hk => by rw [← Go.Deep.add_add, add_pos _ _ hk]
  rw [hjk]
  generalize j % 7 = k at hu hk
  match k, hk with
  | 0, _ => rw [Nat.add_zero, c0]; exact hu
  | 1, _ => rw [ad 1 (by omega), c1]; exact hu
  | 2, _ => rw [ad 2 (by omega), c2]; exact hu
  | 3, _ => rw [ad 3 (by omega), c3]; exact hu
  | 4, _ => rw [ad 4 (by omega), c4]; exact hu
  | 5, _ => rw [ad 5 (by omega), c5]; exact hu
  | 6, _ => rw [ad 6 (by omega), c6]; exact hu
/-- A block whose first cells are the instructions'. -/
theorem insIn_of_block {W : World} {g : Nat} {l : List Inst} (hg : g < W.heap.size) (h : ∀ j u, (flatIns l)[j]? = some u → W.cell? ⟨g, j, none⟩ = some u) : InsIn W (some ⟨g, 0, none⟩) l := fun i hi => by
  have k : ∀ k u, k < 7 → (l.getD i inst0).vs[k]? = some u → W.cell? ⟨g, i * 7 + k, none⟩ = some u := fun k u hk hu => h _ _ (by rw [flatIns_get l i k hi hk]; exact hu)
  have e0 : (⟨g, 0, none⟩ : Addr).add (i * 7) = ⟨g, i * 7, none⟩ := by
    unfold Addr.add; split
    · rename_i h0; rw [h0]
    · simp
  exact ⟨_, rfl, hg, by rw [e0]; exact k 0 _ (by omega) rfl, by rw [e0]; exact k 1 _ (by omega) rfl, by rw [e0]; exact k 2 _ (by omega) rfl, by rw [e0]; exact k 3 _ (by omega) rfl, by rw [e0]; exact k 4 _ (by omega) rfl, by rw [e0]; exact k 5 _ (by omega) rfl, by rw [e0]; exact k 6 _ (by omega) rfl⟩

theorem info_ins : (Tryz.prog.info? 44).map (fun i => (i.zero, i.size, i.bytes)) = some (some (.agg #[.int .i64 0, .int .i64 0, .int .i64 0, .int .i64 0, .int .u64 0, .int .i64 0, .int .i64 0]), 7, 56) := by kernel_rfl

/-- append([]api.Ins(nil), l...): the same instructions. -/
theorem run_copyIns (A : Option Addr) (cap : Nat) (l : List Inst) (W : World) (hI : InsIn W A l) (hl : l.length * 56 ≤ 140737488355328) (ty : TypeId) :
    ∃ B c W1, (Builtin.append_ #[22, 22] ty #[.slice none 0 0, .slice A l.length cap]).run Tryz.prog W = .ok (.slice B l.length c) W1 ∧ InsIn W1 B l ∧ Below W.heap.size W W1 ∧ (∀ q, B = some q → W.heap.size ≤ q.block) := by
  obtain ⟨i0, hi0, hz0, hz1, hz2⟩ := info_parts info_ins
  by_cases h0 : l.length = 0
  · obtain rfl : l = [] := List.length_eq_zero_iff.1 h0
    have hs : ∃ A', A = A' ∧ Src Tryz.prog i0.size 22 (.slice A 0 cap) 0 [] W := by
      cases A with
      | none => exact ⟨none, rfl, Src.ofNil W Tryz.underlying22 cap⟩
      | some a => exact ⟨some a, rfl, Src.ofSlice W Tryz.underlying22 a 0 cap [] (by simp) (fun _ _ h => by simp at h) (fun _ h => by cases h)⟩
    obtain ⟨_, _, hs⟩ := hs
    have hr := run_append_nothing W 22 22 ty _ i0 Tryz.underlying22 hi0 none 0 0 (Nat.le_refl _) (.slice A 0 cap) hs
    exact ⟨none, 0, W, hr, fun i hi => by simp at hi, Below.refl _ _, fun q h => by cases h⟩
  · obtain ⟨p, rfl, _⟩ : ∃ p, A = some p ∧ True := by
      obtain ⟨p, e, _⟩ := hI 0 (by omega)
      exact ⟨p, e, trivial⟩
    have hr := run_append_grow_src W 22 22 ty _ i0 _ Tryz.underlying22 hi0 hz0 none 0 0 [] (run_firstCells_none W.drew i0.size 0 0 0) (.slice (some p) l.length cap) l.length (flatIns l)
      (Src.ofSlice W Tryz.underlying22 p l.length cap (flatIns l) (by rw [hz1, flatIns_length]) hI.news (flatIns_one l)) (by omega) (by omega) (by rw [hz2]; exact growslice_fits (by omega) (by omega))
    simp only [Nat.zero_add] at hr
    refine ⟨_, _, _, hr, insIn_of_block (by simp) (fun j u hu => ?_), (Below.refl _ _).drew.alloc (Nat.le_refl _) _, fun q h => by cases h; exact Nat.le_refl _⟩
    rw [cell_of_row _ W.heap.size j _ _ (0, 0) (heap_alloc_new W.drew _), Array.getElem?_append_left (by simpa using (List.getElem?_eq_some_iff.1 hu).1)]
    simpa using hu

/-- The same instructions, in memory of their own. -/
theorem copyCode_any (A : Option Addr) (cap : Nat) (l : List Inst) (w : World) (hI : InsIn w A l) (hl : l.length * 56 ≤ 140737488355328) :
    Calls Tryz.prog 6 #[.slice A l.length cap] w fun e w' => ∃ B c, e = .returned (.slice B l.length c) ∧ InsIn w' B l ∧ Below w.heap.size w w' ∧ (∀ q, B = some q → w.heap.size ≤ q.block) := by
  have HI := Lib.hid hI
  obtain ⟨N, hN⟩ : ∃ N, N = l.length := ⟨_, rfl⟩
  obtain ⟨B, c, W1, hr, hI1, hb1, hfr⟩ := run_copyIns A cap l w hI hl 22
  have HR := Lib.hid hr
  rw [← hN] at HR ⊢
  have FIN := Lib.hid (show ∃ B' c', Ending.returned (.slice B N c) = Ending.returned (.slice B' N c') ∧ InsIn W1 B' l ∧ Below w.heap.size w W1 ∧ (∀ q, B' = some q → w.heap.size ≤ q.block) from ⟨_, _, rfl, hI1, hb1, hfr⟩)
  clear hI hl hN hr hI1 hb1 hfr
  go_enter Tryz.func6, Tryz.ntmps6
  go_wp2_with (at_builtin; refine Lib.wpList_append_run _ rfl _ _ 22 22 rfl _ _ rfl rfl _ _ HR.out ?_)
  go_ret
  exact FIN.out
end Go.Proofs.YtneajiglkiffjaaGreatDoor

namespace Go.Proofs.YtneajiglkiffjaaGreatDoor
open Go.RowKit
set_option linter.unusedVariables false

set_option maxHeartbeats 1000000 in
/-- The same instructions twice are the same. -/
theorem code_same (A B : Option Addr) (cap cap2 : Nat) (l : List Inst) (w : World) (hl : l.length < 4611686018427387904) (hA : InsIn w A l) (hB : InsIn w B l) :
    Calls Tryz.prog 10 #[.slice A l.length cap, .slice B l.length cap2] w fun e w' => e = .returned (.bool true) ∧ Below w.heap.size w w' := by
  obtain ⟨N, hN⟩ : ∃ N, N = l.length := ⟨_, rfl⟩
  have HA := Lib.hid hA
  have HB := Lib.hid hB
  have HN := Lib.hid hN
  rw [← hN] at hl ⊢
  clear hN hA hB
  go_enter Tryz.func10, Tryz.ntmps10
  go_wp2_with fail
  go_loopw [5] (fun vi wr => ∃ i : Nat, i ≤ N ∧ vi = .int .i64 i ∧ Hid (Below w.heap.size w wr)) (fun vi _ => N - (intOf vi).toNat)
  case atStart => exact ⟨0, by omega, rfl, Lib.hid (Below.refl _ _)⟩
  case round =>
    obtain ⟨i, hi, rfl, hbl⟩ := hrel
    by_cases hlt : i < N
    · obtain ⟨p, rfl, hp, c0, c1, c2, c3, c4, c5, c6⟩ := (HA.out.below hbl.out) i (by rw [← HN.out]; exact hlt)
      obtain ⟨p', rfl, hp', d0, d1, d2, d3, d4, d5, d6⟩ := (HB.out.below hbl.out) i (by rw [← HN.out]; exact hlt)
      generalize l.getD i inst0 = x at c0 c1 c2 c3 c4 c5 c6 d0 d1 d2 d3 d4 d5 d6
      have BD := Lib.hid (fun n => (⟨hbl.out.os, hbl.out.tape, hbl.out.output, hbl.out.size, hbl.out.block⟩ : Below w.heap.size w (wr.drewN n)))
      go_upto_region 6 with fail
      go_quiet (fail)
      go_wp2_with fail
      go_roundw
      case rel => exact ⟨i + 1, by omega, by go_num, Lib.hid (BD.out _)⟩
      case measure => simp [intOf]; omega
    · have FIN := Lib.hid hbl.out
      go_wp2_with fail
      go_ret
      exact ⟨rfl, FIN.out⟩
end Go.Proofs.YtneajiglkiffjaaGreatDoor

namespace Go.Proofs.YtneajiglkiffjaaGreatDoor
open Go.RowKit
set_option linter.unusedVariables false

/-- Where 6 stands first. -/
def idxSix (ks : List Nat) : Int := match ks.findIdx? (· == 6) with | some i => i | none => -1
theorem idxSix_at (ks : List Nat) (i : Nat) (hi : i < ks.length) (h0 : ∀ t, t < i → ks.getD t 0 ≠ 6) (h : ks.getD i 0 = 6) : idxSix ks = i := by
  unfold idxSix
  have : ks.findIdx? (· == 6) = some i := by
    rw [List.findIdx?_eq_some_iff_getElem]
    refine ⟨hi, ?_, fun j hj => ?_⟩
    · rw [List.getD_eq_getElem?_getD, List.getElem?_eq_getElem hi] at h; simpa using h
    · have := h0 j hj
      rw [List.getD_eq_getElem?_getD, List.getElem?_eq_getElem (by omega)] at this
      simpa using this
  rw [this]
theorem idxSix_none (ks : List Nat) (h0 : ∀ t, t < ks.length → ks.getD t 0 ≠ 6) : idxSix ks = -1 := by
  unfold idxSix
  have : ks.findIdx? (· == 6) = none := by
    rw [List.findIdx?_eq_none_iff]
    intro x hx
    obtain ⟨t, ht, rfl⟩ := List.mem_iff_getElem.1 hx
    have := h0 t ht
    rw [List.getD_eq_getElem?_getD, List.getElem?_eq_getElem ht] at this
    simpa using this
  rw [this]
theorem idxSix_mem (ks : List Nat) : decide (0 ≤ idxSix ks) = ks.contains 6 := by
  unfold idxSix
  cases h : ks.findIdx? (· == 6) with
  | none =>
    rw [List.findIdx?_eq_none_iff] at h
    have : ks.contains 6 = false := by
      rw [Bool.eq_false_iff]; intro hc
      have := h 6 (List.contains_iff_mem.1 hc)
      simp at this
    rw [this]; rfl
  | some i =>
    rw [List.findIdx?_eq_some_iff_getElem] at h
    obtain ⟨h1, h2, _⟩ := h
    have : ks.contains 6 = true := by
      rw [List.contains_iff_mem]
      have h3 : ks[i] = 6 := by simpa using h2
      rw [← h3]; exact List.getElem_mem _
    rw [this]; simp
set_option maxHeartbeats 1000000 in
theorem opIndex_any (A : Option Addr) (cap : Nat) (ks : List Nat) (w : World) (hk : KindsIn w A ks) (hl : ks.length ≤ 3) : Calls Tryz.prog 59 #[.slice A ks.length cap, .int .i64 6] w fun e w' => e = .returned (.int .i64 (idxSix ks)) ∧ w = w' := by
  obtain ⟨r, hr⟩ : ∃ r, r = idxSix ks := ⟨_, rfl⟩
  have HR := Lib.hid hr
  rw [← hr]
  have HK := Lib.hid hk
  obtain ⟨n, hn⟩ : ∃ n, n = ks.length := ⟨_, rfl⟩
  have HN := Lib.hid hn
  rw [← hn] at hl ⊢
  clear hr hk hn
  go_enter Tryz.func59, Tryz.ntmps59
  go_wp2_with fail
  go_loop [8] (fun vi => ∃ i : Nat, i ≤ n ∧ vi = .int .i64 i ∧ Hid (∀ t, t < i → ks.getD t 0 ≠ 6)) (fun vi => n - (intOf vi).toNat)
  case atStart => exact ⟨0, by omega, rfl, Lib.hid (fun t ht => by omega)⟩
  case round =>
    obtain ⟨i, hi, rfl, hno⟩ := hrel
    by_cases hlt : i < n
    · obtain ⟨b, rfl, hb, kc⟩ := HK.out i (by rw [← HN.out]; exact hlt)
      by_cases h6 : ks.getD i 0 = 6
      · have FIN := Lib.hid (show r = (i : Int) from by rw [HR.out]; exact idxSix_at ks i (by rw [← HN.out]; exact hlt) hno.out h6)
        rw [h6] at kc
        have kc2 : w.cell? ⟨b, i, none⟩ = some (.int .i64 6) := kc
        clear kc h6
        go_wp2_with fail
        go_ret
        exact ⟨by rw [FIN.out]; rfl, rfl⟩
      · have NX := Lib.hid (show ∀ t, t < i + 1 → ks.getD t 0 ≠ 6 from fun t ht => by
          by_cases hti : t < i
          · exact hno.out t hti
          · obtain rfl : t = i := by omega
            exact h6)
        have hne : ((6 : Int) == ((ks.getD i 0 : Nat) : Int)) = false := beq_eq_false_iff_ne.2 (fun e => h6 (by omega))
        generalize ((ks.getD i 0 : Nat) : Int) = k at kc hne
        clear h6
        go_wp2_with fail
        go_round
        case rel => exact ⟨i + 1, by omega, by go_num, NX⟩
        case measure => simp [intOf]; omega
    · have FIN := Lib.hid (show r = -1 from by rw [HR.out]; exact idxSix_none ks (fun t ht => hno.out t (by have := HN.out; omega)))
      go_wp2_with fail
      go_ret
      exact ⟨by rw [FIN.out]; rfl, rfl⟩
set_option maxHeartbeats 1000000 in
theorem hasSix_any (A : Option Addr) (cap : Nat) (ks : List Nat) (w : World) (hk : KindsIn w A ks) (hl : ks.length ≤ 3) : Calls Tryz.prog 35 #[.slice A ks.length cap, .int .i64 6] w fun e w' => e = .returned (.bool (ks.contains 6)) ∧ w = w' := by
  have IX := Lib.hid (opIndex_any A cap ks w hk hl)
  have FIN := Lib.hid (idxSix_mem ks)
  generalize idxSix ks = r at IX FIN
  generalize ks.contains 6 = q at FIN ⊢
  obtain ⟨n, hn⟩ : ∃ n, n = ks.length := ⟨_, rfl⟩
  rw [← hn] at IX ⊢
  clear hk hl hn
  go_enter Tryz.func35, Tryz.ntmps35
  go_wp2_with fail
  go_at_call 59
  refine IX.out.mono ?_
  rintro e w' ⟨rfl, rfl⟩
  go_wp2_with fail
  go_ret
  exact ⟨by rw [← FIN.out]; rfl, rfl⟩
theorem info_bool : (Tryz.prog.info? 4).map (fun i => (i.zero, i.size, i.bytes)) = some (some (.bool false), 1, 1) := by kernel_rfl
theorem make_bools (c : Nat) (hc : c ≤ 65536) (W : World) : (Instr.makeSlice 51 (.int .i64 (c : Int)) (.int .i64 (c : Int))).run Tryz.prog W = .ok (.slice (some ⟨W.heap.size, 0, none⟩) c c) (W.alloc (.cells (madeCells #[.bool false] c) 4)) := by
  obtain ⟨i, hi, hz, hs, hb⟩ := info_parts info_bool
  have := run_make (P := Tryz.prog) W 51 4 i _ Tryz.underlying51 hi hz .i64 .i64 c c (by omega) (by omega) (by rw [hb]; omega) (by omega)
  rw [hs] at this
  simp only [Int.toNat_natCast, Nat.mul_one] at this
  exact this
/-- So many truth values. -/
def boolsT (f : Nat → Bool) (n : Nat) : List Value := (List.range n).map fun j => Value.bool (f j)
theorem boolsT_len (f : Nat → Bool) (n : Nat) : (boolsT f n).length = n := by simp [boolsT]
theorem boolsT_get (f : Nat → Bool) (n j : Nat) (h : j < (boolsT f n).length) : (boolsT f n)[j] = .bool (f j) := by simp [boolsT]
theorem made_bools (l : List Inst) (n : Nat) : madeCells #[.bool false] n = (boolsT (targetB (l.take 0)) n).toArray := by
  apply Array.ext
  · simp [madeCells, boolsT]
  · intro j h1 h2
    simp [madeCells, boolsT, targetB, Nat.mod_one]
theorem boolsT_set (f : Nat → Bool) (n v : Nat) : (boolsT f n).set v (.bool true) = boolsT (fun j => f j || decide (v = j)) n := by
  apply List.ext_getElem
  · simp [boolsT]
  · intro j h1 h2
    rw [List.getElem_set]
    by_cases e : v = j
    · subst e; simp [boolsT]
    · rw [if_neg e]; simp [boolsT, e]
theorem targetB_step (l : List Inst) (i : Nat) (hi : i < l.length) (j : Nat) : targetB (l.take (i + 1)) j = (targetB (l.take i) j || ((formOf (l.getD i inst0).op.toNat).contains 6 && decide ((l.getD i inst0).v = (j : Int)))) := by
  unfold targetB
  have e : l.take (i + 1) = l.take i ++ [l.getD i inst0] := by
    rw [List.take_add_one, List.getD_eq_getElem?_getD, List.getElem?_eq_getElem hi]; rfl
  rw [e, List.any_append]; simp
set_option maxHeartbeats 2000000 in
theorem targetsOf_any (A : Option Addr) (cap : Nat) (l : List Inst) (w : World) (hl : l.length ≤ 2048) (hI : InsIn w A l) (hF : ∀ i, i < l.length → Fine (l.getD i inst0) (l.length : Int)) :
    Calls Tryz.prog 17 #[.slice A l.length cap] w fun e w' => ∃ g, e = .returned (.slice (some ⟨g, 0, none⟩) l.length l.length) ∧ w.heap.size ≤ g ∧ Row w' g (boolsT (targetB l) l.length) ∧ Below w.heap.size w w' := by
  obtain ⟨n, hn⟩ : ∃ n, n = l.length := ⟨_, rfl⟩
  have mk := make_bools n (by omega)
  rw [made_bools l] at mk
  have HN := Lib.hid hn
  rw [← hn] at hl hF ⊢
  have HI := Lib.hid hI
  have HF := Lib.hid hF
  have R0 := Lib.hid (Row.new w (boolsT (targetB (l.take 0)) n) 4)
  have OPS := Lib.hid (fun op W => opsOf_any op W)
  have TK := Lib.hid (show l.take n = l from by rw [hn]; simp)
  have HB0 := Lib.hid (show Below w.heap.size w (w.alloc (.cells (boolsT (targetB (l.take 0)) n).toArray 4)) from (Below.refl _ _).alloc (Nat.le_refl _) _)
  obtain ⟨B0, hB0⟩ : ∃ b, b = (boolsT (targetB (l.take 0)) n).toArray := ⟨_, rfl⟩
  rw [← hB0] at mk HB0 R0
  clear hn hI hF hB0
  go_enter Tryz.func17, Tryz.ntmps17
  go_wp2_with fail
  obtain ⟨G, hG⟩ : ∃ G, G = w.heap.size := ⟨_, rfl⟩
  rw [← hG] at R0
  have HG := Lib.hid hG
  simp only [← hG]
  clear hG mk
  go_loopw [11] (fun vi wr => ∃ i : Nat, i ≤ n ∧ vi = .int .i64 i ∧ Hid (Row wr G (boolsT (targetB (l.take i)) n)) ∧ Hid (Below w.heap.size w wr)) (fun vi _ => n - (intOf vi).toNat)
  case atStart => exact ⟨0, by omega, rfl, R0, HB0⟩
  case round =>
    obtain ⟨i, hi, rfl, RW, HBW⟩ := hrel
    by_cases hlt : i < n
    · obtain ⟨p, rfl, hp, c0, c1, c2, c3, c4, c5, c6⟩ := (HI.out.below HBW.out) i (by rw [← HN.out]; exact hlt)
      have F := HF.out i hlt
      have TS := Lib.hid (targetB_step l i (by rw [← HN.out]; exact hlt))
      obtain ⟨x, hx⟩ : ∃ x, x = l.getD i inst0 := ⟨_, rfl⟩
      rw [← hx] at c0 c1 c2 c3 c4 c5 c6 F TS
      clear hx
      have FF := Lib.hid F
      clear F
      obtain ⟨W0, hW0⟩ : ∃ W, W = wr.alloc (.cells #[.int .i64 x.op, .int .i64 x.a, .int .i64 x.b, .int .i64 x.c, .int .u64 x.v, .int .i64 x.m, .int .i64 x.wh] 44) := ⟨_, rfl⟩
      have hBx : Below wr.heap.size wr W0 := by rw [hW0]; exact (Below.refl _ _).alloc (Nat.le_refl _) _
      have hX0 : wr.heap.size < W0.heap.size := by rw [hW0]; simp
      have hRx : Row W0 wr.heap.size [.int .i64 x.op, .int .i64 x.a, .int .i64 x.b, .int .i64 x.c, .int .u64 x.v, .int .i64 x.m, .int .i64 x.wh] := by rw [hW0]; exact Row.new wr _ _
      have OP := Lib.hid (OPS.out x.op W0)
      obtain ⟨ks, hks⟩ : ∃ ks, ks = formOf x.op.toNat := ⟨_, rfl⟩
      have hk3 : ks.length ≤ 3 := by
        rw [hks]
        have : ∀ f ∈ formsL, f.length ≤ 3 := by decide
        exact this _ FF.out.fm
      have PL := Lib.hid (show 6 ∈ ks → 0 ≤ x.v ∧ x.v < n from fun h6 => ⟨FF.out.v.1, FF.out.pl (by rw [← hks]; exact h6)⟩)
      rw [← hks] at TS OP
      have gG := RW.out.lt
      have RW0 := Lib.hid (RW.out.below hBx gG)
      have HBW0 := Lib.hid (HBW.out.trans (hBx.mono HBW.out.size))
      have HRX := Lib.hid hRx
      rw [hW0] at OP RW0 HBW0 HRX hX0
      obtain ⟨X, hX⟩ : ∃ X, X = wr.heap.size := ⟨_, rfl⟩
      rw [← hX] at HRX hX0 gG
      have GX : G ≠ X := by omega
      have HGX := Lib.hid GX
      clear hks hW0 FF hBx hRx GX
      go_wp2_with fail
      go_at_call 36
      refine OP.out.mono ?_
      rintro e w1 ⟨A2, cap2, rfl, KI, KB, hb1⟩
      have HS := Lib.hid (hasSix_any A2 cap2 ks w1 KI hk3)
      have RX1 := Lib.hid (HRX.out.below hb1 hX0)
      have RW1 := Lib.hid (RW0.out.below hb1 (by have := RW0.out.lt; exact this))
      have HB1 := Lib.hid (HBW0.out.trans (hb1.mono HBW0.out.size))
      have PQ := Lib.hid (show ks.contains 6 = true → 0 ≤ x.v ∧ x.v < n from fun h => PL.out (List.contains_iff_mem.1 h))
      obtain ⟨nk, hnk⟩ : ∃ nk, nk = ks.length := ⟨_, rfl⟩
      rw [← hnk] at HS ⊢
      generalize ks.contains 6 = q at HS TS PQ
      clear KI KB hb1 OP hX0 HRX RW0 HBW0 hnk hk3 PL c0 c1 c2 c3 c4 c5 c6
      rw [← hX]
      clear hX
      go_wp2_with fail
      go_at_call 35
      refine HS.out.mono ?_
      rintro e w2 ⟨rfl, rfl⟩
      have gl := boolsT_len (targetB (l.take i)) n
      cases q with
      | true =>
        obtain ⟨v0, vn⟩ := PQ.out rfl
        obtain ⟨v, hv⟩ : ∃ v : Nat, x.v = v := ⟨x.v.toNat, by omega⟩
        have hvn : v < n := by omega
        have y4 := RX1.out.cell 4 (by simp)
        simp only [List.getElem_cons_zero, List.getElem_cons_succ] at y4
        rw [hv] at y4 TS
        have gv := RW1.out.cell v (by rw [gl]; exact hvn)
        rw [boolsT_get] at gv
        have fv := RW1.out.free v (by rw [gl]; exact hvn)
        have NX := Lib.hid (show Row (w1.setCell ⟨G, v, none⟩ (.bool true)) G (boolsT (targetB (l.take (i + 1))) n) from by
          have := RW1.out.set v (by rw [gl]; exact hvn) (.bool true)
          rw [boolsT_set] at this
          rw [show targetB (l.take (i + 1)) = fun j => targetB (l.take i) j || decide (v = j) from by
            funext j; rw [TS.out j, Bool.true_and]; congr 1; simp; omega]
          exact this)
        have NB := Lib.hid (HB1.out.setCell (p := ⟨G, v, none⟩) (by rw [HG.out]; exact Nat.le_refl _) (.bool true))
        have v1 : (v : Int) < (n : Int) := by omega
        clear v0 vn hv PQ TS gl
        go_wp2_with fail
        go_roundw
        case rel => exact ⟨i + 1, by omega, by go_num, NX, NB⟩
        case measure => simp [intOf]; omega
      | false =>
        have NX := Lib.hid (show Row w1 G (boolsT (targetB (l.take (i + 1))) n) from by
          rw [show targetB (l.take (i + 1)) = targetB (l.take i) from by
            funext j; rw [TS.out j, Bool.false_and, Bool.or_false]]
          exact RW1.out)
        clear PQ TS gl
        go_wp2_with fail
        go_roundw
        case rel => exact ⟨i + 1, by omega, by go_num, NX, HB1⟩
        case measure => simp [intOf]; omega
    · obtain rfl : i = n := by omega
      have RF := RW.out
      rw [TK.out] at RF
      have FIN := Lib.hid RF
      clear RF
      go_wp2_with fail
      go_ret
      exact ⟨G, rfl, by rw [HG.out]; exact Nat.le_refl _, FIN.out, HBW.out⟩
end Go.Proofs.YtneajiglkiffjaaGreatDoor

namespace Go.Proofs.YtneajiglkiffjaaGreatDoor
open Go.RowKit Go.Extern.Stop Go.Stop Go.Extern
set_option linter.unusedVariables false

set_option maxHeartbeats 400000 in
theorem as_nil (t : Value) (w : World) : Calls Tryz.prog 27 #[.nilIface, .iface 71 t] w fun e w' => e = .returned (.bool false) ∧ w = w' := by
  go_enter Tryz.func27, Tryz.ntmps27
  go_wp2
  go_ret
  exact ⟨rfl, rfl⟩
/-- What errors.As leaves at a place: the target told, nothing else turned. -/
theorem as_hit_only (e : Addr) (tb : Nat) (old : Value) (w : World) (hg : ErrType w) (ht0 : w.cell? ⟨tb, 0, none⟩ = some old) (hf0 : w.frozen? ⟨tb, 0, none⟩ = false) :
    Calls Tryz.prog 27 #[.iface 69 (.pointer (some e)), .iface 71 (.pointer (some ⟨tb, 0, none⟩))] w fun ev w' => ev = .returned (.bool true) ∧ w'.cell? ⟨tb, 0, none⟩ = some (.pointer (some e)) ∧ Only [tb] w w' := by
  have htl : tb < w.heap.size := cell_lt ht0
  refine (as_hit e ⟨tb, 0, none⟩ old w hg ht0 hf0).mono ?_
  rintro ev w' ⟨rfl, rfl⟩
  refine ⟨rfl, ?_, ?_⟩
  · refine World.cell?_setCell_same _ _ _ (u := old) ?_
    rw [World.cell?_alloc_lt _ _ _ (by simp; omega), World.cell?_alloc_lt _ _ _ (by simp; omega), World.cell?_alloc_lt _ _ _ (by simp; omega), World.cell?_alloc_lt _ _ _ htl]; exact ht0
  · exact (((((Only.refl [tb] w).alloc _).alloc _).alloc _).alloc _).setCell (.inl (by simp)) _
/-- What the target and the error are behind errors.As. -/
theorem from_at {w w1 w2 : World} {x : Nat} {n k : Int} (hE : ErrAt w1 (.iface 69 (.pointer (some ⟨x, 0, none⟩))) [(codeS, n)] k) (hb : Below w.heap.size w w1) (ht : w1.cell? ⟨w.heap.size, 0, none⟩ = some (.pointer none)) (hO : Only [w.heap.size] w1 w2) :
    w2.cell? ⟨x, 1, none⟩ = some (.int .i64 n) ∧ ErrAt w2 (.iface 69 (.pointer (some ⟨x, 0, none⟩))) [(codeS, n)] k ∧ Below w.heap.size w w2 := by
  cases hE with
  | place _ _ _ inner _ _ h0 h1 h2 h3 =>
  cases h3
  have hx : x ∉ [w.heap.size] := by
    intro hm
    obtain rfl : x = w.heap.size := by simpa using hm
    rw [ht] at h0; cases h0
  have kc : ∀ (o : Nat) (u : Value), w1.cell? ⟨x, o, none⟩ = some u → w2.cell? ⟨x, o, none⟩ = some u := fun o u h =>
    (World.cell?_of_block (w := w1) (w' := w2) (a := ⟨x, o, none⟩) (hO.block x (cell_lt h) hx)).trans h
  exact ⟨kc _ _ h1, .place _ _ _ _ _ _ (kc _ _ h0) (kc _ _ h1) (kc _ _ h2) (.kind k), hb.trans (hO.below (by simp) hb.size)⟩

set_option maxHeartbeats 1000000 in
theorem placeIn_nil (n : Int) (w : World) : Calls Tryz.prog 33 #[.nilIface, .int .i64 n] w fun e w' => e = .returned (.int .i64 n) ∧ Below w.heap.size w w' := by
  have AS := Lib.hid (fun t W => as_nil t W)
  have HB := Lib.hid (show Below w.heap.size w (w.alloc (.cells #[.pointer none] 69)) from (Below.refl _ _).alloc (Nat.le_refl _) _)
  go_enter Tryz.func33, Tryz.ntmps33
  go_wp2_with fail
  go_at_call 27
  refine (AS.out _ _).mono ?_
  rintro e w' ⟨rfl, rfl⟩
  go_wp2_with fail
  go_ret
  exact ⟨rfl, HB.out⟩
set_option maxHeartbeats 1000000 in
theorem placeIn_at (x : Nat) (m k n : Int) (w : World) (hE : ErrType w) (hA : ErrAt w (.iface 69 (.pointer (some ⟨x, 0, none⟩))) [(codeS, m)] k) : Calls Tryz.prog 33 #[.iface 69 (.pointer (some ⟨x, 0, none⟩)), .int .i64 n] w fun e w' => e = .returned (.int .i64 m) ∧ Below w.heap.size w w' := by
  have hb : Below w.heap.size w (w.alloc (.cells #[.pointer none] 69)) := (Below.refl _ _).alloc (Nat.le_refl _) _
  have r0 := Row.new w [.pointer none] 69
  have t0 := r0.cell 0 (by simp)
  have tf := r0.free 0 (by simp)
  simp only [List.getElem_cons_zero] at t0
  have hA0 := errAt_below hb (Nat.le_refl _) hA
  have AS := Lib.hid (as_hit_only ⟨x, 0, none⟩ w.heap.size _ _ (errType_below hb hE (cell_lt hE)) t0 tf)
  have FA := Lib.hid (fun w2 hO => from_at (w2 := w2) hA0 hb t0 hO)
  clear hb r0 t0 tf hA0 hE hA
  go_enter Tryz.func33, Tryz.ntmps33
  go_wp2_with fail
  go_at_call 27
  refine AS.out.mono ?_
  rintro e w2 ⟨rfl, t2, hOn⟩
  obtain ⟨c1, _, hb2⟩ := FA.out w2 hOn
  have HB2 := Lib.hid hb2
  clear hOn hb2
  go_wp2_with fail
  go_ret
  exact ⟨rfl, HB2.out⟩
end Go.Proofs.YtneajiglkiffjaaGreatDoor

namespace Go.Proofs.YtneajiglkiffjaaGreatDoor
open Go.RowKit
set_option linter.unusedVariables false

theorem flat_cons (x : Inst) (l : List Inst) : flatCs (x :: l) = x.cs ++ flatCs l := by simp [flatCs]
theorem set_behind (a b : List Value) (h : a.length = 7) (i k : Nat) (u : Value) : (a ++ b).set ((i + 1) * 7 + k) u = a ++ b.set (i * 7 + k) u := by
  rw [List.set_append, if_neg (by omega)]
  congr 2; omega
theorem set_behind0 (a b : List Value) (h : a.length = 7) (i : Nat) (u : Value) : (a ++ b).set ((i + 1) * 7) u = a ++ b.set (i * 7) u := set_behind a b h i 0 u
theorem flat_op : ∀ (l : List Inst) (i : Nat) (o : Int), i < l.length → (flatCs l).set (i * 7) (.int .i64 o) = flatCs (l.set i { l.getD i inst0 with op := o })
  | [], i, o, h => by simp at h
  | x :: l, 0, o, h => by simp [flatCs, Inst.cs]
  | x :: l, i + 1, o, h => by
    have ih := flat_op l i o (by simpa using h)
    rw [flat_cons, set_behind0 x.cs _ rfl, ih, List.set_cons_succ, flat_cons]
    simp
theorem flat_seven : ∀ (l : List Inst) (i : Nat) (y : Inst), i < l.length → (((((((flatCs l).set (i * 7) (.int .i64 y.op)).set (i * 7 + 1) (.int .i64 y.a)).set (i * 7 + 2) (.int .i64 y.b)).set (i * 7 + 3) (.int .i64 y.c)).set (i * 7 + 4) (.int .u64 y.v)).set (i * 7 + 5) (.int .i64 y.m)).set (i * 7 + 6) (.int .i64 y.wh) = flatCs (l.set i y)
  | [], i, y, h => by simp at h
  | x :: l, 0, y, h => by simp [flatCs, Inst.cs]
  | x :: l, i + 1, y, h => by
    have ih := flat_seven l i y (by simpa using h)
    rw [flat_cons, set_behind0 x.cs _ rfl, set_behind x.cs _ rfl, set_behind x.cs _ rfl, set_behind x.cs _ rfl, set_behind x.cs _ rfl, set_behind x.cs _ rfl, set_behind x.cs _ rfl, ih, List.set_cons_succ, flat_cons]
theorem made_ins (n : Nat) : madeCells #[.int .i64 0, .int .i64 0, .int .i64 0, .int .i64 0, .int .u64 0, .int .i64 0, .int .i64 0] (n * 7) = (flatCs (List.replicate n inst0)).toArray := by
  apply Array.ext'
  apply List.ext_getElem?
  intro j
  by_cases hj : j < n * 7
  · have e : j = j / 7 * 7 + j % 7 := by omega
    have hg : (flatCs (List.replicate n inst0))[j]? = inst0.cs[j % 7]? := by
      conv => lhs; rw [e]
      rw [flatCs_get _ _ _ (by rw [List.length_replicate]; omega) (by omega)]
      congr 2
      rw [List.getD_eq_getElem?_getD, List.getElem?_replicate, if_pos (by omega)]; rfl
    simp only []
    rw [hg, Array.getElem?_toList]
    unfold madeCells
    rw [Array.getElem?_map, Array.getElem?_range, if_pos hj]
    have h7 : j % 7 < 7 := by omega
    show some (#[Value.int .i64 0, .int .i64 0, .int .i64 0, .int .i64 0, .int .u64 0, .int .i64 0, .int .i64 0][j % 7]!) = _
    generalize j % 7 = t at h7
    match t, h7 with
    | 0, _ | 1, _ | 2, _ | 3, _ | 4, _ | 5, _ | 6, _ => rfl
  · rw [List.getElem?_eq_none (by simp [size_madeCells]; omega), List.getElem?_eq_none (by simp [flatCs_len]; omega)]
/-- The first i are told, the others empty. -/
def partT (f : Inst → Inst) (l : List Inst) (i : Nat) : List Inst := (l.take i).map f ++ List.replicate (l.length - i) inst0
theorem partT_len (f : Inst → Inst) (l : List Inst) (i : Nat) (h : i ≤ l.length) : (partT f l i).length = l.length := by simp [partT]; omega
theorem partT_zero (f : Inst → Inst) (l : List Inst) : partT f l 0 = List.replicate l.length inst0 := by simp [partT]
theorem partT_all (f : Inst → Inst) (l : List Inst) : partT f l l.length = l.map f := by simp [partT]
theorem partT_at (f : Inst → Inst) (l : List Inst) (i : Nat) (h : i < l.length) : (partT f l i).getD i inst0 = inst0 := by
  unfold partT
  rw [List.getD_eq_getElem?_getD, List.getElem?_append_right (by rw [List.length_map, List.length_take]; omega), List.getElem?_replicate]
  split <;> rfl
theorem partT_step (f : Inst → Inst) (l : List Inst) (i : Nat) (h : i < l.length) (y : Inst) (hy : f (l.getD i inst0) = y) : (partT f l i).set i y = partT f l (i + 1) := by
  unfold partT
  have e : l.take (i + 1) = l.take i ++ [l.getD i inst0] := by
    rw [List.take_add_one, List.getD_eq_getElem?_getD, List.getElem?_eq_getElem h]; rfl
  have hl : ((l.take i).map f).length = i := by simp; omega
  rw [List.set_append, if_neg (by omega), hl, Nat.sub_self, e, List.map_append, List.append_assoc]
  congr 1
  rw [show l.length - i = (l.length - (i + 1)) + 1 by omega, List.replicate_succ, List.set_cons_zero]
  subst hy
  simp
def retI : Inst := { inst0 with op := 16 }
def callP (x : Inst) : Inst := if x.op = 22 then x else retI
def otherP (x : Inst) : Inst := if x.op = 22 then retI else x
theorem row_ins {W : World} {g : Nat} {c : List Inst} (h : Row W g (flatCs c)) : InsIn W (some ⟨g, 0, none⟩) c := fun i hi => by
  have e : (⟨g, 0, none⟩ : Addr).add (i * 7) = ⟨g, i * 7, none⟩ := by unfold Addr.add; split <;> simp_all
  have k : ∀ k u, k < 7 → (c.getD i inst0).cs[k]? = some u → W.cell? ⟨g, i * 7 + k, none⟩ = some u := fun k u hk hu => by
    have hl : i * 7 + k < (flatCs c).length := by rw [flatCs_len]; omega
    rw [h.cell (i * 7 + k) hl]
    rw [← flatCs_get c i k hi hk, List.getElem?_eq_getElem hl] at hu
    exact hu
  exact ⟨_, rfl, h.lt, by rw [e]; exact k 0 _ (by omega) rfl, by rw [e]; exact k 1 _ (by omega) rfl, by rw [e]; exact k 2 _ (by omega) rfl, by rw [e]; exact k 3 _ (by omega) rfl, by rw [e]; exact k 4 _ (by omega) rfl, by rw [e]; exact k 5 _ (by omega) rfl, by rw [e]; exact k 6 _ (by omega) rfl⟩
/-- The place that a word of Check's leaves. -/
def plRes (r : Option (Int × Int)) (n : Int) : Int := match r with | some x => x.1 | none => n
def PlOk (W : World) (E : Value) (n r : Int) : Prop := ∀ W', Below W.heap.size W W' → ErrType W' → Calls Tryz.prog 33 #[E, .int .i64 n] W' fun e w' => e = .returned (.int .i64 r) ∧ Below W'.heap.size W' w'
theorem pl_ok {r : Option (Int × Int)} {w w' : World} {e : Ending} {n : Int} (h : EPost (r.map fun x => ([(codeS, x.1)], x.2)) w e w') : ∃ E, e = .returned E ∧ PlOk w' E n (plRes r n) ∧ Below w.heap.size w w' := by
  cases r with
  | none => exact ⟨_, h.1, fun W' _ _ => placeIn_nil n W', h.2⟩
  | some x =>
    obtain ⟨b, e1, e2, e3⟩ := h
    exact ⟨_, e1, fun W' hW hE => placeIn_at b x.1 x.2 n W' hE (errAt_below hW (Nat.le_refl _) e2), e3⟩
theorem make_ins2 (c : Nat) (hc : c ≤ 65536) (W : World) : (Instr.makeSlice 22 (.int .i64 (c : Int)) (.int .i64 (c : Int))).run Tryz.prog W = .ok (.slice (some ⟨W.heap.size, 0, none⟩) c c)
    (W.alloc (.cells (flatCs (List.replicate c inst0)).toArray 44)) := by
  obtain ⟨i, hi, hz, hs, hb⟩ := info_parts info_ins
  have := run_make (P := Tryz.prog) W 22 44 i _ Tryz.underlying22 hi hz .i64 .i64 c c (by omega) (by omega) (by rw [hb]; omega) (by omega)
  rw [hs] at this
  simp only [Int.toNat_natCast] at this
  rw [← made_ins]
  exact this
theorem row_seven' {W : World} {g : Nat} {c : List Inst} {i : Nat} (h : Row W g (flatCs c)) (hi : i < c.length) (y : Inst) :
    Row (((((((W.setCell ⟨g, i * 7, none⟩ (.int .i64 y.op)).setCell ⟨g, i * 7 + 1, none⟩ (.int .i64 y.a)).setCell ⟨g, i * 7 + 2, none⟩ (.int .i64 y.b)).setCell ⟨g, i * 7 + 3, none⟩ (.int .i64 y.c)).setCell ⟨g, i * 7 + 4, none⟩ (.int .u64 y.v)).setCell ⟨g, i * 7 + 5, none⟩ (.int .i64 y.m)).setCell ⟨g, i * 7 + 6, none⟩ (.int .i64 y.wh)) g (flatCs (c.set i y)) := by
  have hl : (flatCs c).length = c.length * 7 := flatCs_len c
  rw [← flat_seven c i y hi]
  exact ((((((h.set (i * 7) (by omega) _).set (i * 7 + 1) (by simp; omega) _).set (i * 7 + 2) (by simp; omega) _).set (i * 7 + 3) (by simp; omega) _).set (i * 7 + 4) (by simp; omega) _).set (i * 7 + 5) (by simp; omega) _).set (i * 7 + 6) (by simp; omega) _
theorem row_others {W : World} {g o b : Nat} {vs : List Value} (h : Row W b vs) (hg : b ≠ g) (v0 v1 v2 v3 v4 v5 v6 : Value) :
    Row (((((((W.setCell ⟨g, o, none⟩ v0).setCell ⟨g, o + 1, none⟩ v1).setCell ⟨g, o + 2, none⟩ v2).setCell ⟨g, o + 3, none⟩ v3).setCell ⟨g, o + 4, none⟩ v4).setCell ⟨g, o + 5, none⟩ v5).setCell ⟨g, o + 6, none⟩ v6) b vs :=
  ((((((h.other ⟨g, o, none⟩ hg v0).other ⟨g, o + 1, none⟩ hg v1).other ⟨g, o + 2, none⟩ hg v2).other ⟨g, o + 3, none⟩ hg v3).other ⟨g, o + 4, none⟩ hg v4).other ⟨g, o + 5, none⟩ hg v5).other ⟨g, o + 6, none⟩ hg v6
theorem below_sets {w W : World} {g o : Nat} (h : Below w.heap.size w W) (hg : w.heap.size ≤ g) (v0 v1 v2 v3 v4 v5 v6 : Value) :
    Below w.heap.size w (((((((W.setCell ⟨g, o, none⟩ v0).setCell ⟨g, o + 1, none⟩ v1).setCell ⟨g, o + 2, none⟩ v2).setCell ⟨g, o + 3, none⟩ v3).setCell ⟨g, o + 4, none⟩ v4).setCell ⟨g, o + 5, none⟩ v5).setCell ⟨g, o + 6, none⟩ v6) :=
  ((((((h.setCell hg v0).setCell hg v1).setCell hg v2).setCell hg v3).setCell hg v4).setCell hg v5).setCell hg v6
/-- A row's cells at an instruction. -/
theorem row_at {W : World} {g n i k : Nat} {vs : List Value} (h : Row W g vs) (hl : vs.length = n * 7) (hi : i < n) (hk : k < 7) : ∃ u, W.cell? ⟨g, i * 7 + k, none⟩ = some u ∧ W.frozen? ⟨g, i * 7 + k, none⟩ = false :=
  ⟨_, h.cell (i * 7 + k) (by omega), h.free (i * 7 + k) (by omega)⟩
/-- The place of the first wrong one of this part. -/
def firstP (l : List Inst) (n : Nat) (lib : Bool) : Int := plRes (checkRes (l.map (if lib then otherP else callP)) lib) n
set_option maxHeartbeats 4000000 in
set_option maxRecDepth 100000 in
theorem firstInvalid_any (A : Option Addr) (cap : Nat) (l : List Inst) (w : World) (hl : l.length ≤ 2048) (hI : InsIn w A l) (hO : ∀ i, i < l.length → InsOk (l.getD i inst0)) (hE : ErrType w) :
    Calls Tryz.prog 16 #[.slice A l.length cap] w fun e w' => e = .returned (.int .i64 (min (firstP l l.length false) (firstP l l.length true))) ∧ Below w.heap.size w w' := by
  obtain ⟨r1, hr1⟩ : ∃ r, r = firstP l l.length false := ⟨_, rfl⟩
  obtain ⟨r2, hr2⟩ : ∃ r, r = firstP l l.length true := ⟨_, rfl⟩
  have CK1 := Lib.hid (fun g W (h : InsIn W (some ⟨g, 0, none⟩) (l.map callP)) => check_any (some ⟨g, 0, none⟩) l.length (l.map callP) false W (by simp; omega) h (fun i hi => by
    rw [List.length_map] at hi
    have := hO i hi
    rw [List.getD_eq_getElem?_getD, List.getElem?_map, List.getElem?_eq_getElem hi]
    rw [List.getD_eq_getElem?_getD, List.getElem?_eq_getElem hi] at this
    simp only [Option.map_some, Option.getD_some] at this ⊢
    unfold callP; split
    · exact this
    · exact ⟨by decide, by decide⟩))
  have CK2 := Lib.hid (fun g W (h : InsIn W (some ⟨g, 0, none⟩) (l.map otherP)) => check_any (some ⟨g, 0, none⟩) l.length (l.map otherP) true W (by simp; omega) h (fun i hi => by
    rw [List.length_map] at hi
    have := hO i hi
    rw [List.getD_eq_getElem?_getD, List.getElem?_map, List.getElem?_eq_getElem hi]
    rw [List.getD_eq_getElem?_getD, List.getElem?_eq_getElem hi] at this
    simp only [Option.map_some, Option.getD_some] at this ⊢
    unfold otherP; split
    · exact ⟨by decide, by decide⟩
    · exact this))
  simp only [List.length_map] at CK1 CK2
  have HR1 := Lib.hid (show plRes (checkRes (l.map callP) false) l.length = r1 from by rw [hr1]; rfl)
  have HR2 := Lib.hid (show plRes (checkRes (l.map otherP) true) l.length = r2 from by rw [hr2]; rfl)
  rw [← hr1, ← hr2]
  clear hr1 hr2
  obtain ⟨n, hn⟩ : ∃ n, n = l.length := ⟨_, rfl⟩
  have mk := make_ins2 n (by omega)
  have HN := Lib.hid hn
  rw [← hn] at hl HR1 HR2 CK1 CK2 ⊢
  have HI := Lib.hid hI
  have HEr := Lib.hid hE
  have Z0 := Lib.hid (show flatCs (List.replicate n inst0) = flatCs (partT callP l 0) from by rw [partT_zero, hn])
  have Z1 := Lib.hid (show flatCs (List.replicate n inst0) = flatCs (partT otherP l 0) from by rw [partT_zero, hn])
  obtain ⟨zs, hzs⟩ : ∃ z, z = flatCs (List.replicate n inst0) := ⟨_, rfl⟩
  rw [← hzs] at mk Z0 Z1
  have R1 := Lib.hid (show Row ((w.drew.alloc (.cells zs.toArray 44)).alloc (.cells zs.toArray 44)) w.heap.size zs from (Row.new w.drew zs _).alloc _)
  have R2 := Lib.hid (show Row ((w.drew.alloc (.cells zs.toArray 44)).alloc (.cells zs.toArray 44)) (w.heap.size + 1) zs from by
    have := Row.new (w.drew.alloc (.cells zs.toArray 44)) zs 44
    simpa using this)
  have B2 := Lib.hid (show Below w.heap.size w ((w.drew.alloc (.cells zs.toArray 44)).alloc (.cells zs.toArray 44)) from ((Below.refl _ _).drew.alloc (Nat.le_refl _) _).alloc (by simp) _)
  clear hI hO hE hn hzs
  go_enter Tryz.func16, Tryz.ntmps16
  go_upto_region 1 with fail
  go_cut [3, 4] from 7 to 12 (fun s3 s4 w' => ∃ g1 g2 : Nat, s3 = .slice (some ⟨g1, 0, none⟩) n n ∧ s4 = .slice (some ⟨g2, 0, none⟩) n n ∧ g1 ≠ g2 ∧ w.heap.size ≤ g1 ∧ w.heap.size ≤ g2 ∧ Hid (Row w' g1 zs) ∧ Hid (Row w' g2 zs) ∧ Hid (Below w.heap.size w w'))
  case first =>
   as_aux_lemma =>
    clear CK1 CK2 HR1 HR2 HI HEr Z0 Z1
    go_region
    all_goals
      go_wp2_with fail
      go_meet
      first
        | exact ⟨w.heap.size, w.heap.size + 1, rfl, rfl, by omega, by omega, by omega, R1, R2, B2⟩
        | exact ⟨w.heap.size + 1, w.heap.size, rfl, rfl, by omega, by omega, by omega, R2, R1, B2⟩
  case rest =>
  obtain ⟨g1, g2, rfl, rfl, hne, hg1, hg2, RA, RB, BL⟩ := hcut
  rw [Z0.out] at RA
  rw [Z1.out] at RB
  have HG1 := Lib.hid hg1
  have HG2 := Lib.hid hg2
  have HNE := Lib.hid hne
  clear R1 R2 B2 Z0 Z1 hg1 hg2 hne
  go_wp2_with fail
  go_loopw [15] (fun vi wr => ∃ i : Nat, i ≤ n ∧ vi = .int .i64 i ∧ Hid (Row wr g1 (flatCs (partT callP l i))) ∧ Hid (Row wr g2 (flatCs (partT otherP l i))) ∧ Hid (Below w.heap.size w wr)) (fun vi _ => n - (intOf vi).toNat)
  case atStart => exact ⟨0, by omega, rfl, RA, RB, BL⟩
  case round =>
    obtain ⟨i, hi, rfl, PA, PB, HBW⟩ := hrel
    by_cases hlt : i < n
    · obtain ⟨p, rfl, hp, c0, c1, c2, c3, c4, c5, c6⟩ := (HI.out.below HBW.out) i (by rw [← HN.out]; exact hlt)
      have hil : i < l.length := by rw [← HN.out]; exact hlt
      have la : (flatCs (partT callP l i)).length = n * 7 := by rw [flatCs_len, partT_len _ _ _ (by omega), HN.out]
      have lb : (flatCs (partT otherP l i)).length = n * 7 := by rw [flatCs_len, partT_len _ _ _ (by omega), HN.out]
      have ga := HN.out
      have SA := Lib.hid (fun y (hy : callP (l.getD i inst0) = y) => partT_step callP l i hil y hy)
      have SB := Lib.hid (fun y (hy : otherP (l.getD i inst0) = y) => partT_step otherP l i hil y hy)
      have OA := Lib.hid (show (flatCs (partT callP l i)).set (i * 7) (.int .i64 16) = flatCs ((partT callP l i).set i retI) from by
        have := flat_op (partT callP l i) i 16 (by rw [partT_len _ _ _ (by omega)]; exact hil)
        rw [partT_at _ _ _ hil] at this; exact this)
      have OB := Lib.hid (show (flatCs (partT otherP l i)).set (i * 7) (.int .i64 16) = flatCs ((partT otherP l i).set i retI) from by
        have := flat_op (partT otherP l i) i 16 (by rw [partT_len _ _ _ (by omega)]; exact hil)
        rw [partT_at _ _ _ hil] at this; exact this)
      have LA := Lib.hid (show ((partT callP l i).set i retI).length = n from by rw [List.length_set, partT_len _ _ _ (by omega), HN.out])
      have LB := Lib.hid (show ((partT otherP l i).set i retI).length = n from by rw [List.length_set, partT_len _ _ _ (by omega), HN.out])
      obtain ⟨x, hx⟩ : ∃ x, x = l.getD i inst0 := ⟨_, rfl⟩
      rw [← hx] at c0 c1 c2 c3 c4 c5 c6 SA SB
      have gw1 := PA.out.lt
      have gw2 := PB.out.lt
      obtain ⟨X, hX⟩ : ∃ X, X = wr.heap.size := ⟨_, rfl⟩
      have RX := Lib.hid (show Row (wr.alloc (.cells #[.int .i64 x.op, .int .i64 x.a, .int .i64 x.b, .int .i64 x.c, .int .u64 x.v, .int .i64 x.m, .int .i64 x.wh] 44)) X [.int .i64 x.op, .int .i64 x.a, .int .i64 x.b, .int .i64 x.c, .int .u64 x.v, .int .i64 x.m, .int .i64 x.wh] from by rw [hX]; exact Row.new wr _ _)
      have PA1 := PA.out.alloc (.cells #[.int .i64 x.op, .int .i64 x.a, .int .i64 x.b, .int .i64 x.c, .int .u64 x.v, .int .i64 x.m, .int .i64 x.wh] 44)
      have PB1 := PB.out.alloc (.cells #[.int .i64 x.op, .int .i64 x.a, .int .i64 x.b, .int .i64 x.c, .int .u64 x.v, .int .i64 x.m, .int .i64 x.wh] 44)
      have HBX := Lib.hid (HBW.out.alloc HBW.out.size (.cells #[.int .i64 x.op, .int .i64 x.a, .int .i64 x.b, .int .i64 x.c, .int .u64 x.v, .int .i64 x.m, .int .i64 x.wh] 44))
      obtain ⟨ua, ca, fa⟩ := row_at (k := 0) PA1 la hlt (by omega)
      obtain ⟨ub, cb, fb⟩ := row_at (k := 0) (PB1.other ⟨g1, i * 7, none⟩ HNE.out.symm (.int .i64 16)) lb hlt (by omega)
      rw [Nat.add_zero] at ca fa cb fb
      have QA := Lib.hid (show Row (((wr.alloc (.cells #[.int .i64 x.op, .int .i64 x.a, .int .i64 x.b, .int .i64 x.c, .int .u64 x.v, .int .i64 x.m, .int .i64 x.wh] 44)).setCell ⟨g1, i * 7, none⟩ (.int .i64 16)).setCell ⟨g2, i * 7, none⟩ (.int .i64 16)) g1 (flatCs ((partT callP l i).set i retI)) from by
        have := (PA1.set (i * 7) (by omega) (.int .i64 16)).other ⟨g2, i * 7, none⟩ HNE.out (.int .i64 16)
        rw [OA.out] at this; exact this)
      have QB := Lib.hid (show Row (((wr.alloc (.cells #[.int .i64 x.op, .int .i64 x.a, .int .i64 x.b, .int .i64 x.c, .int .u64 x.v, .int .i64 x.m, .int .i64 x.wh] 44)).setCell ⟨g1, i * 7, none⟩ (.int .i64 16)).setCell ⟨g2, i * 7, none⟩ (.int .i64 16)) g2 (flatCs ((partT otherP l i).set i retI)) from by
        have := (PB1.other ⟨g1, i * 7, none⟩ HNE.out.symm (.int .i64 16)).set (i * 7) (by omega) (.int .i64 16)
        rw [OB.out] at this; exact this)
      have QX := Lib.hid ((RX.out.other ⟨g1, i * 7, none⟩ (by simp only; omega) (.int .i64 16)).other ⟨g2, i * 7, none⟩ (by simp only; omega) (.int .i64 16))
      have QBL := Lib.hid ((HBX.out.setCell (p := ⟨g1, i * 7, none⟩) HG1.out (.int .i64 16)).setCell (p := ⟨g2, i * 7, none⟩) HG2.out (.int .i64 16))
      have XG := Lib.hid (show g1 ≠ X ∧ g2 ≠ X from ⟨by omega, by omega⟩)
      have HXX := Lib.hid hX
      clear hx la lb ga OA OB RX PA1 PB1 PA PB gw1 gw2 hX hil
      go_upto_region 6 with fail
      rw [← HXX.out]
      generalize (((wr.alloc (.cells #[.int .i64 x.op, .int .i64 x.a, .int .i64 x.b, .int .i64 x.c, .int .u64 x.v, .int .i64 x.m, .int .i64 x.wh] 44)).setCell ⟨g1, i * 7, none⟩ (.int .i64 16)).setCell ⟨g2, i * 7, none⟩ (.int .i64 16)) = W2 at QA QB QX QBL ⊢
      clear ca fa cb fb c0 c1 c2 c3 c4 c5 c6
      have x0 := QX.out.cell 0 (by simp)
      have x1 := QX.out.cell 1 (by simp)
      have x2 := QX.out.cell 2 (by simp)
      have x3 := QX.out.cell 3 (by simp)
      have x4 := QX.out.cell 4 (by simp)
      have x5 := QX.out.cell 5 (by simp)
      have x6 := QX.out.cell 6 (by simp)
      simp only [List.getElem_cons_zero, List.getElem_cons_succ] at x0 x1 x2 x3 x4 x5 x6
      by_cases h22 : x.op = 22
      · have NA := Lib.hid (row_seven' QA.out (by rw [LA.out]; exact hlt) x)
        rw [List.set_set, SA.out x (by rw [callP, if_pos h22])] at NA
        have NB := Lib.hid (row_others (o := i * 7) QB.out HNE.out.symm (.int .i64 x.op) (.int .i64 x.a) (.int .i64 x.b) (.int .i64 x.c) (.int .u64 x.v) (.int .i64 x.m) (.int .i64 x.wh))
        rw [SB.out retI (by rw [otherP, if_pos h22])] at NB
        have NL := Lib.hid (below_sets (o := i * 7) QBL.out HG1.out (.int .i64 x.op) (.int .i64 x.a) (.int .i64 x.b) (.int .i64 x.c) (.int .u64 x.v) (.int .i64 x.m) (.int .i64 x.wh))
        have la : (flatCs ((partT callP l i).set i retI)).length = n * 7 := by rw [flatCs_len, LA.out]
        obtain ⟨u0', d0, f0⟩ := row_at (k := 0) QA.out la hlt (by omega)
        obtain ⟨u1', d1, f1⟩ := row_at (k := 1) QA.out la hlt (by omega)
        obtain ⟨u2', d2, f2⟩ := row_at (k := 2) QA.out la hlt (by omega)
        obtain ⟨u3', d3, f3⟩ := row_at (k := 3) QA.out la hlt (by omega)
        obtain ⟨u4', d4, f4⟩ := row_at (k := 4) QA.out la hlt (by omega)
        obtain ⟨u5', d5, f5⟩ := row_at (k := 5) QA.out la hlt (by omega)
        obtain ⟨u6', d6, f6⟩ := row_at (k := 6) QA.out la hlt (by omega)
        rw [Nat.add_zero] at d0 f0
        clear la QA QB QX QBL SA SB
        rw [h22] at x0 NA NB NL
        clear h22
        go_wp2_with fail
        go_roundw
        case rel => exact ⟨i + 1, by omega, by go_num, NA, NB, NL⟩
        case measure => simp [intOf]; omega
      · have NB := Lib.hid (row_seven' QB.out (by rw [LB.out]; exact hlt) x)
        rw [List.set_set, SB.out x (by rw [otherP, if_neg h22])] at NB
        have NA := Lib.hid (row_others (o := i * 7) QA.out HNE.out (.int .i64 x.op) (.int .i64 x.a) (.int .i64 x.b) (.int .i64 x.c) (.int .u64 x.v) (.int .i64 x.m) (.int .i64 x.wh))
        rw [SA.out retI (by rw [callP, if_neg h22])] at NA
        have NL := Lib.hid (below_sets (o := i * 7) QBL.out HG2.out (.int .i64 x.op) (.int .i64 x.a) (.int .i64 x.b) (.int .i64 x.c) (.int .u64 x.v) (.int .i64 x.m) (.int .i64 x.wh))
        have e22 : (x.op == 22) = false := beq_eq_false_iff_ne.2 h22
        have la : (flatCs ((partT otherP l i).set i retI)).length = n * 7 := by rw [flatCs_len, LB.out]
        obtain ⟨u0', d0, f0⟩ := row_at (k := 0) QB.out la hlt (by omega)
        obtain ⟨u1', d1, f1⟩ := row_at (k := 1) QB.out la hlt (by omega)
        obtain ⟨u2', d2, f2⟩ := row_at (k := 2) QB.out la hlt (by omega)
        obtain ⟨u3', d3, f3⟩ := row_at (k := 3) QB.out la hlt (by omega)
        obtain ⟨u4', d4, f4⟩ := row_at (k := 4) QB.out la hlt (by omega)
        obtain ⟨u5', d5, f5⟩ := row_at (k := 5) QB.out la hlt (by omega)
        obtain ⟨u6', d6, f6⟩ := row_at (k := 6) QB.out la hlt (by omega)
        rw [Nat.add_zero] at d0 f0
        clear la QA QB QX QBL SA SB h22
        go_wp2_with fail
        go_roundw
        case rel => exact ⟨i + 1, by omega, by go_num, NA, NB, NL⟩
        case measure => simp [intOf]; omega
    · obtain rfl : i = n := by omega
      have RF1 := PA.out
      have RF2 := PB.out
      rw [HN.out, partT_all] at RF1 RF2
      have C1 := Lib.hid (CK1.out g1 wr (row_ins RF1))
      have HR2b := Lib.hid RF2
      clear CK1 RF1 RF2 PA PB
      go_wp2_with fail
      go_at_call 34
      refine C1.out.mono ?_
      rintro e w1 hep
      obtain ⟨E1, rfl, P1, hb1⟩ := pl_ok (n := (i : Int)) hep
      have HB1 := Lib.hid (HBW.out.trans (hb1.mono HBW.out.size))
      rw [HR1.out] at P1
      have P1w := Lib.hid (P1 w1 (Below.refl _ _) (errType_below HB1.out HEr.out (cell_lt HEr.out)))
      have RR1 := Lib.hid (HR2b.out.below hb1 HR2b.out.lt)
      clear hep P1 hb1 C1
      go_wp2_with fail
      go_at_call 33
      refine P1w.out.mono ?_
      rintro e w2 ⟨rfl, hb2⟩
      have HB2 := Lib.hid (HB1.out.trans (hb2.mono HB1.out.size))
      have C2 := Lib.hid (CK2.out g2 w2 (row_ins (RR1.out.below hb2 RR1.out.lt)))
      clear hb2 P1w CK2 RR1
      go_wp2_with fail
      go_at_call 34
      refine C2.out.mono ?_
      rintro e w3 hep
      obtain ⟨E2, rfl, P2, hb3⟩ := pl_ok (n := (i : Int)) hep
      have HB3 := Lib.hid (HB2.out.trans (hb3.mono HB2.out.size))
      rw [HR2.out] at P2
      have P2w := Lib.hid (P2 w3 (Below.refl _ _) (errType_below HB3.out HEr.out (cell_lt HEr.out)))
      clear hep P2 hb3 C2
      go_wp2_with fail
      go_at_call 33
      refine P2w.out.mono ?_
      rintro e w4 ⟨rfl, hb4⟩
      have HB4 := Lib.hid (HB3.out.trans (hb4.mono HB3.out.size))
      clear hb4 P2w
      go_wp2_with fail
      go_ret
      exact ⟨rfl, HB4.out⟩
end Go.Proofs.YtneajiglkiffjaaGreatDoor

namespace Go.Proofs.YtneajiglkiffjaaGreatDoor
open Go.RowKit
set_option linter.unusedVariables false

theorem bld_size : (Tryz.prog.info? 56).map (·.size) = some 2 := by kernel_rfl
theorem bld_lies : liesAt Tryz.prog Tryz.prog.depth 56 (2 / Tryz.prog.cellsOf 56) 0 56 1 = true := by kernel_rfl
theorem bld_byte : (Tryz.prog.info? 5).map (fun i => (i.zero, i.size, i.bytes)) = some (some (.int .u8 0), 1, 1) := by kernel_rfl
set_option maxHeartbeats 1000000 in
set_option maxRecDepth 100000 in
theorem copyCheck_used (b : Nat) (w : World) (h0 : w.cell? ⟨b, 0, none⟩ = some (.pointer (some ⟨b, 0, none⟩))) :
    Calls Tryz.prog 37 #[.pointer (some ⟨b, 0, none⟩)] w fun e w' => e = .returned (.tuple #[]) ∧ w' = w := by
  obtain ⟨j, hj, _⟩ := Option.map_eq_some_iff.1 bld_size
  go_enter Tryz.func37, Tryz.ntmps37
  go_wp2
  rw [Lib.run_neq_ptr_same w _ Tryz.underlying53 hj]
  go_wp2
  go_end0
  exact ⟨rfl, rfl⟩
set_option maxHeartbeats 1000000 in
set_option maxRecDepth 100000 in
theorem copyCheck_fresh (b : Nat) (w : World) (h0 : w.cell? ⟨b, 0, none⟩ = some (.pointer none)) (hsh : w.shape? b = some (56, 2)) (hfz : w.frozen? ⟨b, 0, none⟩ = false) :
    Calls Tryz.prog 37 #[.pointer (some ⟨b, 0, none⟩)] w fun e w' => e = .returned (.tuple #[]) ∧ w' = w.setCell ⟨b, 0, none⟩ (.pointer (some ⟨b, 0, none⟩)) := by
  obtain ⟨j, hj, hjs⟩ := Option.map_eq_some_iff.1 bld_size
  go_enter Tryz.func37, Tryz.ntmps37
  go_wp2
  rw [Lib.run_to_unsafe w ⟨b, 0, none⟩ Tryz.underlying53 Tryz.underlying97 hj (by rw [hjs]; decide) hsh (Nat.zero_lt_succ 1)]
  simp only [Result.andThen]
  rw [Oper.upon_value]
  go_wp2
  rw [run_callFunc_extern Tryz.func60 (by kernel_rfl) (by kernel_rfl) (by kernel_rfl) (e := Extern.AbiNoEscape.same) (by kernel_rfl)]
  rw [Lib.run_noEscape]
  simp only [Result.andThen]
  rw [Oper.upon_value]
  go_wp2
  rw [Lib.run_from_unsafe w ⟨b, 0, none⟩ Tryz.underlying97 Tryz.underlying53 hj hsh bld_lies]
  simp only [Result.andThen]
  rw [Oper.upon_value]
  go_wp2
  go_end0
  exact ⟨rfl, rfl⟩
theorem copyCheck_any (B b : Nat) (bs : List Value) (w : World) (h : Lib.IsBuilder 56 5 B b bs w) :
    Calls Tryz.prog 37 #[.pointer (some ⟨b, 0, none⟩)] w fun e w' => e = .returned (.tuple #[]) ∧ (Lib.BuilderAt 56 5 B b (.pointer (some ⟨b, 0, none⟩)) bs w' ∧ Below B w w' ∧ Lib.OthersKept 5 (some b) w w') := by
  rcases h with h | h
  · refine (copyCheck_fresh b w h.cell0 h.shape h.frozen0).mono ?_
    rintro e w' ⟨rfl, rfl⟩
    exact ⟨rfl, h.used _, (Below.refl B w).setCell (p := ⟨b, 0, none⟩) h.1 _, (Lib.OthersKept.refl _ _ _).setCell ⟨b, 0, none⟩ rfl _⟩
  · refine (copyCheck_used b w h.cell0).mono ?_
    rintro e w' ⟨rfl, rfl⟩
    exact ⟨rfl, h, Below.refl B _, Lib.OthersKept.refl _ _ _⟩
set_option maxHeartbeats 2000000 in
set_option maxRecDepth 100000 in
theorem writeString_any (B b : Nat) (bs : List Value) (s : ByteArray) (w : World) (h : Lib.IsBuilder 56 5 B b bs w) (hlen : bs.length + s.size ≤ 140737488355328) (hBw : B ≤ w.heap.size) :
    Calls Tryz.prog 18 #[.pointer (some ⟨b, 0, none⟩), .string s] w fun e w' => e = .returned (.tuple #[.int .i64 s.size, .nilIface]) ∧ (Lib.BuilderAt 56 5 B b (.pointer (some ⟨b, 0, none⟩)) (bs ++ Lib.strCells s) w' ∧ Below B w w' ∧ Lib.OthersKept 5 (some b) w w') := by
  obtain ⟨i0, hi, hz0, hz1, hz2⟩ := info_parts bld_byte
  go_enter Tryz.func18, Tryz.ntmps18
  go_wp2_with (go_at_call 37; refine (copyCheck_any B b bs _ h).mono ?_)
  rintro e w1 ⟨rfl, h1, hb1, hk1⟩
  obtain ⟨hB, v, hbk, hown, hne⟩ := h1
  have c0 : w1.cell? ⟨b, 0, none⟩ = some (.pointer (some ⟨b, 0, none⟩)) := by rw [Lib.cell_of_heap hbk]; rfl
  have c1 : w1.cell? ⟨b, 1, none⟩ = some v := by rw [Lib.cell_of_heap hbk]; rfl
  go_wp2_with (at_builtin; refine Lib.wpList_append_own_string _ rfl _ _ 54 9 rfl B 5 i0 Tryz.underlying54 Tryz.underlying9 hi hz0 hz1 hz2 _ _ _ rfl hown s rfl ?c3 ?c4 ?c5 ?_)
  case c3 => unfold maxLen; omega
  case c4 => omega
  case c5 => have := hb1.size; omega
  intro v' w2 hown' hgrow _
  have hlt : b < w1.heap.size := by
    rcases Nat.lt_or_ge b w1.heap.size with h' | h'
    · exact h'
    · simp [Array.getElem?_eq_none h'] at hbk
  have hb2 : w2.heap[b]? = some (.cells #[.pointer (some ⟨b, 0, none⟩), v] 56 (0, 0)) := by
    rw [hgrow.block b hlt (fun e => hne e.symm)]
    exact hbk
  have d0 : w2.cell? ⟨b, 0, none⟩ = some (.pointer (some ⟨b, 0, none⟩)) := by rw [Lib.cell_of_heap hb2]; rfl
  have d1 : w2.cell? ⟨b, 1, none⟩ = some v := by rw [Lib.cell_of_heap hb2]; rfl
  have f1 : w2.frozen? ⟨b, 1, none⟩ = false := Lib.frozen_of_heap hb2 1
  obtain ⟨ao, n', cap, rfl⟩ : ∃ ao n' cap, v' = .slice ao n' cap := by
    rcases hown'.2 with ⟨hv, _⟩ | ⟨g, cap, cur, hv, _⟩
    · exact ⟨_, _, _, hv⟩
    · exact ⟨_, _, _, hv⟩
  go_wp2
  go_ret2
  refine ⟨rfl, ?_, ?_, (hk1.grown hgrow (Lib.ownsRowF_kind (World.ownsRowF_of hown))).setCell ⟨b, 1, none⟩ rfl _⟩
  · exact Lib.BuilderAt.put (T := 56) (e := 5) hB hb2 (bs' := bs ++ Lib.strCells s) (by simpa [Lib.strCells_length] using hown') (by decide)
  · exact (hb1.grown hgrow (by have := hb1.size; omega) (fun k hk => (hown.lt k hk).1)).setCell (p := ⟨b, 1, none⟩) hB _
end Go.Proofs.YtneajiglkiffjaaGreatDoor

namespace Go.Proofs.YtneajiglkiffjaaGreatDoor
open Go.RowKit
set_option linter.unusedVariables false

theorem firstBad_lt (n : Int) (lib : Bool) : ∀ (l : List Inst) (i j : Nat), firstBad n lib l i = some j → j < i + l.length
  | [], i, j, h => by simp [firstBad] at h
  | x :: l, i, j, h => by
    rw [firstBad] at h
    split at h
    · have := firstBad_lt n lib l (i + 1) j h
      simp; omega
    · simp at h; subst h; simp
theorem firstBad_all (n : Int) (lib : Bool) : ∀ (l : List Inst) (i : Nat), firstBad n lib l i = none → ∀ x ∈ l, rightB x n lib = true
  | [], i, _, x, hx => by simp at hx
  | y :: l, i, h, x, hx => by
    rw [firstBad] at h
    split at h
    · rename_i hy
      rcases List.mem_cons.1 hx with rfl | g
      · exact hy
      · exact firstBad_all n lib l (i + 1) h x g
    · simp at h
theorem firstP_all (l : List Inst) (lib : Bool) (hl : l.length ≤ 2048) (h : (l.length : Int) ≤ firstP l l.length lib) : ∀ x ∈ l.map (if lib then otherP else callP), rightB x l.length lib = true := by
  unfold firstP checkRes at h
  rw [List.length_map, if_neg (by omega)] at h
  cases hf : firstBad (l.length : Int) lib (l.map (if lib = true then otherP else callP)) 0 with
  | none => exact firstBad_all _ _ _ _ hf
  | some j =>
    rw [hf] at h
    have := firstBad_lt _ _ _ _ _ hf
    rw [List.length_map] at this
    have h' : (l.length : Int) ≤ (j : Int) := h
    omega
theorem fine_all (l : List Inst) (hl : l.length ≤ 2048) (hO : ∀ i, i < l.length → InsOk (l.getD i inst0)) (h : ¬ min (firstP l l.length false) (firstP l l.length true) < (l.length : Int)) : ∀ x ∈ l, Fine x (l.length : Int) := by
  intro x hx
  have h1 := firstP_all l false hl (by omega)
  have h2 := firstP_all l true hl (by omega)
  obtain ⟨i, hi, e⟩ := List.mem_iff_getElem.1 hx
  have hv := hO i hi
  rw [List.getD_eq_getElem?_getD, List.getElem?_eq_getElem hi, Option.getD_some, e] at hv
  by_cases h22 : x.op = 22
  · have := h1 (callP x) (List.mem_map.2 ⟨x, hx, rfl⟩)
    rw [callP, if_pos h22] at this
    exact fine_right this hv (by omega)
  · have := h2 (otherP x) (List.mem_map.2 ⟨x, hx, rfl⟩)
    rw [otherP, if_neg h22] at this
    exact fine_right this hv (by omega)
/-- The text by now. -/
def printOn (l : List Inst) (i : Nat) : List UInt8 := (linesT 112 (targetB l) (l.take i) 0).flatMap fun t => t ++ [10]
theorem linesT_snoc (q : UInt8) (T : Nat → Bool) (x : Inst) : ∀ (r : List Inst) (i : Nat), linesT q T (r ++ [x]) i = linesT q T r i ++ ((if T (i + r.length) then [nameT q ((i + r.length : Nat) : Int) ++ [58]] else []) ++ [lineT q x])
  | [], i => by simp [linesT]
  | y :: r, i => by
    rw [List.cons_append, linesT, linesT, linesT_snoc q T x r (i + 1), List.length_cons, show i + 1 + r.length = i + (r.length + 1) by omega]
    simp
theorem printOn_step (l : List Inst) (i : Nat) (hi : i < l.length) : printOn l (i + 1) = printOn l i ++ ((if targetB l i then nameT 112 (i : Int) ++ [58, 10] else []) ++ (lineT 112 (l.getD i inst0) ++ [10])) := by
  unfold printOn
  have e : l.take (i + 1) = l.take i ++ [l.getD i inst0] := by
    rw [List.take_add_one, List.getD_eq_getElem?_getD, List.getElem?_eq_getElem hi]; rfl
  have hlen : (l.take i).length = i := by simp; omega
  rw [e, linesT_snoc, hlen, Nat.zero_add, List.flatMap_append]
  split <;> simp
theorem printOn_all (l : List Inst) : printOn l l.length = printT l := by unfold printOn printT; rw [List.take_length]
/-- What Print leaves. -/
def PrintOut (l : List Inst) (w : World) (e : Ending) (w' : World) : Prop := Below w.heap.size w w' ∧
  ((∃ t v, e = .returned (.tuple #[.string ⟨#[]⟩, .iface t v])) ∨ (e = .returned (.tuple #[.string (bytesA (printT l)), .nilIface]) ∧ l.length ≤ 2048 ∧ ∀ x ∈ l, Fine x (l.length : Int)))
theorem fault_asm (n : Int) (t : TypeId) (x : Value) (w : World) : Calls Tryz.prog 15 #[.int .i64 n, .iface t x] w fun e w' => (∃ u, e = .returned (.iface 69 u)) ∧ Below w.heap.size w w' :=
  (afault_any n t x w).mono fun e w' ⟨h1, h2⟩ => ⟨⟨_, h1⟩, by rw [h2]; exact (Below.refl _ _).alloc (Nat.le_refl _) _⟩
theorem line_len {x : Inst} {n : Int} (h : Fine x n) : (lineT 112 x).length ≤ 200 := by
  rw [← lineOn_end]
  have h1 := lineOn_len h _ (Nat.le_refl _)
  have h2 := (forms_small _ h.fm).1
  have h3 : (markT x).length ≤ 30 := by
    have := dec_len x.m.toNat 20 (by omega) (by have := h.m; omega)
    unfold markT whenT decT
    rw [List.length_append, List.length_cons]
    split
    · simp; omega
    · split <;> simp <;> omega
  rw [List.length_append]
  split
  · simp; omega
  · rw [List.length_cons]; omega
theorem printOn_len (l : List Inst) (hF : ∀ x ∈ l, Fine x (l.length : Int)) (hl : l.length ≤ 2048) : ∀ i, i ≤ l.length → (printOn l i).length ≤ 300 * i
  | 0, _ => by simp [printOn, linesT]
  | i + 1, hi => by
    have h1 := printOn_len l hF hl i (by omega)
    have hm : l.getD i inst0 ∈ l := by rw [List.getD_eq_getElem?_getD, List.getElem?_eq_getElem (by omega)]; exact List.getElem_mem _
    have h2 := line_len (hF _ hm)
    have h3 : (nameT 112 (i : Int)).length ≤ 21 := by
      rw [nameT, List.length_cons]
      have := dec_len i 20 (by omega) (by omega)
      unfold decT; simpa using this
    have h4 : (if targetB l i then nameT 112 (i : Int) ++ [58, 10] else []).length ≤ 23 := by
      split
      · rw [List.length_append]; show _ + 2 ≤ 23; omega
      · exact Nat.zero_le _
    have h5 : (lineT 112 (l.getD i inst0) ++ [10]).length ≤ 201 := by rw [List.length_append]; show _ + 1 ≤ 201; omega
    rw [printOn_step l i (by omega), List.length_append, List.length_append]
    omega
theorem byteCells_app (a b : List UInt8) : Lib.byteCells a ++ Lib.strCells (bytesA b) = Lib.byteCells (a ++ b) := by
  simp [Lib.byteCells, Lib.strCells]
end Go.Proofs.YtneajiglkiffjaaGreatDoor

namespace Go.Proofs.YtneajiglkiffjaaGreatDoor
open Go.RowKit
set_option linter.unusedVariables false

theorem bld_below {B b : Nat} {bs : List Value} {w w' : World} (h : Lib.IsBuilder 56 5 B b bs w) (hb : Below w.heap.size w w') : Lib.IsBuilder 56 5 B b bs w' := by
  have key : ∀ p, Lib.BuilderAt 56 5 B b p bs w → Lib.BuilderAt 56 5 B b p bs w' := fun p hp => by
    have hlt := hp.lt
    obtain ⟨hB, v, h1, h2, h3⟩ := hp
    exact ⟨hB, v, (hb.block b hlt).trans h1, ownsRow_block h2 fun k hk => hb.block k (h2.lt k hk).2, h3⟩
  rcases h with h | h
  · exact .inl (key _ h)
  · exact .inr (key _ h)
theorem names_below {w w' : World} (N : NamesAt w) (hb : Below w.heap.size w w') : NamesAt w' := N.below hb (World.block_lt_of_cell? _ _ (N 0 _ rfl))
set_option maxHeartbeats 8000000 in
set_option maxRecDepth 100000 in
theorem asmPrint_any (A : Option Addr) (cap : Nat) (l : List Inst) (w : World) (hlen : l.length < 4611686018427387904) (hI : InsIn w A l) (hO : ∀ i, i < l.length → InsOk (l.getD i inst0)) (hE : ErrType w) (N : NamesAt w) (T : Pow10 w) :
    Calls Tryz.prog 7 #[.slice A l.length cap] w (PrintOut l w) := by
  have FA := Lib.hid (fun n t x W => fault_asm n t x W)
  have BAD := Lib.hid (fun w' t v (hb : Below w.heap.size w w') => show PrintOut l w (.returned (.tuple #[.string ⟨#[]⟩, .iface t v])) w' from ⟨hb, .inl ⟨t, v, rfl⟩⟩)
  have GOOD := Lib.hid (fun w' (hb : Below w.heap.size w w') (h1 : l.length ≤ 2048) (h2 : ∀ x ∈ l, Fine x (l.length : Int)) => show PrintOut l w (.returned (.tuple #[.string (bytesA (printT l)), .nilIface])) w' from ⟨hb, .inr ⟨rfl, h1, h2⟩⟩)
  obtain ⟨n, hn⟩ : ∃ n, n = l.length := ⟨_, rfl⟩
  by_cases hbig : 2048 < n
  · have hb1 : (2048 : Int) < (n : Int) := by omega
    rw [← hn]
    clear hlen hn hI hO hE N T GOOD hbig
    go_enter Tryz.func7, Tryz.ntmps7
    go_wp2_with fail
    go_at_call 15
    refine (FA.out _ _ _ _).mono ?_
    rintro e w1 ⟨⟨u, rfl⟩, hb⟩
    have HB := Lib.hid hb
    clear hb
    go_wp2_with fail
    go_ret2
    exact BAD.out _ _ _ HB.out
  have hl : l.length ≤ 2048 := by omega
  have FI := Lib.hid (firstInvalid_any A cap l w hl hI hO hE)
  have FN := Lib.hid (fine_all l hl hO)
  obtain ⟨r, hr⟩ : ∃ r, r = min (firstP l l.length false) (firstP l l.length true) := ⟨_, rfl⟩
  rw [← hr] at FI FN
  have HN := Lib.hid hn
  rw [← hn] at FI FN hl ⊢
  have hb1 : ¬ (2048 : Int) < (n : Int) := by omega
  by_cases hrn : r < (n : Int)
  · clear hlen hn hI hO hE N T GOOD hbig hr FN
    go_enter Tryz.func7, Tryz.ntmps7
    go_wp2_with fail
    go_at_call 16
    refine FI.out.mono ?_
    rintro e w1 ⟨rfl, hb⟩
    have HB := Lib.hid hb
    clear hb
    go_wp2_with fail
    go_at_call 15
    refine (FA.out _ _ _ _).mono ?_
    rintro e w2 ⟨⟨u, rfl⟩, hb⟩
    have HB2 := Lib.hid (HB.out.trans (hb.mono HB.out.size))
    clear hb
    go_wp2_with fail
    go_ret2
    exact BAD.out _ _ _ HB2.out
  have hF := FN.out hrn
  have HF := Lib.hid hF
  have hrn2 : ¬ r < (n : Int) := hrn
  have hFi : ∀ i, i < l.length → Fine (l.getD i inst0) (l.length : Int) := fun i hi => by
    rw [← hn]
    exact hF _ (by rw [List.getD_eq_getElem?_getD, List.getElem?_eq_getElem hi]; exact List.getElem_mem _)
  have TG := Lib.hid (fun W (hW : Below w.heap.size w W) => targetsOf_any A cap l W (by rw [← hn]; exact hl) (hI.below hW) hFi)
  rw [← hn] at TG
  have HI := Lib.hid hI
  have HNM := Lib.hid N
  have HPT := Lib.hid T
  have PL := Lib.hid (fun i (hi : i ≤ n) => printOn_len l (by rw [← hn]; exact hF) (by rw [← hn]; exact hl) i (by rw [← hn]; exact hi))
  have PS := Lib.hid (fun i (hi : i < n) => printOn_step l i (by rw [← hn]; exact hi))
  have PE := Lib.hid (show printOn l n = printT l from by rw [hn]; exact printOn_all l)
  have NG := Lib.hid (show 0 < w.heap.size from World.block_lt_of_cell? _ _ (N 0 _ rfl))
  have GOOD2 := Lib.hid (fun w' (hb : Below w.heap.size w w') => GOOD.out w' hb (by rw [← hn]; exact hl) (by rw [← hn]; exact hF))
  clear hlen hn hI hO hE N T GOOD BAD hr FN hF hFi hrn
  go_enter Tryz.func7, Tryz.ntmps7
  go_wp2_with fail
  go_at_call 16
  refine FI.out.mono ?_
  rintro e w1 ⟨rfl, hb⟩
  have HB1 := Lib.hid hb
  clear hb FI
  go_wp2_with fail
  go_at_call 17
  refine (TG.out w1 HB1.out).mono ?_
  rintro e w2 ⟨g, rfl, hg, hR, hb⟩
  have HB2 := Lib.hid (HB1.out.trans (hb.mono HB1.out.size))
  have RG := Lib.hid hR
  clear hb hg hR TG HB1
  go_upto_region 8 with fail
  obtain ⟨W3, hW3⟩ : ∃ W, W = w2.alloc (.cells #[.pointer none, .slice none 0 0] 56) := ⟨_, rfl⟩
  obtain ⟨b, hb⟩ : ∃ b, b = w2.heap.size := ⟨_, rfl⟩
  have BA := Lib.hid (show Lib.IsBuilder 56 5 b b (Lib.byteCells (printOn l 0)) W3 from .inl ⟨Nat.le_refl _, .slice none 0 0, by rw [hW3, hb]; exact heap_alloc_new _ _, World.ownsRow_nil _ _ _ _, by simp [Value.ownBlock]⟩)
  have BW := Lib.hid (show Below b w2 W3 from by rw [hW3, hb]; exact (Below.refl _ _).alloc (Nat.le_refl _) _)
  have BS := Lib.hid (show b < W3.heap.size from by rw [hW3, hb]; simp)
  have HB2b := Lib.hid (show Below b w2 w2 from Below.refl _ _)
  have hwb := Lib.hid (show w.heap.size ≤ b from by rw [hb]; exact HB2.out.size)
  have hgb := Lib.hid (show g < b from by rw [hb]; exact RG.out.lt)
  have HIb := Lib.hid (fun W (hW : Below b w2 W) => (HI.out.below HB2.out).below (by rw [← hb]; exact hW))
  have HNb := Lib.hid (fun W (hW : Below b w2 W) => names_below (names_below HNM.out HB2.out) (by rw [← hb]; exact hW))
  have HPb := Lib.hid (fun W (hW : Below b w2 W) => pow10_below (by rw [← hb]; exact hW : Below w2.heap.size w2 W) (pow10_below HB2.out HPT.out))
  rw [← hW3, ← hb]
  clear hW3 hb HI HNM HPT
  go_wp2_with fail
  go_loopw [28] (fun vi wr => ∃ i : Nat, i ≤ n ∧ vi = .int .i64 i ∧ Hid (Lib.IsBuilder 56 5 b b (Lib.byteCells (printOn l i)) wr) ∧ Hid (Below b w2 wr)) (fun vi _ => n - (intOf vi).toNat)
  case atStart => exact ⟨0, by omega, rfl, BA, BW⟩
  case round =>
    obtain ⟨i, hi, rfl, IB, BR⟩ := hrel
    by_cases hlt : i < n
    · obtain ⟨p, rfl, hp, c0, c1, c2, c3, c4, c5, c6⟩ := HIb.out wr BR.out i (by rw [← HN.out]; exact hlt)
      have FX := Lib.hid (show Fine (l.getD i inst0) (n : Int) from HF.out _ (by rw [List.getD_eq_getElem?_getD, List.getElem?_eq_getElem (by rw [← HN.out]; exact hlt)]; exact List.getElem_mem _))
      have ST := Lib.hid (PS.out i hlt)
      have pl := PL.out i (by omega)
      have pl2 := PL.out (i + 1) (by omega)
      obtain ⟨x, hx⟩ : ∃ x, x = l.getD i inst0 := ⟨_, rfl⟩
      rw [← hx] at c0 c1 c2 c3 c4 c5 c6 FX ST
      have ib := IB.out.elim (fun h => h.lt) (fun h => h.lt)
      have bsz : (Lib.byteCells (printOn l i)).length = (printOn l i).length := Lib.byteCells_length _
      obtain ⟨W4, hW4⟩ : ∃ W, W = wr.alloc (.cells #[.int .i64 x.op, .int .i64 x.a, .int .i64 x.b, .int .i64 x.c, .int .u64 x.v, .int .i64 x.m, .int .i64 x.wh] 44) := ⟨_, rfl⟩
      obtain ⟨X, hX⟩ : ∃ X, X = wr.heap.size := ⟨_, rfl⟩
      have b4 : Below wr.heap.size wr W4 := by rw [hW4]; exact (Below.refl _ _).alloc (Nat.le_refl _) _
      have hb4 : W4.heap[X]? = some (.cells #[.int .i64 x.op, .int .i64 x.a, .int .i64 x.b, .int .i64 x.c, .int .u64 x.v, .int .i64 x.m, .int .i64 x.wh] 44) := by rw [hW4, hX]; exact heap_alloc_new _ _
      have X4 : X < W4.heap.size := by rw [hW4, hX]; simp
      have IB4 := Lib.hid (bld_below IB.out b4)
      have BR4 := Lib.hid (BR.out.trans (b4.mono (Nat.le_of_lt ib)))
      have hXb : X ≠ b := by omega
      have tg : W4.cell? ⟨g, i, none⟩ = some (.bool (targetB l i)) := by
        have hh := (RG.out.below BR4.out hgb.out).cell i (by rw [boolsT_len]; exact hlt)
        rw [boolsT_get] at hh; exact hh
      have H4 := Lib.hid hb4
      have HXB := Lib.hid hXb
      have X4h := Lib.hid X4
      have LNX := Lib.hid (show (bytesA (lineT 112 x)).size ≤ 200 from by rw [bytesA_size]; exact line_len FX.out)
      clear hx b4 hb4 X4 IB BR hXb
      go_upto_region 11 with fail
      rw [← hW4, ← hX]
      clear hW4 hX c0 c1 c2 c3 c4 c5 c6
      cases htg : targetB l i with
      | true =>
        rw [htg] at tg
        rw [htg, if_pos rfl] at ST
        have NM := Lib.hid (nameOf_any (i : Int) (by omega) (by omega) W4 (HPb.out W4 BR4.out))
        have ns : (bytesA (nameT 112 (i : Int))).size ≤ 21 := by
          rw [bytesA_size, nameT, List.length_cons]
          have := dec_len i 20 (by omega) (by omega)
          unfold decT; simpa using this
        have cc := Lib.hid (show bytesA (nameT 112 (i : Int)) ++ (⟨#[58, 10]⟩ : ByteArray) = bytesA (nameT 112 (i : Int) ++ [58, 10]) from bytes_app _ [58, 10])
        unfold Says at NM
        generalize bytesA (nameT 112 (i : Int)) = nt at NM ns cc
        have q1 : ¬ 9223372036854775807 < nt.size + 2 := by omega
        have e1 : IntKind.u64.wrap (i : Int) = (i : Int) := by simp [IntKind.wrap, IntKind.signed, IntKind.bits]; omega
        clear htg
        go_wp2_with fail
        go_at_call 19
        refine NM.out.mono ?_
        rintro e w5 ⟨rfl, hb5⟩
        have IB5 := bld_below IB4.out hb5
        have lb4 := IB4.out.elim (fun h => h.lt) (fun h => h.lt)
        have BR5 := BR4.out.trans (hb5.mono (Nat.le_of_lt lb4))
        have H5 := (hb5.block X X4h.out).trans H4.out
        have WS := Lib.hid (writeString_any b b (Lib.byteCells (printOn l i)) (nt ++ ⟨#[58, 10]⟩) w5 IB5 (by rw [bsz]; simp [ByteArray.size_append]; have : (⟨#[58, 10]⟩ : ByteArray).size = 2 := rfl; omega) (Nat.le_trans (Nat.le_of_lt lb4) hb5.size))
        have BR5h := Lib.hid BR5
        have H5h := Lib.hid H5
        clear hb5 IB5 BR5 H5 NM IB4 H4 q1 e1 tg
        go_wp2_with fail
        go_at_call 18
        refine WS.out.mono ?_
        rintro e w6 ⟨rfl, hbA, hb6, hok⟩
        have H6 := hok X _ H5h.out (by simpa using HXB.out) (by intro c fz e; cases e)
        rw [cc.out, byteCells_app] at hbA
        have BR6 := Lib.hid (BR5h.out.trans hb6)
        have IB6 := Lib.hid (show Lib.IsBuilder 56 5 b b (Lib.byteCells (printOn l i ++ (nameT 112 (i : Int) ++ [58, 10]))) w6 from .inr hbA)
        obtain ⟨x0, x1, x2, x3, x4, x5, x6⟩ : w6.cell? ⟨X, 0, none⟩ = some (.int .i64 x.op) ∧ w6.cell? ⟨X, 1, none⟩ = some (.int .i64 x.a) ∧ w6.cell? ⟨X, 2, none⟩ = some (.int .i64 x.b) ∧ w6.cell? ⟨X, 3, none⟩ = some (.int .i64 x.c) ∧ w6.cell? ⟨X, 4, none⟩ = some (.int .u64 x.v) ∧ w6.cell? ⟨X, 5, none⟩ = some (.int .i64 x.m) ∧ w6.cell? ⟨X, 6, none⟩ = some (.int .i64 x.wh) := by
          refine ⟨?_, ?_, ?_, ?_, ?_, ?_, ?_⟩ <;> (rw [cell_of_row _ X _ _ _ (0, 0) H6]; rfl)
        have lb6 := hbA.lt
        have LO := Lib.hid (lineOf_any x n FX.out w6 (HNb.out w6 BR6.out) (HPb.out w6 BR6.out))
        clear WS hbA hb6 hok H6 H5h BR5h cc ns
        have ls := LNX.out
        have cc := Lib.hid (show bytesA (lineT 112 x) ++ (⟨#[10]⟩ : ByteArray) = bytesA (lineT 112 x ++ [10]) from bytes_app _ [10])
        have pz : (printOn l i ++ (nameT 112 (i : Int) ++ [58, 10])).length ≤ 300 * i + 23 := by
          rw [List.length_append, List.length_append]; have : (nameT 112 (i : Int)).length ≤ 21 := by rw [nameT, List.length_cons]; have := dec_len i 20 (by omega) (by omega); unfold decT; simpa using this
          show _ + (_ + 2) ≤ _; omega
        unfold Says at LO
        generalize bytesA (lineT 112 x) = lt at LO ls cc
        have q1 : ¬ 9223372036854775807 < lt.size + 1 := by omega
        go_wp2_with fail
        go_at_call 20
        refine LO.out.mono ?_
        rintro e w7 ⟨rfl, hb7⟩
        have IB7 := bld_below IB6.out hb7
        have BR7 := Lib.hid (BR6.out.trans (hb7.mono (Nat.le_of_lt lb6)))
        have WS := Lib.hid (writeString_any b b (Lib.byteCells (printOn l i ++ (nameT 112 (i : Int) ++ [58, 10]))) (lt ++ ⟨#[10]⟩) w7 IB7 (by rw [Lib.byteCells_length]; simp only [ByteArray.size_append]; have : (⟨#[10]⟩ : ByteArray).size = 1 := rfl; omega) (Nat.le_trans (Nat.le_of_lt lb6) hb7.size))
        clear hb7 IB7 LO IB6 x0 x1 x2 x3 x4 x5 x6 q1 pz
        go_wp2_with fail
        go_at_call 18
        refine WS.out.mono ?_
        rintro e w8 ⟨rfl, hbA, hb8, _⟩
        rw [cc.out, byteCells_app] at hbA
        have IB8 := Lib.hid (show Lib.IsBuilder 56 5 b b (Lib.byteCells (printOn l (i + 1))) w8 from .inr (by rw [ST.out]; rw [← List.append_assoc]; exact hbA))
        have BR8 := Lib.hid (BR7.out.trans hb8)
        clear WS hbA hb8 cc ls ST pl pl2 bsz
        go_wp2_with fail
        go_roundw
        case rel => exact ⟨i + 1, by omega, by go_num, IB8, BR8⟩
        case measure => simp [intOf]; omega
      | false =>
        rw [htg] at tg
        rw [htg, if_neg (by simp), List.nil_append] at ST
        obtain ⟨x0, x1, x2, x3, x4, x5, x6⟩ : W4.cell? ⟨X, 0, none⟩ = some (.int .i64 x.op) ∧ W4.cell? ⟨X, 1, none⟩ = some (.int .i64 x.a) ∧ W4.cell? ⟨X, 2, none⟩ = some (.int .i64 x.b) ∧ W4.cell? ⟨X, 3, none⟩ = some (.int .i64 x.c) ∧ W4.cell? ⟨X, 4, none⟩ = some (.int .u64 x.v) ∧ W4.cell? ⟨X, 5, none⟩ = some (.int .i64 x.m) ∧ W4.cell? ⟨X, 6, none⟩ = some (.int .i64 x.wh) := by
          refine ⟨?_, ?_, ?_, ?_, ?_, ?_, ?_⟩ <;> (rw [cell_of_row _ X _ _ _ (0, 0) H4.out]; rfl)
        have lb6 := IB4.out.elim (fun h => h.lt) (fun h => h.lt)
        have LO := Lib.hid (lineOf_any x n FX.out W4 (HNb.out W4 BR4.out) (HPb.out W4 BR4.out))
        have IB6 := IB4
        have BR6 := BR4
        clear htg IB4 BR4 H4
        have ls := LNX.out
        have cc := Lib.hid (show bytesA (lineT 112 x) ++ (⟨#[10]⟩ : ByteArray) = bytesA (lineT 112 x ++ [10]) from bytes_app _ [10])
        have pz : (printOn l i).length ≤ 300 * i + 23 := by
          skip
          omega
        unfold Says at LO
        generalize bytesA (lineT 112 x) = lt at LO ls cc
        have q1 : ¬ 9223372036854775807 < lt.size + 1 := by omega
        go_wp2_with fail
        go_at_call 20
        refine LO.out.mono ?_
        rintro e w7 ⟨rfl, hb7⟩
        have IB7 := bld_below IB6.out hb7
        have BR7 := Lib.hid (BR6.out.trans (hb7.mono (Nat.le_of_lt lb6)))
        have WS := Lib.hid (writeString_any b b (Lib.byteCells (printOn l i)) (lt ++ ⟨#[10]⟩) w7 IB7 (by rw [Lib.byteCells_length]; simp only [ByteArray.size_append]; have : (⟨#[10]⟩ : ByteArray).size = 1 := rfl; omega) (Nat.le_trans (Nat.le_of_lt lb6) hb7.size))
        clear hb7 IB7 LO IB6 x0 x1 x2 x3 x4 x5 x6 q1 pz
        go_wp2_with fail
        go_at_call 18
        refine WS.out.mono ?_
        rintro e w8 ⟨rfl, hbA, hb8, _⟩
        rw [cc.out, byteCells_app] at hbA
        have IB8 := Lib.hid (show Lib.IsBuilder 56 5 b b (Lib.byteCells (printOn l (i + 1))) w8 from .inr (by rw [ST.out]; exact hbA))
        have BR8 := Lib.hid (BR7.out.trans hb8)
        clear WS hbA hb8 cc ls ST pl pl2 bsz
        go_wp2_with fail
        go_roundw
        case rel => exact ⟨i + 1, by omega, by go_num, IB8, BR8⟩
        case measure => simp [intOf]; omega
    · obtain rfl : i = n := by omega
      have SB := Lib.hid (show Calls Tryz.prog 21 #[.pointer (some ⟨b, 0, none⟩)] wr fun e w' => e = .returned (.string (bytesA (printT l))) ∧ Below b wr w' from by
        rw [← PE.out]; exact Tryz.Builder_String_any b b (printOn l i) wr IB.out (Nat.le_of_lt (IB.out.elim (fun h => h.lt) (fun h => h.lt))))
      have HBF := Lib.hid (HB2.out.trans (BR.out.mono hwb.out))
      have BX := Lib.hid (fun W (h : Below b wr W) => HBF.out.trans (h.mono hwb.out))
      generalize bytesA (printT l) = TX at GOOD2 SB
      clear IB BR PL PS PE HIb HNb HPb HF HN RG
      go_wp2_with fail
      go_at_call 21
      refine SB.out.mono ?_
      rintro e w9 ⟨rfl, hb9⟩
      have HB9 := Lib.hid (BX.out w9 hb9)
      clear hb9
      go_wp2_with fail
      go_ret2
      exact GOOD2.out _ HB9.out
end Go.Proofs.YtneajiglkiffjaaGreatDoor
