/- The statements' two frames (layer 6): the contract of frame without return places: a frame of the program's and one of the document's, with the registers laid. The conditions: the registers' values lie there; they are words. -/
import Derived.Test.YtobbmhboahognaaDoorVmFrame
import Derived.RegionTactic
import Derived.BigRegion
import Derived.Deep.CutRange
import Derived.Deep.DeepCutAuto
import Derived.Deep.CutBlock
import Derived.Deep.Light
namespace Go.Proofs.YtobbmhboahognaaDoor
open Go.RowKit
set_option linter.unusedVariables false

/-- The registers behind i of the values. -/
def rgI (zs : List Int) : Nat → List Int
  | 0 => List.replicate 32 0
  | i + 1 => (rgI zs i).set i (zs.getD i 0)
theorem rgI_length (zs : List Int) : ∀ i, (rgI zs i).length = 32
  | 0 => by simp [rgI]
  | i + 1 => by rw [rgI, List.length_set, rgI_length zs i]
def RegsOk (zs : List Int) : Prop := ∀ i, 0 ≤ zs.getD i 0 ∧ zs.getD i 0 ≤ 18446744073709551615
theorem rgI_ok (zs : List Int) (h : RegsOk zs) : ∀ i j, 0 ≤ (rgI zs i).getD j 0 ∧ (rgI zs i).getD j 0 ≤ 18446744073709551615
  | 0, j => by
    have : (rgI zs 0).getD j 0 = 0 := by simp only [rgI, List.getD, List.getElem?_replicate]; split <;> rfl
    rw [this]; omega
  | i + 1, j => by
    have h1 := rgI_ok zs h i j
    have h2 := h i
    rw [rgI]
    simp only [List.getD, List.getElem?_set] at h1 h2 ⊢
    split
    · split
      · simpa using h2
      · simp
    · exact h1
/-- The empty frame's cells. -/
def emptyCs (pc : Int) : List Value := .int .i64 pc :: (List.replicate 32 (Value.int .u64 0) ++ [.slice none 0 0])
theorem frame_empty (w : World) (b : Nat) (N : List Nat) (pc : Int) (t : TypeId) (hb : b = w.heap.size) : FrameIn (w.alloc (.cells (emptyCs pc).toArray t)) b N ⟨pc, List.replicate 32 0, []⟩ none 0 := by
  subst hb
  refine ⟨?_, fun i hi => absurd hi (Nat.not_lt_zero i), Nat.le_refl 0, fun a h => (by cases h), by simp⟩
  have := Row.new w (emptyCs pc) t
  have e : (⟨pc, List.replicate 32 0, []⟩ : Frm).cs none 0 = emptyCs pc := by simp [Frm.cs, emptyCs]
  rw [e]; exact this
theorem frame_row {w : World} {b : Nat} (N : List Nat) {pc : Int} {r : List Int} (h : Row w b ((⟨pc, r, []⟩ : Frm).cs none 0)) (hr : r.length = 32) : FrameIn w b N ⟨pc, r, []⟩ none 0 :=
  ⟨h, fun i hi => absurd hi (Nat.not_lt_zero i), Nat.le_refl 0, fun a h => (by cases h), hr⟩
/-- What frame leaves, where there are no return places. -/
def FramePost (pc : Int) (zs : List Int) (N : List Nat) (w : World) (e : Ending) (w' : World) : Prop := ∃ b n : Nat, e = .returned (.tuple #[.pointer (some ⟨b, 0, none⟩), .pointer (some ⟨b + 1, 0, none⟩)]) ∧ b = w.heap.size ∧ n = min zs.length 32 ∧
  FrameIn w' b N ⟨pc, rgI zs n, []⟩ none 0 ∧ FrameIn w' (b + 1) N ⟨pc, rgI zs n, []⟩ none 0 ∧ Below w.heap.size w w'

set_option maxHeartbeats 4000000 in
set_option maxRecDepth 100000 in
theorem frame_none (A : Option Addr) (cap : Nat) (zs : List Int) (pc : Int) (N : List Nat) (w : World) (hl : zs.length ≤ 9223372036854775807) (hI : IntsIn w .u64 A zs) :
    Calls Tryd.prog 9 #[.int .i64 pc, .slice A zs.length cap, .slice none 0 0] w (FramePost pc zs N w) := by
  obtain ⟨w1, hw1⟩ : ∃ w1, w1 = w.alloc (.cells (emptyCs pc).toArray 50) := ⟨_, rfl⟩
  obtain ⟨w2, hw2⟩ : ∃ w2, w2 = w1.alloc (.cells (emptyCs pc).toArray 91) := ⟨_, rfl⟩
  obtain ⟨b, hb⟩ : ∃ b, b = w.heap.size := ⟨_, rfl⟩
  have hz1 : w1.heap.size = b + 1 := by rw [hw1, hb]; simp
  have F1 : FrameIn w2 b N ⟨pc, List.replicate 32 0, []⟩ none 0 := by
    rw [hw2]
    refine FrameIn.below ?_ ((Below.refl _ _).alloc (Nat.le_refl _) _)
    rw [hw1]; exact frame_empty w b N pc _ hb
  have F2 : FrameIn w2 (b + 1) N ⟨pc, List.replicate 32 0, []⟩ none 0 := by
    rw [hw2]; exact frame_empty w1 (b + 1) N pc _ hz1.symm
  have B2 : Below w.heap.size w w2 := by
    rw [hw2, hw1]; exact ((Below.refl _ _).alloc (Nat.le_refl _) _).alloc (by simp) _
  have H1 := Lib.hid F1
  have H2 := Lib.hid F2
  have HB2 := Lib.hid B2
  have HI := Lib.hid hI
  have HW := Lib.hid (show w2 = (w.alloc (.cells (emptyCs pc).toArray 50)).alloc (.cells (emptyCs pc).toArray 91) by rw [hw2, hw1])
  have HZ := Lib.hid hb
  obtain ⟨L, hL⟩ : ∃ L, L = zs.length := ⟨_, rfl⟩
  rw [← hL] at hl ⊢
  have HL := Lib.hid hL
  clear hI hL F1 F2 B2 hw1 hw2 hz1 hb
  go_enter Tryd.func9, Tryd.ntmps9
  go_upto_region 1 with fail
  go_cut [1, 2, 8, 9] from 8 to 83 (fun s1 s2 s8 s9 w' => s1 = .slice A L cap ∧ s2 = .slice none 0 0 ∧ s8 = .pointer (some ⟨b, 0, none⟩) ∧ s9 = .pointer (some ⟨b + 1, 0, none⟩) ∧ w2 = w')
  case first =>
   as_aux_lemma =>
    go_wp2_with fail
    go_meet
    exact ⟨rfl, rfl, by rw [HZ.out], by rw [HZ.out], HW.out⟩
  case rest =>
  as_aux_lemma =>
  obtain ⟨rfl, rfl, rfl, rfl, rfl⟩ := hcut
  clear HW
  go_wp2_with fail
  go_loopw [10] (fun vi wr => ∃ i : Nat, i ≤ L ∧ i ≤ 32 ∧ vi = .int .i64 i ∧ FrameIn wr b N ⟨pc, rgI zs i, []⟩ none 0 ∧ FrameIn wr (b + 1) N ⟨pc, rgI zs i, []⟩ none 0 ∧ Below w.heap.size w wr) (fun vi _ => L - (intOf vi).toNat)
  case atStart => exact ⟨0, by omega, by omega, rfl, H1.out, H2.out, HB2.out⟩
  case round =>
    obtain ⟨i, hi, hi2, rfl, f1, f2, hbl⟩ := hrel
    by_cases hlt : i < L ∧ i < 32
    · obtain ⟨hlt1, hlt2⟩ := hlt
      obtain ⟨p, rfl, hp, hc⟩ := HI.out i (by rw [← HL.out]; exact hlt1)
      have hc : wr.cell? (p.add i) = some (.int .u64 (zs.getD i 0)) := by rw [hbl.cell (by rw [ChangeShapes.block_add]; exact hp)]; exact hc
      have hpb : (p.add i).block < b := by rw [HZ.out, ChangeShapes.block_add]; exact hp
      have c1 := f1.reg i hlt2
      have c2 := f2.reg i hlt2
      have z1 := f1.free (1 + i) (by omega)
      have z2 := f2.free (1 + i) (by omega)
      obtain ⟨y, hy⟩ : ∃ y, y = zs.getD i 0 := ⟨_, rfl⟩
      rw [← hy] at hc
      have e1 : rgI zs (i + 1) = (rgI zs i).set i y := by rw [hy]; rfl
      have l1 : ((rgI zs i).set i y).length = 32 := by rw [List.length_set, rgI_length]
      have G1 := Lib.hid (frame_row N ((f1.setReg i hlt2 y).top.other ⟨b + 1, 1 + i, none⟩ (by simp) (.int .u64 y)) l1)
      have G2 := Lib.hid (frame_row N (((frame_row N (f2.top.other ⟨b, 1 + i, none⟩ (by simp) (.int .u64 y)) (rgI_length zs i))).setReg i hlt2 y).top l1)
      have GB := Lib.hid ((hbl.setCell (p := ⟨b, 1 + i, none⟩) (Nat.le_of_eq HZ.out.symm) (.int .u64 y)).setCell (p := ⟨b + 1, 1 + i, none⟩) (by have := HZ.out; simp; omega) (.int .u64 y))
      rw [← e1] at G1 G2
      have hi3 : (i : Int) < 32 := by omega
      clear f1 f2 hbl hp hy e1 l1
      simp only at c1 c2
      go_upto_region 5 with fail
      go_region
      go_wp2_with fail
      go_roundw
      case rel => exact ⟨i + 1, by omega, by omega, by go_num, G1.out.drewN 1, G2.out.drewN 1, GB.out.drew⟩
      case measure => simp [intOf]; omega
    · have FIN := Lib.hid (show FramePost pc zs N w (.returned (.tuple #[.pointer (some ⟨b, 0, none⟩), .pointer (some ⟨b + 1, 0, none⟩)])) wr from ⟨b, i, rfl, HZ.out, by have := HL.out; omega, f1, f2, hbl⟩)
      have hexit : L ≤ i ∨ (i < L ∧ 32 ≤ i) := by omega
      clear hlt f1 f2 hbl
      rcases hexit with he | ⟨he, he2⟩
      all_goals
        go_wp2_with fail
        go_loop [11] (fun vi => vi = .int .i64 0) (fun _ => 0)
        case atStart => rfl
        case round =>
          obtain rfl := hrel
          go_wp2_with fail
          go_ret2
          exact FIN.out
end Go.Proofs.YtobbmhboahognaaDoor
