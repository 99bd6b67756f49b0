/- The walk of MemTwo: it returns true; of what was there nothing has turned. The condition: the library's variable errors.errorType holds the type error. -/
import Derived.Test.YtdnamjlknmcdjaaDoorMemStep
import Derived.Test.YtdnamjlknmcdjaaDoorMemAwake
import Derived.Test.YtdnamjlknmcdjaaDoorRefMemNew
import Derived.Test.YtdnamjlknmcdjaaDoorMemOps
namespace Go.Proofs.YtdnamjlknmcdjaaDoor
open Go.RowKit
set_option linter.unusedVariables false

/-- Eight wide cells that hold 0; n accesses. -/
def Ew (n : Int) : Cells := { ws := List.replicate 8 64, hs := List.replicate 8 0, n := n }
theorem ew_width (n : Int) (i : Nat) (h : i < 8) : widthAt (Ew n).ws i = 64 := by
  show (List.replicate 8 (64 : Int)).getD i 0 = 64
  rw [List.getD, List.getElem?_replicate, if_pos h]; rfl
theorem ew_good (n : Int) : Good (Ew n) := by
  have := (Good.fresh 8 (by omega)).fill (a := 0) (c := 8) (N := n) (by simp) (Or.inr (Or.inr (rfl : (64 : Int) = 64)))
  rw [fill_rep, fill_rep] at this
  exact this
theorem ew_load {W : World} {b bc : Nat} (n : Int) (hn : 0 ≤ n) (hn1 : n ≤ 1000) (i : Nat) (hi : i < 8) (h : MemAt W b bc (Ew n) 8) :
    Calls Tryd.prog 21 #[.pointer (some ⟨b, 0, none⟩), .int .u64 i] W fun e w' => e = .returned (.tuple #[.int .u64 0, .nilIface]) ∧ MemAt w' b bc (Ew (n + 1)) 8 ∧ Only [b, bc] W w' := by
  have g0 : (Ew n).hs.getD i 0 = 0 := getD_rep 8 i
  refine (memLoad h (ew_good n) hn (by show n < _; omega) i (by rw [ew_width n i hi]; omega)).mono ?_
  rintro e w' ⟨he, hm, ho⟩
  have e1 : (Ew n).hs.set i ((Ew n).hs.getD i 0) = (Ew n).hs := set_self _ i
  rw [e1] at hm
  rw [g0] at he
  exact ⟨he, hm, ho⟩
theorem ew_map {w : World} {r bw bh : Nat} (h : RefMem w r bw bh { ws := List.replicate 8 0, hs := List.replicate 8 0, n := 0 }) :
    Calls Tryd.prog 20 #[.pointer (some ⟨r, 0, none⟩), .int .i64 0, .int .i64 8, .int .i64 64] w fun e w' => e = .returned (.pointer none) ∧ RefMem w' r bw bh (Ew 0) ∧ Only [bw, bh] w w' := by
  have := refMap_done64 h (by simp) 0 8 (by omega) (by simp) (firstNZ_rep 8)
  rw [fill_rep, fill_rep] at this
  exact this

set_option maxHeartbeats 4000000 in
set_option maxRecDepth 100000 in
theorem memTwo_walk (w : World) (A : Option Addr) (len cap : Nat) (hl : len ≤ maxLen) (hs : OpsIn w A len) (hg : ErrType w) :
    Calls Tryd.prog 5 #[.slice A len cap] w fun e w' => e = .returned (.bool true) ∧ Below w.heap.size w w' := by
  unfold maxLen at hl
  have S := Lib.hid hs
  have HG := Lib.hid hg
  have hgl : 0 < w.heap.size := cell_lt hg
  have AW := Lib.hid awake_any
  have FU := Lib.hid (fun W => full_any 8 (by omega) (by omega) W)
  have NR := Lib.hid (fun W => refNew 8 (by omega) (by omega) W)
  clear hs hg
  go_enter Tryd.func5, Tryd.ntmps5
  go_wp2_with fail
  go_at_call 19
  refine (FU.out _).mono ?_
  rintro e w1 ⟨b, bc, rfl, hm, hb, hb1, hb2⟩
  have M := Lib.hid (show MemAt w1 b bc (Ew 0) 8 from hm)
  clear hm
  go_wp2_with fail
  go_at_call 19
  refine (FU.out _).mono ?_
  rintro e w2 ⟨c, cc, rfl, hm2, hb3, hc1, hc2⟩
  have C := Lib.hid (show MemAt w2 c cc (Ew 0) 8 from hm2)
  have M2 := Lib.hid (M.out.only (F := []) (Only.of_below hb3) (by simp) (by simp))
  have hw2 : Below w.heap.size w w2 := hb.trans (hb3.mono hb.size)
  have lb1 := M.out.top.lt
  have lb2 := M.out.lt
  have sz1 := hb.size
  clear hm2 M hb3 hb
  go_wp2_with fail
  go_at_call 9
  refine (NR.out _).mono ?_
  rintro e w3 ⟨r, bw, bh, rfl, hr, hbr, hr1, hr2, hr3⟩
  have MP := Lib.hid (ew_map hr)
  have C3 := Lib.hid (C.out.only (F := []) (Only.of_below hbr) (by simp) (by simp))
  have M3 := Lib.hid (M2.out.only (F := []) (Only.of_below hbr) (by simp) (by simp))
  have hw3 : Below w.heap.size w w3 := hw2.trans (hbr.mono hw2.size)
  have lc1 := C.out.top.lt
  have lc2 := C.out.lt
  have sz2 := hw2.size
  have lr := hr.top.lt
  clear hr hbr C M2 hw2
  go_wp2_with fail
  go_at_call 20
  refine MP.out.mono ?_
  rintro e w4 ⟨rfl, hr4, ho4⟩
  have hbt : Both w4 b bc r bw bh (Ew 0) := by
    refine ⟨?_, hr4, ew_good 0, errType_only ho4 (by simp; omega) (errType_below hw3 HG.out hgl), ⟨by omega, by omega, by omega⟩, ⟨by omega, by omega, by omega⟩, by omega, by omega, by omega, by omega, by omega⟩
    have : countNZ (Ew 0).ws = 8 := by kernel_rfl
    rw [this]; exact M3.out.only ho4 (by simp; omega) (by simp; omega)
  have B4 := Lib.hid hbt
  have C4 := Lib.hid (C3.out.only ho4 (by simp; omega) (by simp; omega))
  have hw4 := Lib.hid (hw3.trans (ho4.below (by simp; omega) hw3.size))
  have nI : Hid (∀ x ∈ allB b bc r bw bh, w.heap.size ≤ x) := by
    intro x hx
    simp at hx
    omega
  have nC : Hid (c ∉ allB b bc r bw bh ∧ cc ∉ allB b bc r bw bh) := by
    constructor
    · simp; omega
    · simp; omega
  have hcw : w.heap.size ≤ c := by omega
  have hccw : w.heap.size ≤ cc := by omega
  clear hr4 ho4 hbt hw3 C3 M3
  go_wp2_with fail
  go_loopw [7] (fun vi wr => ∃ (i : Nat) (mi : Cells), i ≤ len ∧ i ≤ 40 ∧ vi = .int .i64 i ∧ 0 ≤ mi.n ∧ mi.n ≤ i ∧ Both wr b bc r bw bh mi ∧ MemAt wr c cc (Ew 0) 8 ∧ Below w.heap.size w wr) (fun vi _ => len - (intOf vi).toNat)
  case atStart => exact ⟨0, Ew 0, by omega, by omega, rfl, by simp [Ew], by simp [Ew], B4.out, C4.out, hw4.out⟩
  case round =>
    obtain ⟨i, mi, hi, hi40, rfl, n0, n1, hbt, hc, hbl⟩ := hrel
    by_cases hlt : i < len ∧ i < 40
    · obtain ⟨hlt1, hlt2⟩ := hlt
      obtain ⟨p, rfl, hp, d, a, n, k, ad, old, v, ⟨f0, f1, f2, f3, f4, f5, f6⟩, ra0, ra1, rn, rad, ro0, ro1, rv0, rv1⟩ := S.out i hlt1
      have pb : (p.add (i * 7)).block < w.heap.size := by rw [ChangeShapes.block_add]; exact hp
      have f0 : wr.cell? (p.add (i * 7)) = some (.int .i64 d) := by rw [hbl.cell pb]; exact f0
      have f1 : wr.cell? ⟨(p.add (i * 7)).block, (p.add (i * 7)).off + 1, none⟩ = some (.int .i64 a) := by rw [hbl.cell (p := ⟨_, _, none⟩) pb]; exact f1
      have f2 : wr.cell? ⟨(p.add (i * 7)).block, (p.add (i * 7)).off + 2, none⟩ = some (.int .i64 n) := by rw [hbl.cell (p := ⟨_, _, none⟩) pb]; exact f2
      have f3 : wr.cell? ⟨(p.add (i * 7)).block, (p.add (i * 7)).off + 3, none⟩ = some (.int .i64 k) := by rw [hbl.cell (p := ⟨_, _, none⟩) pb]; exact f3
      have f4 : wr.cell? ⟨(p.add (i * 7)).block, (p.add (i * 7)).off + 4, none⟩ = some (.int .u64 ad) := by rw [hbl.cell (p := ⟨_, _, none⟩) pb]; exact f4
      have f5 : wr.cell? ⟨(p.add (i * 7)).block, (p.add (i * 7)).off + 5, none⟩ = some (.int .u64 old) := by rw [hbl.cell (p := ⟨_, _, none⟩) pb]; exact f5
      have f6 : wr.cell? ⟨(p.add (i * 7)).block, (p.add (i * 7)).off + 6, none⟩ = some (.int .u64 v) := by rw [hbl.cell (p := ⟨_, _, none⟩) pb]; exact f6
      have DO := Lib.hid (do_any hbt d a n k ad old v n0 (by omega) rad ra0 ra1 rn ro0 ro1 rv0 rv1)
      have HL := Lib.hid hbl
      have HC := Lib.hid hc
      clear hbt hbl hc pb
      go_wp2_with fail
      go_at_call 10
      refine DO.out.mono ?_
      rintro e w5 ⟨rfl, m5, l5, p5, q5, hb5, ho5⟩
      have B5 := Lib.hid hb5
      have C5 := Lib.hid (HC.out.only ho5 nC.out.1 nC.out.2)
      have HL5 := Lib.hid (HL.out.trans (ho5.below nI.out HL.out.size))
      clear hb5 l5 ho5
      go_wp2_with fail
      go_roundw
      case rel => exact ⟨i + 1, m5, by omega, by omega, by go_num, by omega, by omega, B5.out, C5.out, HL5.out⟩
      case measure => simp [intOf]; omega
    · have HL := Lib.hid hbl
      have CN := Lib.hid (show Calls Tryd.prog 16 #[.pointer (some ⟨c, 0, none⟩)] wr fun e w' => e = .returned (.int .i64 0) ∧ wr = w' from memCount hc)
      have TH := Lib.hid (memThere hc)
      have HC := Lib.hid hc
      have hexit : len ≤ i ∨ (i < len ∧ 40 ≤ i) := by omega
      obtain ⟨wo, rfl⟩ : ∃ wo : World, wo = wr := ⟨_, rfl⟩
      clear hlt hbt hbl hc
      rcases hexit with he | ⟨he, he2⟩
      all_goals (
        go_wp2_with (first | (go_at_call 16; refine CN.out.mono ?_; rintro e w' ⟨rfl, rfl⟩) | (go_at_call 15; refine TH.out.mono ?_; rintro e w' ⟨rfl, rfl⟩))
        go_loopw [8] (fun vj wr => ∃ j : Nat, j ≤ 8 ∧ vj = .int .u64 j ∧ MemAt wr c cc (Ew j) 8 ∧ Below w.heap.size w wr) (fun vj _ => 8 - (intOf vj).toNat)
        case atStart => exact ⟨0, by omega, rfl, HC.out, HL.out⟩
        case round =>
          obtain ⟨j, hj, rfl, hm6, hb6⟩ := hrel
          by_cases hlj : j < 8
          · have LD := Lib.hid (ew_load j (by omega) (by omega) j hlj hm6)
            clear hm6
            go_wp2_with fail
            go_at_call 21
            refine LD.out.mono ?_
            rintro e w7 ⟨rfl, hm7, ho7⟩
            have M7 := Lib.hid hm7
            have hb7 : Below w.heap.size w w7 := hb6.trans (ho7.below (by simp; omega) hb6.size)
            clear hm7 ho7
            go_wp2_with fail
            go_roundw
            case rel => exact ⟨j + 1, by omega, by go_num, by have := M7.out; simpa using this, hb7⟩
            case measure => simp [intOf]; omega
          · clear hm6
            go_wp2_with fail
            go_at_call 12
            refine (AW.out _).mono ?_
            rintro e w8 ⟨rfl, hb8⟩
            go_wp2_with fail
            go_ret
            exact ⟨rfl, hb6.trans (hb8.mono hb6.size)⟩)
end Go.Proofs.YtdnamjlknmcdjaaDoor
