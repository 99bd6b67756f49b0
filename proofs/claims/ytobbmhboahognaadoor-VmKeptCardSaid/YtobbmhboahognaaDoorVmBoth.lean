/- The statements' two memories (layer 6): the contract of both: so many cells, the same of the program's and of the document's, with the values laid. The conditions: the values lie there; they are words. -/
import Derived.Test.YtobbmhboahognaaDoorMemCalls
import Derived.Test.YtobbmhboahognaaDoorMemNew
import Derived.Test.YtobbmhboahognaaDoorRefMemNew
import Derived.Test.YtobbmhboahognaaDoorRefMemDo
import Derived.Test.YtobbmhboahognaaDoorLawClose
namespace Go.Proofs.YtobbmhboahognaaDoor
open Go.RowKit
set_option linter.unusedVariables false

/-- The widths. -/
def vws : List Int := [64, 64, 64, 64, 64, 64, 64, 64, 32, 32, 32, 0]
def Vm0 (hs : List Int) (n : Int) : Cells := { ws := vws, hs := hs, n := n }
/-- What the cells hold behind i of the values. -/
def stI (zs : List Int) : Nat → List Int
  | 0 => List.replicate 12 0
  | i + 1 => (stI zs i).set i (cut (widthAt vws i) (zs.getD i 0))
theorem vws_ok (i : Nat) (h : i < 11) : widthAt vws i ≠ 0 := by
  match i, h with
  | 0, _ | 1, _ | 2, _ | 3, _ | 4, _ | 5, _ | 6, _ | 7, _ | 8, _ | 9, _ | 10, _ => decide
/-- Both memories in one state, their blocks apart. -/
structure VBoth (w : World) (b bc r bw bh : Nat) (m : Cells) : Prop where
  p : MemAt w b bc m 11
  q : RefMem w r bw bh m
  g : Good m
  ne : (b ≠ r ∧ b ≠ bw ∧ b ≠ bh) ∧ (bc ≠ r ∧ bc ≠ bw ∧ bc ≠ bh)
theorem v_m1 : ({ ws := fillIn 64 (List.replicate 12 0) 0 8, hs := fillIn 0 (List.replicate 12 0) 0 8, n := 0 } : Cells) = { ws := [64, 64, 64, 64, 64, 64, 64, 64, 0, 0, 0, 0], hs := List.replicate 12 0, n := 0 } := by kernel_rfl
theorem v_m2 : ({ ws := fillIn 32 [64, 64, 64, 64, 64, 64, 64, 64, 0, 0, 0, 0] 8 3, hs := fillIn 0 (List.replicate 12 0) 8 3, n := 0 } : Cells) = Vm0 (List.replicate 12 0) 0 := by kernel_rfl
theorem v_good : Good (Vm0 (List.replicate 12 0) 0) := by
  have g := ((Good.fresh 12 (by omega)).fill (a := 0) (c := 8) (k := 64) (N := 0) (by simp) (Or.inr (Or.inr rfl)))
  rw [v_m1] at g
  have g2 := g.fill (a := 8) (c := 3) (k := 32) (N := 0) (by simp) (Or.inr (Or.inl rfl))
  have e : ({ ws := fillIn 32 [64, 64, 64, 64, 64, 64, 64, 64, 0, 0, 0, 0] 8 3, hs := fillIn 0 (List.replicate 12 0) 8 3, n := 0 } : Cells) = Vm0 (List.replicate 12 0) 0 := v_m2
  rw [e] at g2
  exact g2
theorem v_map1 {W : World} {b bc : Nat} (h : MemAt W b bc { ws := List.replicate 12 0, hs := List.replicate 12 0, n := 0 } 0) :
    Calls Tryd.prog 36 #[.pointer (some ⟨b, 0, none⟩), .int .i64 0, .int .i64 8, .int .i64 64] W fun e w' => e = .returned .nilIface ∧ MemAt w' b bc { ws := [64, 64, 64, 64, 64, 64, 64, 64, 0, 0, 0, 0], hs := List.replicate 12 0, n := 0 } 8 ∧ Only [b, bc] W w' := by
  have := memMap_done h (by simp) 0 8 64 (by omega) (by simp) (Or.inl rfl) (by kernel_rfl) (by omega) (by omega)
  rw [← v_m1]; exact this
theorem v_map2 {W : World} {b bc : Nat} (h : MemAt W b bc { ws := [64, 64, 64, 64, 64, 64, 64, 64, 0, 0, 0, 0], hs := List.replicate 12 0, n := 0 } 8) :
    Calls Tryd.prog 36 #[.pointer (some ⟨b, 0, none⟩), .int .i64 8, .int .i64 3, .int .i64 32] W fun e w' => e = .returned .nilIface ∧ MemAt w' b bc (Vm0 (List.replicate 12 0) 0) 11 ∧ Only [b, bc] W w' := by
  have := memMap_done h (by simp) 8 3 32 (by omega) (by simp) (Or.inr rfl) (by kernel_rfl) (by omega) (by omega)
  rw [← v_m2]; exact this
theorem v_ref1 {W : World} {b bw bh : Nat} (h : RefMem W b bw bh { ws := List.replicate 12 0, hs := List.replicate 12 0, n := 0 }) :
    Calls Tryd.prog 37 #[.pointer (some ⟨b, 0, none⟩), .int .i64 0, .int .i64 8, .int .i64 64] W fun e w' => e = .returned (.pointer none) ∧ RefMem w' b bw bh { ws := [64, 64, 64, 64, 64, 64, 64, 64, 0, 0, 0, 0], hs := List.replicate 12 0, n := 0 } ∧ Only [bw, bh] W w' := by
  have := refMap_done64 h (by simp) 0 8 (by omega) (by simp) (by kernel_rfl)
  rw [← v_m1]; exact this
theorem v_ref2 {W : World} {b bw bh : Nat} (h : RefMem W b bw bh { ws := [64, 64, 64, 64, 64, 64, 64, 64, 0, 0, 0, 0], hs := List.replicate 12 0, n := 0 }) :
    Calls Tryd.prog 37 #[.pointer (some ⟨b, 0, none⟩), .int .i64 8, .int .i64 3, .int .i64 32] W fun e w' => e = .returned (.pointer none) ∧ RefMem w' b bw bh (Vm0 (List.replicate 12 0) 0) ∧ Only [bw, bh] W w' := by
  have := refMap_done32 h (by simp) 8 3 (by omega) (by simp) (by kernel_rfl)
  rw [← v_m2]; exact this
theorem v_next (zs : List Int) (i : Nat) (hi : i < 11) (N M : Int) (g : Good (Vm0 (stI zs i) N)) (h0 : 0 ≤ zs.getD i 0) (h1 : zs.getD i 0 ≤ 18446744073709551615) : Good (Vm0 (stI zs (i + 1)) M) := by
  have hc := cut_range (widthAt vws i) (zs.getD i 0) h0 h1
  exact g.acc (i := i) (by show i < 12; omega) hc.1 hc.2 (cut_cut _ _)
theorem v_store {W : World} {b bc : Nat} (zs : List Int) (i : Nat) (hi : i < 11) (h : MemAt W b bc (Vm0 (stI zs i) i) 11) (g : Good (Vm0 (stI zs i) i)) (h0 : 0 ≤ zs.getD i 0) (h1 : zs.getD i 0 ≤ 18446744073709551615) :
    Calls Tryd.prog 38 #[.pointer (some ⟨b, 0, none⟩), .int .u64 i, .int .u64 (zs.getD i 0)] W fun e w' => e = .returned .nilIface ∧ MemAt w' b bc (Vm0 (stI zs (i + 1)) (i + 1)) 11 ∧ Only [b, bc] W w' :=
  memStore h g (by show (0 : Int) ≤ i; omega) (by show (i : Int) < _; omega) i (zs.getD i 0) h0 h1 (vws_ok i hi)
theorem v_do {W : World} {b bw bh : Nat} (zs : List Int) (i : Nat) (hi : i < 11) (h : RefMem W b bw bh (Vm0 (stI zs i) i)) (g : Good (Vm0 (stI zs i) i)) (h0 : 0 ≤ zs.getD i 0) (h1 : zs.getD i 0 ≤ 18446744073709551615) :
    Calls Tryd.prog 39 #[.pointer (some ⟨b, 0, none⟩), .int .i64 1, .int .u64 i, .int .u64 0, .int .u64 (zs.getD i 0)] W fun e w' => ∃ u, e = .returned (.tuple #[.int .u64 u, .pointer none]) ∧ RefMem w' b bw bh (Vm0 (stI zs (i + 1)) (i + 1)) ∧ Only [b, bw, bh] W w' :=
  (refDo1 h g.small (by show (0 : Int) ≤ i; omega) (by show (i : Int) < _; omega) i 0 (zs.getD i 0) h0 h1 (by omega) (by omega) (g.h0 i) (g.h1 i) (by show i < 12; omega) (vws_ok i hi)).mono fun e w' hp => ⟨_, hp⟩
def ValsOk (zs : List Int) : Prop := ∀ i, 0 ≤ zs.getD i 0 ∧ zs.getD i 0 ≤ 18446744073709551615
/-- What both leaves. -/
def BothPost (zs : List Int) (w : World) (e : Ending) (w' : World) : Prop := ∃ b bc r bw bh n : Nat, e = .returned (.tuple #[.pointer (some ⟨b, 0, none⟩), .pointer (some ⟨r, 0, none⟩)]) ∧ n = min zs.length 11 ∧
  VBoth w' b bc r bw bh (Vm0 (stI zs n) n) ∧ Below w.heap.size w w' ∧ w.heap.size ≤ b ∧ w.heap.size ≤ bc ∧ w.heap.size ≤ r ∧ w.heap.size ≤ bw ∧ w.heap.size ≤ bh
theorem err_nil' (w : World) : (binOp .neq 37 .nilIface .nilIface).run Tryd.prog w = .ok (.bool false) w := by kernel_rfl

set_option maxHeartbeats 4000000 in
set_option maxRecDepth 100000 in
theorem both_any (A : Option Addr) (cap : Nat) (zs : List Int) (w : World) (hl : zs.length ≤ 9223372036854775807) (hI : IntsIn w .u64 A zs) (hz : ValsOk zs) :
    Calls Tryd.prog 7 #[.slice A zs.length cap] w (BothPost zs w) := by
  have NP := Lib.hid (memNew 12 (by omega) (by omega) w)
  have NR := Lib.hid (fun W => refNew 12 (by omega) (by omega) W)
  have HI := Lib.hid hI
  have HZ := Lib.hid hz
  have q1 := err_nil'
  obtain ⟨L, hL⟩ : ∃ L, L = zs.length := ⟨_, rfl⟩
  rw [← hL] at hl ⊢
  have HL := Lib.hid hL
  clear hI hz hL
  go_enter Tryd.func7, Tryd.ntmps7
  go_wp2_with fail
  go_at_call 34
  refine NP.out.mono ?_
  rintro e w1 ⟨b, bc, rfl, hm, hb, hb1, hb2⟩
  have M := Lib.hid hm
  have HB := Lib.hid hb
  clear hm hb NP
  go_wp2_with fail
  go_at_call 35
  refine (NR.out _).mono ?_
  rintro e w2 ⟨r, bw, bh, rfl, hr, hbr, hr1, hr2, hr3⟩
  have R := Lib.hid hr
  have M2 := Lib.hid (M.out.only (F := []) (Only.of_below hbr) (by simp) (by simp))
  have l1 := M.out.top.lt
  have l2 := M.out.lt
  have HB2 := Lib.hid (HB.out.trans (hbr.mono HB.out.size))
  have hs1 := HB.out.size
  clear hr hbr M HB NR
  go_wp2_with fail
  go_at_call 36
  refine (v_map1 M2.out).mono ?_
  rintro e w3 ⟨rfl, hm, ho⟩
  have M3 := Lib.hid hm
  have R3 := Lib.hid (R.out.only ho (by simp; omega) (by simp; omega) (by simp; omega))
  have HB3 := Lib.hid (HB2.out.trans (ho.below (B := w.heap.size) (by simp; omega) HB2.out.size))
  clear hm ho M2 HB2 R
  go_wp2_with fail
  go_at_call 36
  refine (v_map2 M3.out).mono ?_
  rintro e w4 ⟨rfl, hm, ho⟩
  have M4 := Lib.hid hm
  have R4 := Lib.hid (R3.out.only ho (by simp; omega) (by simp; omega) (by simp; omega))
  have HB4 := Lib.hid (HB3.out.trans (ho.below (B := w.heap.size) (by simp; omega) HB3.out.size))
  clear hm ho M3 HB3 R3
  go_wp2_with fail
  go_at_call 37
  refine (v_ref1 R4.out).mono ?_
  rintro e w5 ⟨rfl, hr, ho⟩
  have R5 := Lib.hid hr
  have M5 := Lib.hid (M4.out.only ho (by simp; omega) (by simp; omega))
  have HB5 := Lib.hid (HB4.out.trans (ho.below (B := w.heap.size) (by simp; omega) HB4.out.size))
  clear hr ho M4 HB4 R4
  go_wp2_with fail
  go_at_call 37
  refine (v_ref2 R5.out).mono ?_
  rintro e w6 ⟨rfl, hr, ho⟩
  have VB := Lib.hid (⟨M5.out.only ho (by simp; omega) (by simp; omega), hr, v_good, ⟨by omega, by omega, by omega⟩, ⟨by omega, by omega, by omega⟩⟩ : VBoth w6 b bc r bw bh (Vm0 (List.replicate 12 0) 0))
  have HB6 := Lib.hid (HB5.out.trans (ho.below (B := w.heap.size) (by simp; omega) HB5.out.size))
  have hs6 : w.heap.size ≤ bc ∧ w.heap.size ≤ r ∧ w.heap.size ≤ bw ∧ w.heap.size ≤ bh := ⟨by omega, by omega, by omega, by omega⟩
  have HS := Lib.hid hs6
  clear hr ho M5 HB5 R5 hs6 hr1 hr2 hr3 l1 l2 hs1 hb2
  go_wp2_with fail
  go_loopw [8] (fun vi wr => ∃ i : Nat, i ≤ L ∧ i ≤ 11 ∧ vi = .int .i64 i ∧ VBoth wr b bc r bw bh (Vm0 (stI zs i) i) ∧ Below w.heap.size w wr) (fun vi _ => L - (intOf vi).toNat)
  case atStart => exact ⟨0, by omega, by omega, rfl, VB.out, HB6.out⟩
  case round =>
    obtain ⟨i, hi, hi11, rfl, vb, hbl⟩ := hrel
    by_cases hlt : i < L ∧ i < 11
    · obtain ⟨hlt1, hlt2⟩ := hlt
      obtain ⟨p, rfl, hp, hc⟩ := HI.out i (by rw [← HL.out]; exact hlt1)
      have hc : wr.cell? (p.add i) = some (.int .u64 (zs.getD i 0)) := by rw [hbl.cell (by rw [ChangeShapes.block_add]; exact hp)]; exact hc
      have z0 := (HZ.out i).1
      have z1 := (HZ.out i).2
      have ST := Lib.hid (v_store zs i hlt2 vb.p vb.g z0 z1)
      have DO := Lib.hid (fun W (h : RefMem W r bw bh (Vm0 (stI zs i) i)) => v_do zs i hlt2 h vb.g z0 z1)
      have GG := Lib.hid (v_next zs i hlt2 i ((i + 1 : Nat) : Int) vb.g z0 z1)
      have VV := Lib.hid vb
      have HBL := Lib.hid hbl
      have hpl : (p.add i).block < w.heap.size := by rw [ChangeShapes.block_add]; exact hp
      have hlw := hbl.size
      obtain ⟨z, hzz⟩ : ∃ z, z = zs.getD i 0 := ⟨_, rfl⟩
      rw [← hzz] at hc ST DO
      clear vb hbl hp z0 z1 hzz
      go_wp2_with fail
      go_at_call 38
      refine ST.out.mono ?_
      rintro e w7 ⟨rfl, hm, ho⟩
      have hs := HS.out
      have hc7 : w7.cell? (p.add i) = some (.int .u64 z) := by
        rw [World.cell?_of_block (w := wr) (ho.block _ (by omega) (by simp; omega))]; exact hc
      have R7 := VV.out.q.only ho (by have := VV.out.ne; simp; omega) (by have := VV.out.ne; simp; omega) (by have := VV.out.ne; simp; omega)
      have D7 := Lib.hid (DO.out _ R7)
      have M7 := Lib.hid hm
      have HB7 := Lib.hid (HBL.out.trans (ho.below (B := w.heap.size) (by simp; omega) HBL.out.size))
      clear hm ho R7 hs hc ST DO
      go_wp2_with fail
      go_at_call 39
      refine D7.out.mono ?_
      rintro e w8 ⟨u, rfl, hr, ho⟩
      have hs := HS.out
      have V8 := Lib.hid (⟨M7.out.only ho (by have := VV.out.ne; simp; omega) (by have := VV.out.ne; simp; omega), hr, GG.out, VV.out.ne⟩ : VBoth w8 b bc r bw bh (Vm0 (stI zs (i + 1)) ((i + 1 : Nat) : Int)))
      have HB8 := Lib.hid (HB7.out.trans (ho.below (B := w.heap.size) (by simp; omega) HB7.out.size))
      clear hr ho hs hc7 D7
      go_wp2_with fail
      go_roundw
      case rel => exact ⟨i + 1, by omega, by omega, by go_num, V8.out, HB8.out⟩
      case measure => simp [intOf]; omega
    · have FIN := Lib.hid (show BothPost zs w (.returned (.tuple #[.pointer (some ⟨b, 0, none⟩), .pointer (some ⟨r, 0, none⟩)])) wr from
        ⟨b, bc, r, bw, bh, i, rfl, by have := HL.out; omega, vb, hbl, hb1, HS.out⟩)
      have hexit : L ≤ i ∨ (i < L ∧ 11 ≤ i) := by omega
      clear hlt vb hbl
      rcases hexit with he | ⟨he, he2⟩
      all_goals
        go_wp2_with fail
        go_ret2
        exact FIN.out
end Go.Proofs.YtobbmhboahognaaDoor
