/- The walk of MemApart: it returns true; of what was there nothing has turned. -/
import Derived.Test.YtdnamjlknmcdjaaMemAwake
import Derived.Test.YtdnamjlknmcdjaaLawClose
import Derived.Test.YtdnamjlknmcdjaaKeepWithin
import Derived.Deep.RegionWith
namespace Go.Proofs.Ytdnamjlknmcdjaa
open Go.RowKit
set_option linter.unusedVariables false

/-- Sixteen wide cells that hold hs; n accesses. -/
def Wd (hs : List Int) (n : Int) : Cells := { ws := List.replicate 16 64, hs := hs, n := n }
/-- Sixteen words. -/
structure Sixteen (hs : List Int) : Prop where
  len : hs.length = 16
  h0 : ∀ i, 0 ≤ hs.getD i 0
  h1 : ∀ i, hs.getD i 0 ≤ 18446744073709551615
theorem rep64 (i : Nat) (h : i < 16) : widthAt (List.replicate 16 64) i = 64 := by
  show (List.replicate 16 (64 : Int)).getD i 0 = 64
  rw [List.getD, List.getElem?_replicate, if_pos h]; rfl
theorem Sixteen.good {hs : List Int} (h : Sixteen hs) (n : Int) : Good (Wd hs n) := by
  refine ⟨by simp [Wd, h.len], by simp [Wd], fun i => ?_, h.h0, h.h1, fun i => ?_⟩
  · by_cases g : i < 16
    · exact Or.inr (Or.inr (rep64 i g))
    · exact Or.inl (widthAt_out _ _ (by simp [Wd]; omega))
  · by_cases g : i < 16
    · show cut (widthAt (List.replicate 16 64) i) _ = _
      rw [rep64 i g, cut64]
    · have : (Wd hs n).hs.getD i 0 = 0 := by
        show hs.getD i 0 = 0
        simp [List.getD, List.getElem?_eq_none (show hs.length ≤ i by rw [h.len]; omega)]
      rw [this]; exact cut_zero _
theorem Sixteen.set {hs : List Int} (h : Sixteen hs) (i : Nat) (y : Int) (hi : i < 16) (y0 : 0 ≤ y) (y1 : y ≤ 18446744073709551615) : Sixteen (hs.set i y) := by
  have hl : i < hs.length := by rw [h.len]; exact hi
  refine ⟨by rw [List.length_set]; exact h.len, fun j => ?_, fun j => ?_⟩
  · rw [getD_set _ _ _ _ hl]; split
    · exact y0
    · exact h.h0 j
  · rw [getD_set _ _ _ _ hl]; split
    · exact y1
    · exact h.h1 j
theorem sixteen_zero : Sixteen (List.replicate 16 0) := ⟨by simp, fun i => by rw [getD_rep]; omega, fun i => by rw [getD_rep]; omega⟩
theorem wd_store {W : World} {b bc : Nat} (hs : List Int) (S : Sixteen hs) (n : Int) (hn : 0 ≤ n) (hn1 : n ≤ 1000) (i : Nat) (hi : i < 16) (v : Int) (v0 : 0 ≤ v) (v1 : v ≤ 18446744073709551615) (h : MemAt W b bc (Wd hs n) 16) :
    Calls Try.prog 7 #[.pointer (some ⟨b, 0, none⟩), .int .u64 i, .int .u64 v] W fun e w' => e = .returned .nilIface ∧ MemAt w' b bc (Wd (hs.set i v) (n + 1)) 16 ∧ Only [b, bc] W w' := by
  have := memStore h (S.good n) hn (by show n < _; omega) i v v0 v1 (by show widthAt (List.replicate 16 64) i ≠ 0; rw [rep64 i hi]; omega)
  rw [show widthAt (Wd hs n).ws i = 64 from rep64 i hi, cut64] at this
  exact this
theorem wd_load {W : World} {b bc : Nat} (hs : List Int) (S : Sixteen hs) (n : Int) (hn : 0 ≤ n) (hn1 : n ≤ 1000) (i : Nat) (hi : i < 16) (h : MemAt W b bc (Wd hs n) 16) :
    Calls Try.prog 9 #[.pointer (some ⟨b, 0, none⟩), .int .u64 i] W fun e w' => e = .returned (.tuple #[.int .u64 (hs.getD i 0), .nilIface]) ∧ MemAt w' b bc (Wd hs (n + 1)) 16 ∧ Only [b, bc] W w' := by
  have := memLoad h (S.good n) hn (by show n < _; omega) i (by show widthAt (List.replicate 16 64) i ≠ 0; rw [rep64 i hi]; omega)
  rw [show (Wd hs n).hs.getD i 0 = hs.getD i 0 from rfl] at this
  refine this.mono ?_
  rintro e w' ⟨he, hm, ho⟩
  have e1 : (Wd hs n).hs.set i (hs.getD i 0) = hs := set_self hs i
  rw [e1] at hm
  exact ⟨he, hm, ho⟩
theorem wd_swap {W : World} {b bc : Nat} (hs : List Int) (S : Sixteen hs) (n : Int) (hn : 0 ≤ n) (hn1 : n ≤ 1000) (i : Nat) (hi : i < 16) (v : Int) (v0 : 0 ≤ v) (v1 : v ≤ 18446744073709551615) (h : MemAt W b bc (Wd hs n) 16) :
    Calls Try.prog 10 #[.pointer (some ⟨b, 0, none⟩), .int .u64 i, .int .u64 v] W fun e w' => e = .returned (.tuple #[.int .u64 (hs.getD i 0), .nilIface]) ∧ MemAt w' b bc (Wd (hs.set i v) (n + 1)) 16 ∧ Only [b, bc] W w' := by
  have := memSwap h (S.good n) hn (by show n < _; omega) i v v0 v1 (by show widthAt (List.replicate 16 64) i ≠ 0; rw [rep64 i hi]; omega)
  rw [show widthAt (Wd hs n).ws i = 64 from rep64 i hi, cut64] at this
  exact this
theorem wd_add {W : World} {b bc : Nat} (hs : List Int) (S : Sixteen hs) (n : Int) (hn : 0 ≤ n) (hn1 : n ≤ 1000) (i : Nat) (hi : i < 16) (v : Int) (v0 : 0 ≤ v) (v1 : v ≤ 18446744073709551615) (h : MemAt W b bc (Wd hs n) 16) :
    Calls Try.prog 11 #[.pointer (some ⟨b, 0, none⟩), .int .u64 i, .int .u64 v] W fun e w' => e = .returned (.tuple #[.int .u64 (hs.getD i 0), .nilIface]) ∧ MemAt w' b bc (Wd (hs.set i (summ 64 (hs.getD i 0) v)) (n + 1)) 16 ∧ Only [b, bc] W w' := by
  have := memAdd h (S.good n) hn (by show n < _; omega) i v v0 v1 (by show widthAt (List.replicate 16 64) i ≠ 0; rw [rep64 i hi]; omega)
  rw [show widthAt (Wd hs n).ws i = 64 from rep64 i hi] at this
  exact this
theorem wd_cas {W : World} {b bc : Nat} (hs : List Int) (S : Sixteen hs) (n : Int) (hn : 0 ≤ n) (hn1 : n ≤ 1000) (i : Nat) (hi : i < 16) (old v : Int) (o0 : 0 ≤ old) (o1 : old ≤ 18446744073709551615) (v0 : 0 ≤ v) (v1 : v ≤ 18446744073709551615) (h : MemAt W b bc (Wd hs n) 16) :
    Calls Try.prog 12 #[.pointer (some ⟨b, 0, none⟩), .int .u64 i, .int .u64 old, .int .u64 v] W fun e w' => e = .returned (.tuple #[.int .u64 (hs.getD i 0), .nilIface]) ∧ MemAt w' b bc (Wd (hs.set i (casVal 64 (hs.getD i 0) old v)) (n + 1)) 16 ∧ Only [b, bc] W w' := by
  have := memCas h (S.good n) hn (by show n < _; omega) i old o0 o1 v v0 v1 (by show widthAt (List.replicate 16 64) i ≠ 0; rw [rep64 i hi]; omega)
  rw [show widthAt (Wd hs n).ws i = 64 from rep64 i hi] at this
  exact this
theorem row_u64 {w : World} {q : Nat} {hs : List Int} (h : Row w q (hs.map (Value.int .u64))) (i : Nat) (hi : i < hs.length) : w.cell? ⟨q, i, none⟩ = some (.int .u64 (hs.getD i 0)) := by
  have := h.cell i (by simpa using hi); simpa [hi] using this
theorem zero16 : (List.replicate 16 (0 : Int)).map (Value.int .u64) = List.replicate 16 (Value.int .u64 0) := by simp

set_option maxHeartbeats 8000000 in
set_option maxRecDepth 100000 in
theorem memApart_0 (d a' n' wd' : Int) (ad at' : Nat) (old v : Int) (hd : d % 5 = 0) (hat : at' < 16) (had : (ad : Int) % 16 = at') (hadr : (ad : Int) ≤ 18446744073709551615) (o0 : 0 ≤ old) (o1 : old ≤ 18446744073709551615) (v0 : 0 ≤ v) (v1 : v ≤ 18446744073709551615)
    (w : World) (A : Option Addr) (cap : Nat) (zs : List Int) (hl : zs.length ≤ maxLen) (hs : IntsIn w .u64 A zs) (hw : ∀ z ∈ zs, (Lit.int .u64 z).wf = true) :
    Calls Try.prog 3 #[.slice A zs.length cap, .agg #[.int .i64 d, .int .i64 a', .int .i64 n', .int .i64 wd', .int .u64 ad, .int .u64 old, .int .u64 v]] w fun e w' => e = .returned (.bool true) ∧ Below w.heap.size w w' := by
  have U := Lib.hid (fun i h => u64_mem hw i h)
  have S0 := Lib.hid hs
  have WI := Lib.hid (fun W => within_any d 5 (by omega) (by omega) W)
  rw [hd] at WI
  have AW := Lib.hid awake_any
  have NW := Lib.hid (full_any 16 (by omega) (by omega) (w.alloc (.cells #[.int .i64 d, .int .i64 a', .int .i64 n', .int .i64 wd', .int .u64 ad, .int .u64 old, .int .u64 v] 25)))
  have XB := Row.new w [.int .i64 d, .int .i64 a', .int .i64 n', .int .i64 wd', .int .u64 ad, .int .u64 old, .int .u64 v] 25
  obtain ⟨x0, hx0⟩ : ∃ x0, x0 = w.heap.size := ⟨_, rfl⟩
  have hbW : Below w.heap.size w (w.alloc (.cells #[.int .i64 d, .int .i64 a', .int .i64 n', .int .i64 wd', .int .u64 ad, .int .u64 old, .int .u64 v] 25)) := (Below.refl _ _).alloc (Nat.le_refl _) _
  obtain ⟨L, hL⟩ : ∃ L, L = zs.length := ⟨_, rfl⟩
  rw [← hL] at hl ⊢
  unfold maxLen at hl
  have HL := Lib.hid hL
  have XX := Lib.hid XB
  clear hL hs hw hd XB hx0
  have HAD := Lib.hid had
  clear had
  go_enter Try.func3, Try.ntmps3
  go_wp2_with fail
  go_at_call 6
  refine NW.out.mono ?_
  rintro e w1 ⟨b, bc, rfl, hm, hb, hb1, hb2⟩
  simp only [World.size_alloc] at hb1 hb2
  have hb' : Below w.heap.size w w1 := hbW.trans (hb.mono (by simp))
  have XB1 := Lib.hid (XX.out.below hb (by simp))
  have M := Lib.hid (show MemAt w1 b bc (Wd (List.replicate 16 0) 0) 16 from hm)
  clear hb hbW hm
  go_wp2_with fail
  have Q := Lib.hid (Row.new w1 (List.replicate 16 (Value.int .u64 0)) 28)
  go_loopw [7] (fun vi wr => ∃ (i : Nat) (hs : List Int), i ≤ 16 ∧ i ≤ L ∧ vi = .int .i64 i ∧ Sixteen hs ∧ MemAt wr b bc (Wd hs i) 16 ∧ Row wr w1.heap.size (hs.map (Value.int .u64)) ∧ Only [b, bc] w1 wr) (fun vi _ => 16 - (intOf vi).toNat)
  case atStart => exact ⟨0, List.replicate 16 0, by omega, by omega, rfl, sixteen_zero, M.out.alloc _, Q.out, (Only.refl _ _).alloc _⟩
  case round =>
    obtain ⟨i, hs, hi, hiL, rfl, S, hm, hq, ho⟩ := hrel
    have hbr : Below w.heap.size w wr := hb'.trans (ho.below (by simp; omega) hb'.size)
    have bq1 : b < w1.heap.size := M.out.top.lt
    have bq2 : bc < w1.heap.size := M.out.lt
    by_cases hlt : i < 16 ∧ i < L
    · obtain ⟨hlt1, hlt2⟩ := hlt
      have hlz : i < zs.length := by rw [← HL.out]; exact hlt2
      obtain ⟨a, rfl, hal, hac⟩ := S0.out i hlz
      obtain ⟨z0, z1⟩ := U.out i hlz
      have hac' : wr.cell? (a.add i) = some (.int .u64 (zs.getD i 0)) := by rw [hbr.cell (p := a.add i) (by rw [ChangeShapes.block_add]; exact hal)]; exact hac
      obtain ⟨z, ez⟩ : ∃ z, z = zs.getD i 0 := ⟨_, rfl⟩
      rw [← ez] at z0 z1 hac'
      have ST := Lib.hid (wd_store hs S i (by omega) (by omega) i hlt1 z z0 z1 hm)
      have HS := Lib.hid S
      have HQ := Lib.hid hq
      clear ez hac S hm hq
      go_wp2_with fail
      go_at_call 7
      refine ST.out.mono ?_
      rintro e w3 ⟨rfl, hm3, ho3⟩
      have M3 := Lib.hid hm3
      have Q3 := Lib.hid (HQ.out.only ho3 (by simp; omega))
      have hac3 : w3.cell? (a.add i) = some (.int .u64 z) := by
        rw [World.cell?_of_block (ho3.block (a.add i).block (by rw [ChangeShapes.block_add]; exact Nat.lt_of_lt_of_le hal hbr.size) (by rw [ChangeShapes.block_add]; simp; omega))]; exact hac'
      have hc3 := row_u64 Q3.out i (by rw [HS.out.len]; exact hlt1)
      have hf3 := Q3.out.free i (by rw [List.length_map, HS.out.len]; exact hlt1)
      obtain ⟨y, ey⟩ : ∃ y, y = hs.getD i 0 := ⟨_, rfl⟩
      rw [← ey] at hc3
      have O3 := Lib.hid (ho.trans ho3)
      clear hm3 hac' ey ho3
      go_wp2_with fail
      go_roundw
      case rel =>
        refine ⟨i + 1, hs.set i z, by omega, by omega, by go_num, HS.out.set i z hlt1 z0 z1, ?_, ?_, O3.out.setCell (Or.inr (by simp)) _⟩
        · exact M3.out.of_blocks (Below.heap_setCell _ _ _ _ (by simp; omega)) (Below.heap_setCell _ _ _ _ (by simp; omega))
        · rw [List.map_set]; exact Q3.out.set i (by rw [List.length_map, HS.out.len]; exact hlt1) _
      case measure => simp [intOf]; omega
    · have XBr := (XB1.out.only ho (by simp; omega))
      have x0 := XBr.cell 0 (by simp)
      have x4 := XBr.cell 4 (by simp)
      have x5 := XBr.cell 5 (by simp)
      have x6 := XBr.cell 6 (by simp)
      simp only [List.getElem_cons_zero, List.getElem_cons_succ] at x0 x4 x5 x6
      have cq := row_u64 hq at' (by rw [S.len]; exact hat)
      have OPC := Lib.hid (wd_load hs S i (by omega) (by omega) at' hat hm)
      have SN : Hid (Sixteen (hs)) := S
      have GD : Hid (∀ j, j ≠ at' → (hs).getD j 0 = hs.getD j 0) := fun j hj => rfl
      have HS := Lib.hid S
      have HQ := Lib.hid hq
      obtain ⟨y, ey⟩ : ∃ y, y = hs.getD at' 0 := ⟨_, rfl⟩
      rw [← ey] at cq
      have OP2 : Hid (Calls Try.prog 9 #[.pointer (some ⟨b, 0, none⟩), .int .u64 at'] wr fun e w' => e = .returned (.tuple #[.int .u64 y, .nilIface]) ∧ MemAt w' b bc (Wd (hs) (i + 1)) 16 ∧ Only [b, bc] wr w') := by
        rw [ey]; exact OPC.out
      have EY := Lib.hid ey
      skip
      have had := HAD.out
      have HX := Lib.hid XBr
      clear ey  S hm hq OPC XBr
      have hexit : 16 ≤ i ∨ (i < 16 ∧ L ≤ i) := by omega
      clear hlt
      obtain ⟨wo, rfl⟩ : ∃ wo : World, wo = wr := ⟨_, rfl⟩
      rcases hexit with he | ⟨he, he2⟩
      all_goals (
        go_wp2_with (go_at_call 8; refine (WI.out _).mono ?_; rintro e w' ⟨rfl, rfl⟩)
        go_at_call 9
        refine OP2.out.mono ?_
        rintro e w3 ⟨rfl, hm3, ho3⟩
        have M3 := Lib.hid hm3
        have Q3 := Lib.hid (HQ.out.only ho3 (by simp; omega))
        have O3 := Lib.hid (ho.trans ho3)
        have cq3 := row_u64 Q3.out at' (by rw [HS.out.len]; exact hat)
        rw [← EY.out] at cq3
        clear hm3 ho3
        clear cq x0 x4 x5 x6 had
        go_wp2_with fail
        go_loopw [11] (fun vj wr2 => ∃ j : Nat, j ≤ 16 ∧ vj = .int .u64 j ∧ MemAt wr2 b bc (Wd hs ((i : Int) + 1 + j)) 16 ∧ Row wr2 w1.heap.size (hs.map (Value.int .u64)) ∧ Only [b, bc] w1 wr2) (fun vj _ => 16 - (intOf vj).toNat)
        case atStart => exact ⟨0, by omega, rfl, by simpa using M3.out, Q3.out, O3.out⟩
        case round =>
          obtain ⟨j, hj, rfl, hm4, hq4, ho4⟩ := hrel
          by_cases hlt : j < 16
          · have LD := Lib.hid (wd_load hs SN.out ((i : Int) + 1 + j) (by omega) (by omega) j hlt hm4)
            have HQ4 := Lib.hid hq4
            clear hm4 hq4
            by_cases hja : j = at'
            · subst hja
              go_wp2_with fail
              go_at_call 9
              refine LD.out.mono ?_
              rintro e w5 ⟨rfl, hm5, ho5⟩
              have M5 := Lib.hid hm5
              have Q5 := Lib.hid (HQ4.out.only ho5 (by simp; omega))
              have O5 := Lib.hid (ho4.trans ho5)
              have cq5 := row_u64 Q5.out j (by rw [HS.out.len]; exact hlt)
              clear hm5 ho5
              go_wp2_with fail
              go_roundw
              case rel => exact ⟨j + 1, by omega, by go_num, by rw [show ((j + 1 : Nat) : Int) = (j : Int) + 1 by omega, ← Int.add_assoc]; exact M5.out, Q5.out, O5.out⟩
              case measure => simp [intOf]; omega
            · have gd := GD.out j hja
              obtain ⟨u, eu⟩ : ∃ u, u = hs.getD j 0 := ⟨_, rfl⟩
              have LD2 : Hid (Calls Try.prog 9 #[.pointer (some ⟨b, 0, none⟩), .int .u64 j] wr fun e w' => e = .returned (.tuple #[.int .u64 u, .nilIface]) ∧ MemAt w' b bc (Wd hs ((i : Int) + 1 + j + 1)) 16 ∧ Only [b, bc] wr w') := by rw [eu]; exact LD.out
              have EU := Lib.hid eu
              clear eu
              have tj : ((j : Int) != (at' : Int)) = true := by simp; omega
              clear gd LD
              go_wp2_with fail
              go_at_call 9
              refine LD2.out.mono ?_
              rintro e w5 ⟨rfl, hm5, ho5⟩
              have M5 := Lib.hid hm5
              have Q5 := Lib.hid (HQ4.out.only ho5 (by simp; omega))
              have O5 := Lib.hid (ho4.trans ho5)
              have cq5 := row_u64 Q5.out j (by rw [HS.out.len]; exact hlt)
              rw [← EU.out] at cq5
              clear hm5 ho5
              go_wp2_with fail
              go_roundw
              case rel => exact ⟨j + 1, by omega, by go_num, by rw [show ((j + 1 : Nat) : Int) = (j : Int) + 1 by omega, ← Int.add_assoc]; exact M5.out, Q5.out, O5.out⟩
              case measure => simp [intOf]; omega
          · have hb4 : Below w.heap.size w wr := hb'.trans (ho4.below (by simp; omega) hb'.size)
            clear hm4 hq4
            go_wp2_with fail
            go_at_call 13
            refine (AW.out _).mono ?_
            rintro e w6 ⟨rfl, hb6⟩
            go_wp2_with fail
            go_ret
            exact ⟨rfl, hb4.trans (hb6.mono hb4.size)⟩)

set_option maxHeartbeats 8000000 in
set_option maxRecDepth 100000 in
theorem memApart_1 (d a' n' wd' : Int) (ad at' : Nat) (old v : Int) (hd : d % 5 = 1) (hat : at' < 16) (had : (ad : Int) % 16 = at') (hadr : (ad : Int) ≤ 18446744073709551615) (o0 : 0 ≤ old) (o1 : old ≤ 18446744073709551615) (v0 : 0 ≤ v) (v1 : v ≤ 18446744073709551615)
    (w : World) (A : Option Addr) (cap : Nat) (zs : List Int) (hl : zs.length ≤ maxLen) (hs : IntsIn w .u64 A zs) (hw : ∀ z ∈ zs, (Lit.int .u64 z).wf = true) :
    Calls Try.prog 3 #[.slice A zs.length cap, .agg #[.int .i64 d, .int .i64 a', .int .i64 n', .int .i64 wd', .int .u64 ad, .int .u64 old, .int .u64 v]] w fun e w' => e = .returned (.bool true) ∧ Below w.heap.size w w' := by
  have U := Lib.hid (fun i h => u64_mem hw i h)
  have S0 := Lib.hid hs
  have WI := Lib.hid (fun W => within_any d 5 (by omega) (by omega) W)
  rw [hd] at WI
  have AW := Lib.hid awake_any
  have NW := Lib.hid (full_any 16 (by omega) (by omega) (w.alloc (.cells #[.int .i64 d, .int .i64 a', .int .i64 n', .int .i64 wd', .int .u64 ad, .int .u64 old, .int .u64 v] 25)))
  have XB := Row.new w [.int .i64 d, .int .i64 a', .int .i64 n', .int .i64 wd', .int .u64 ad, .int .u64 old, .int .u64 v] 25
  obtain ⟨x0, hx0⟩ : ∃ x0, x0 = w.heap.size := ⟨_, rfl⟩
  have hbW : Below w.heap.size w (w.alloc (.cells #[.int .i64 d, .int .i64 a', .int .i64 n', .int .i64 wd', .int .u64 ad, .int .u64 old, .int .u64 v] 25)) := (Below.refl _ _).alloc (Nat.le_refl _) _
  obtain ⟨L, hL⟩ : ∃ L, L = zs.length := ⟨_, rfl⟩
  rw [← hL] at hl ⊢
  unfold maxLen at hl
  have HL := Lib.hid hL
  have XX := Lib.hid XB
  clear hL hs hw hd XB hx0
  have HAD := Lib.hid had
  clear had
  go_enter Try.func3, Try.ntmps3
  go_wp2_with fail
  go_at_call 6
  refine NW.out.mono ?_
  rintro e w1 ⟨b, bc, rfl, hm, hb, hb1, hb2⟩
  simp only [World.size_alloc] at hb1 hb2
  have hb' : Below w.heap.size w w1 := hbW.trans (hb.mono (by simp))
  have XB1 := Lib.hid (XX.out.below hb (by simp))
  have M := Lib.hid (show MemAt w1 b bc (Wd (List.replicate 16 0) 0) 16 from hm)
  clear hb hbW hm
  go_wp2_with fail
  have Q := Lib.hid (Row.new w1 (List.replicate 16 (Value.int .u64 0)) 28)
  go_loopw [7] (fun vi wr => ∃ (i : Nat) (hs : List Int), i ≤ 16 ∧ i ≤ L ∧ vi = .int .i64 i ∧ Sixteen hs ∧ MemAt wr b bc (Wd hs i) 16 ∧ Row wr w1.heap.size (hs.map (Value.int .u64)) ∧ Only [b, bc] w1 wr) (fun vi _ => 16 - (intOf vi).toNat)
  case atStart => exact ⟨0, List.replicate 16 0, by omega, by omega, rfl, sixteen_zero, M.out.alloc _, Q.out, (Only.refl _ _).alloc _⟩
  case round =>
    obtain ⟨i, hs, hi, hiL, rfl, S, hm, hq, ho⟩ := hrel
    have hbr : Below w.heap.size w wr := hb'.trans (ho.below (by simp; omega) hb'.size)
    have bq1 : b < w1.heap.size := M.out.top.lt
    have bq2 : bc < w1.heap.size := M.out.lt
    by_cases hlt : i < 16 ∧ i < L
    · obtain ⟨hlt1, hlt2⟩ := hlt
      have hlz : i < zs.length := by rw [← HL.out]; exact hlt2
      obtain ⟨a, rfl, hal, hac⟩ := S0.out i hlz
      obtain ⟨z0, z1⟩ := U.out i hlz
      have hac' : wr.cell? (a.add i) = some (.int .u64 (zs.getD i 0)) := by rw [hbr.cell (p := a.add i) (by rw [ChangeShapes.block_add]; exact hal)]; exact hac
      obtain ⟨z, ez⟩ : ∃ z, z = zs.getD i 0 := ⟨_, rfl⟩
      rw [← ez] at z0 z1 hac'
      have ST := Lib.hid (wd_store hs S i (by omega) (by omega) i hlt1 z z0 z1 hm)
      have HS := Lib.hid S
      have HQ := Lib.hid hq
      clear ez hac S hm hq
      go_wp2_with fail
      go_at_call 7
      refine ST.out.mono ?_
      rintro e w3 ⟨rfl, hm3, ho3⟩
      have M3 := Lib.hid hm3
      have Q3 := Lib.hid (HQ.out.only ho3 (by simp; omega))
      have hac3 : w3.cell? (a.add i) = some (.int .u64 z) := by
        rw [World.cell?_of_block (ho3.block (a.add i).block (by rw [ChangeShapes.block_add]; exact Nat.lt_of_lt_of_le hal hbr.size) (by rw [ChangeShapes.block_add]; simp; omega))]; exact hac'
      have hc3 := row_u64 Q3.out i (by rw [HS.out.len]; exact hlt1)
      have hf3 := Q3.out.free i (by rw [List.length_map, HS.out.len]; exact hlt1)
      obtain ⟨y, ey⟩ : ∃ y, y = hs.getD i 0 := ⟨_, rfl⟩
      rw [← ey] at hc3
      have O3 := Lib.hid (ho.trans ho3)
      clear hm3 hac' ey ho3
      go_wp2_with fail
      go_roundw
      case rel =>
        refine ⟨i + 1, hs.set i z, by omega, by omega, by go_num, HS.out.set i z hlt1 z0 z1, ?_, ?_, O3.out.setCell (Or.inr (by simp)) _⟩
        · exact M3.out.of_blocks (Below.heap_setCell _ _ _ _ (by simp; omega)) (Below.heap_setCell _ _ _ _ (by simp; omega))
        · rw [List.map_set]; exact Q3.out.set i (by rw [List.length_map, HS.out.len]; exact hlt1) _
      case measure => simp [intOf]; omega
    · have XBr := (XB1.out.only ho (by simp; omega))
      have x0 := XBr.cell 0 (by simp)
      have x4 := XBr.cell 4 (by simp)
      have x5 := XBr.cell 5 (by simp)
      have x6 := XBr.cell 6 (by simp)
      simp only [List.getElem_cons_zero, List.getElem_cons_succ] at x0 x4 x5 x6
      have cq := row_u64 hq at' (by rw [S.len]; exact hat)
      have OPC := Lib.hid (wd_store hs S i (by omega) (by omega) at' hat v v0 v1 hm.drew)
      have SN : Hid (Sixteen (hs.set at' (v))) := S.set at' v hat v0 v1
      have GD : Hid (∀ j, j ≠ at' → (hs.set at' (v)).getD j 0 = hs.getD j 0) := fun j hj => by rw [getD_set _ _ _ _ (by rw [S.len]; exact hat), if_neg (Ne.symm hj)]
      have HS := Lib.hid S
      have HQ := Lib.hid hq
      obtain ⟨y, ey⟩ : ∃ y, y = hs.getD at' 0 := ⟨_, rfl⟩
      rw [← ey] at cq
      have OP2 : Hid (Calls Try.prog 7 #[.pointer (some ⟨b, 0, none⟩), .int .u64 at', .int .u64 v] wr.drew fun e w' => e = .returned .nilIface ∧ MemAt w' b bc (Wd (hs.set at' (v)) (i + 1)) 16 ∧ Only [b, bc] wr w') := by
        exact OPC.out.mono fun e w' h => ⟨h.1, h.2.1, ((Only.refl _ _).drew).trans h.2.2⟩
      have EY := Lib.hid ey
      obtain ⟨hn, ehn⟩ : ∃ hn, hn = hs.set at' (v) := ⟨_, rfl⟩
      rw [← ehn] at SN GD OP2
      have had := HAD.out
      have HX := Lib.hid XBr
      clear ey ehn S hm hq OPC XBr
      have hexit : 16 ≤ i ∨ (i < 16 ∧ L ≤ i) := by omega
      clear hlt
      obtain ⟨wo, rfl⟩ : ∃ wo : World, wo = wr := ⟨_, rfl⟩
      rcases hexit with he | ⟨he, he2⟩
      all_goals (
        go_wp2_with (go_at_call 8; refine (WI.out _).mono ?_; rintro e w' ⟨rfl, rfl⟩)
        go_region_with (go_at_call 7; refine OP2.out.mono ?_; rintro e w3 ⟨rfl, hm3, ho3⟩; have M3 := Lib.hid hm3; have Q3 := Lib.hid (HQ.out.only ho3 (by simp; omega)); have O3 := Lib.hid (ho.trans ho3); have cq3 := row_u64 Q3.out at' (by rw [HS.out.len]; exact hat); rw [← EY.out] at cq3; clear hm3 ho3)
        all_goals (
          clear cq x0 x4 x5 x6 had
          go_wp2_with fail
          go_loopw [11] (fun vj wr2 => ∃ j : Nat, j ≤ 16 ∧ vj = .int .u64 j ∧ MemAt wr2 b bc (Wd hn ((i : Int) + 1 + j)) 16 ∧ Row wr2 w1.heap.size (hs.map (Value.int .u64)) ∧ Only [b, bc] w1 wr2) (fun vj _ => 16 - (intOf vj).toNat)
          case atStart => exact ⟨0, by omega, rfl, by simpa using M3.out, Q3.out, O3.out⟩
          case round =>
            obtain ⟨j, hj, rfl, hm4, hq4, ho4⟩ := hrel
            by_cases hlt : j < 16
            · have LD := Lib.hid (wd_load hn SN.out ((i : Int) + 1 + j) (by omega) (by omega) j hlt hm4)
              have HQ4 := Lib.hid hq4
              clear hm4 hq4
              by_cases hja : j = at'
              · subst hja
                go_wp2_with fail
                go_at_call 9
                refine LD.out.mono ?_
                rintro e w5 ⟨rfl, hm5, ho5⟩
                have M5 := Lib.hid hm5
                have Q5 := Lib.hid (HQ4.out.only ho5 (by simp; omega))
                have O5 := Lib.hid (ho4.trans ho5)
                have cq5 := row_u64 Q5.out j (by rw [HS.out.len]; exact hlt)
                clear hm5 ho5
                go_wp2_with fail
                go_roundw
                case rel => exact ⟨j + 1, by omega, by go_num, by rw [show ((j + 1 : Nat) : Int) = (j : Int) + 1 by omega, ← Int.add_assoc]; exact M5.out, Q5.out, O5.out⟩
                case measure => simp [intOf]; omega
              · have gd := GD.out j hja
                obtain ⟨u, eu⟩ : ∃ u, u = hs.getD j 0 := ⟨_, rfl⟩
                have LD2 : Hid (Calls Try.prog 9 #[.pointer (some ⟨b, 0, none⟩), .int .u64 j] wr fun e w' => e = .returned (.tuple #[.int .u64 u, .nilIface]) ∧ MemAt w' b bc (Wd hn ((i : Int) + 1 + j + 1)) 16 ∧ Only [b, bc] wr w') := by rw [eu]; rw [← gd]; exact LD.out
                have EU := Lib.hid eu
                clear eu
                have tj : ((j : Int) != (at' : Int)) = true := by simp; omega
                clear gd LD
                go_wp2_with fail
                go_at_call 9
                refine LD2.out.mono ?_
                rintro e w5 ⟨rfl, hm5, ho5⟩
                have M5 := Lib.hid hm5
                have Q5 := Lib.hid (HQ4.out.only ho5 (by simp; omega))
                have O5 := Lib.hid (ho4.trans ho5)
                have cq5 := row_u64 Q5.out j (by rw [HS.out.len]; exact hlt)
                rw [← EU.out] at cq5
                clear hm5 ho5
                go_wp2_with fail
                go_roundw
                case rel => exact ⟨j + 1, by omega, by go_num, by rw [show ((j + 1 : Nat) : Int) = (j : Int) + 1 by omega, ← Int.add_assoc]; exact M5.out, Q5.out, O5.out⟩
                case measure => simp [intOf]; omega
            · have hb4 : Below w.heap.size w wr := hb'.trans (ho4.below (by simp; omega) hb'.size)
              clear hm4 hq4
              go_wp2_with fail
              go_at_call 13
              refine (AW.out _).mono ?_
              rintro e w6 ⟨rfl, hb6⟩
              go_wp2_with fail
              go_ret
              exact ⟨rfl, hb4.trans (hb6.mono hb4.size)⟩))

set_option maxHeartbeats 8000000 in
set_option maxRecDepth 100000 in
theorem memApart_2 (d a' n' wd' : Int) (ad at' : Nat) (old v : Int) (hd : d % 5 = 2) (hat : at' < 16) (had : (ad : Int) % 16 = at') (hadr : (ad : Int) ≤ 18446744073709551615) (o0 : 0 ≤ old) (o1 : old ≤ 18446744073709551615) (v0 : 0 ≤ v) (v1 : v ≤ 18446744073709551615)
    (w : World) (A : Option Addr) (cap : Nat) (zs : List Int) (hl : zs.length ≤ maxLen) (hs : IntsIn w .u64 A zs) (hw : ∀ z ∈ zs, (Lit.int .u64 z).wf = true) :
    Calls Try.prog 3 #[.slice A zs.length cap, .agg #[.int .i64 d, .int .i64 a', .int .i64 n', .int .i64 wd', .int .u64 ad, .int .u64 old, .int .u64 v]] w fun e w' => e = .returned (.bool true) ∧ Below w.heap.size w w' := by
  have U := Lib.hid (fun i h => u64_mem hw i h)
  have S0 := Lib.hid hs
  have WI := Lib.hid (fun W => within_any d 5 (by omega) (by omega) W)
  rw [hd] at WI
  have AW := Lib.hid awake_any
  have NW := Lib.hid (full_any 16 (by omega) (by omega) (w.alloc (.cells #[.int .i64 d, .int .i64 a', .int .i64 n', .int .i64 wd', .int .u64 ad, .int .u64 old, .int .u64 v] 25)))
  have XB := Row.new w [.int .i64 d, .int .i64 a', .int .i64 n', .int .i64 wd', .int .u64 ad, .int .u64 old, .int .u64 v] 25
  obtain ⟨x0, hx0⟩ : ∃ x0, x0 = w.heap.size := ⟨_, rfl⟩
  have hbW : Below w.heap.size w (w.alloc (.cells #[.int .i64 d, .int .i64 a', .int .i64 n', .int .i64 wd', .int .u64 ad, .int .u64 old, .int .u64 v] 25)) := (Below.refl _ _).alloc (Nat.le_refl _) _
  obtain ⟨L, hL⟩ : ∃ L, L = zs.length := ⟨_, rfl⟩
  rw [← hL] at hl ⊢
  unfold maxLen at hl
  have HL := Lib.hid hL
  have XX := Lib.hid XB
  clear hL hs hw hd XB hx0
  have HAD := Lib.hid had
  clear had
  go_enter Try.func3, Try.ntmps3
  go_wp2_with fail
  go_at_call 6
  refine NW.out.mono ?_
  rintro e w1 ⟨b, bc, rfl, hm, hb, hb1, hb2⟩
  simp only [World.size_alloc] at hb1 hb2
  have hb' : Below w.heap.size w w1 := hbW.trans (hb.mono (by simp))
  have XB1 := Lib.hid (XX.out.below hb (by simp))
  have M := Lib.hid (show MemAt w1 b bc (Wd (List.replicate 16 0) 0) 16 from hm)
  clear hb hbW hm
  go_wp2_with fail
  have Q := Lib.hid (Row.new w1 (List.replicate 16 (Value.int .u64 0)) 28)
  go_loopw [7] (fun vi wr => ∃ (i : Nat) (hs : List Int), i ≤ 16 ∧ i ≤ L ∧ vi = .int .i64 i ∧ Sixteen hs ∧ MemAt wr b bc (Wd hs i) 16 ∧ Row wr w1.heap.size (hs.map (Value.int .u64)) ∧ Only [b, bc] w1 wr) (fun vi _ => 16 - (intOf vi).toNat)
  case atStart => exact ⟨0, List.replicate 16 0, by omega, by omega, rfl, sixteen_zero, M.out.alloc _, Q.out, (Only.refl _ _).alloc _⟩
  case round =>
    obtain ⟨i, hs, hi, hiL, rfl, S, hm, hq, ho⟩ := hrel
    have hbr : Below w.heap.size w wr := hb'.trans (ho.below (by simp; omega) hb'.size)
    have bq1 : b < w1.heap.size := M.out.top.lt
    have bq2 : bc < w1.heap.size := M.out.lt
    by_cases hlt : i < 16 ∧ i < L
    · obtain ⟨hlt1, hlt2⟩ := hlt
      have hlz : i < zs.length := by rw [← HL.out]; exact hlt2
      obtain ⟨a, rfl, hal, hac⟩ := S0.out i hlz
      obtain ⟨z0, z1⟩ := U.out i hlz
      have hac' : wr.cell? (a.add i) = some (.int .u64 (zs.getD i 0)) := by rw [hbr.cell (p := a.add i) (by rw [ChangeShapes.block_add]; exact hal)]; exact hac
      obtain ⟨z, ez⟩ : ∃ z, z = zs.getD i 0 := ⟨_, rfl⟩
      rw [← ez] at z0 z1 hac'
      have ST := Lib.hid (wd_store hs S i (by omega) (by omega) i hlt1 z z0 z1 hm)
      have HS := Lib.hid S
      have HQ := Lib.hid hq
      clear ez hac S hm hq
      go_wp2_with fail
      go_at_call 7
      refine ST.out.mono ?_
      rintro e w3 ⟨rfl, hm3, ho3⟩
      have M3 := Lib.hid hm3
      have Q3 := Lib.hid (HQ.out.only ho3 (by simp; omega))
      have hac3 : w3.cell? (a.add i) = some (.int .u64 z) := by
        rw [World.cell?_of_block (ho3.block (a.add i).block (by rw [ChangeShapes.block_add]; exact Nat.lt_of_lt_of_le hal hbr.size) (by rw [ChangeShapes.block_add]; simp; omega))]; exact hac'
      have hc3 := row_u64 Q3.out i (by rw [HS.out.len]; exact hlt1)
      have hf3 := Q3.out.free i (by rw [List.length_map, HS.out.len]; exact hlt1)
      obtain ⟨y, ey⟩ : ∃ y, y = hs.getD i 0 := ⟨_, rfl⟩
      rw [← ey] at hc3
      have O3 := Lib.hid (ho.trans ho3)
      clear hm3 hac' ey ho3
      go_wp2_with fail
      go_roundw
      case rel =>
        refine ⟨i + 1, hs.set i z, by omega, by omega, by go_num, HS.out.set i z hlt1 z0 z1, ?_, ?_, O3.out.setCell (Or.inr (by simp)) _⟩
        · exact M3.out.of_blocks (Below.heap_setCell _ _ _ _ (by simp; omega)) (Below.heap_setCell _ _ _ _ (by simp; omega))
        · rw [List.map_set]; exact Q3.out.set i (by rw [List.length_map, HS.out.len]; exact hlt1) _
      case measure => simp [intOf]; omega
    · have XBr := (XB1.out.only ho (by simp; omega))
      have x0 := XBr.cell 0 (by simp)
      have x4 := XBr.cell 4 (by simp)
      have x5 := XBr.cell 5 (by simp)
      have x6 := XBr.cell 6 (by simp)
      simp only [List.getElem_cons_zero, List.getElem_cons_succ] at x0 x4 x5 x6
      have cq := row_u64 hq at' (by rw [S.len]; exact hat)
      have OPC := Lib.hid (wd_swap hs S i (by omega) (by omega) at' hat v v0 v1 hm)
      have SN : Hid (Sixteen (hs.set at' (v))) := S.set at' v hat v0 v1
      have GD : Hid (∀ j, j ≠ at' → (hs.set at' (v)).getD j 0 = hs.getD j 0) := fun j hj => by rw [getD_set _ _ _ _ (by rw [S.len]; exact hat), if_neg (Ne.symm hj)]
      have HS := Lib.hid S
      have HQ := Lib.hid hq
      obtain ⟨y, ey⟩ : ∃ y, y = hs.getD at' 0 := ⟨_, rfl⟩
      rw [← ey] at cq
      have OP2 : Hid (Calls Try.prog 10 #[.pointer (some ⟨b, 0, none⟩), .int .u64 at', .int .u64 v] wr fun e w' => e = .returned (.tuple #[.int .u64 y, .nilIface]) ∧ MemAt w' b bc (Wd (hs.set at' (v)) (i + 1)) 16 ∧ Only [b, bc] wr w') := by
        rw [ey]; exact OPC.out
      have EY := Lib.hid ey
      obtain ⟨hn, ehn⟩ : ∃ hn, hn = hs.set at' (v) := ⟨_, rfl⟩
      rw [← ehn] at SN GD OP2
      have had := HAD.out
      have HX := Lib.hid XBr
      clear ey ehn S hm hq OPC XBr
      have hexit : 16 ≤ i ∨ (i < 16 ∧ L ≤ i) := by omega
      clear hlt
      obtain ⟨wo, rfl⟩ : ∃ wo : World, wo = wr := ⟨_, rfl⟩
      rcases hexit with he | ⟨he, he2⟩
      all_goals (
        go_wp2_with (go_at_call 8; refine (WI.out _).mono ?_; rintro e w' ⟨rfl, rfl⟩)
        go_at_call 10
        refine OP2.out.mono ?_
        rintro e w3 ⟨rfl, hm3, ho3⟩
        have M3 := Lib.hid hm3
        have Q3 := Lib.hid (HQ.out.only ho3 (by simp; omega))
        have O3 := Lib.hid (ho.trans ho3)
        have cq3 := row_u64 Q3.out at' (by rw [HS.out.len]; exact hat)
        rw [← EY.out] at cq3
        clear hm3 ho3
        clear cq x0 x4 x5 x6 had
        go_wp2_with fail
        go_loopw [11] (fun vj wr2 => ∃ j : Nat, j ≤ 16 ∧ vj = .int .u64 j ∧ MemAt wr2 b bc (Wd hn ((i : Int) + 1 + j)) 16 ∧ Row wr2 w1.heap.size (hs.map (Value.int .u64)) ∧ Only [b, bc] w1 wr2) (fun vj _ => 16 - (intOf vj).toNat)
        case atStart => exact ⟨0, by omega, rfl, by simpa using M3.out, Q3.out, O3.out⟩
        case round =>
          obtain ⟨j, hj, rfl, hm4, hq4, ho4⟩ := hrel
          by_cases hlt : j < 16
          · have LD := Lib.hid (wd_load hn SN.out ((i : Int) + 1 + j) (by omega) (by omega) j hlt hm4)
            have HQ4 := Lib.hid hq4
            clear hm4 hq4
            by_cases hja : j = at'
            · subst hja
              go_wp2_with fail
              go_at_call 9
              refine LD.out.mono ?_
              rintro e w5 ⟨rfl, hm5, ho5⟩
              have M5 := Lib.hid hm5
              have Q5 := Lib.hid (HQ4.out.only ho5 (by simp; omega))
              have O5 := Lib.hid (ho4.trans ho5)
              have cq5 := row_u64 Q5.out j (by rw [HS.out.len]; exact hlt)
              clear hm5 ho5
              go_wp2_with fail
              go_roundw
              case rel => exact ⟨j + 1, by omega, by go_num, by rw [show ((j + 1 : Nat) : Int) = (j : Int) + 1 by omega, ← Int.add_assoc]; exact M5.out, Q5.out, O5.out⟩
              case measure => simp [intOf]; omega
            · have gd := GD.out j hja
              obtain ⟨u, eu⟩ : ∃ u, u = hs.getD j 0 := ⟨_, rfl⟩
              have LD2 : Hid (Calls Try.prog 9 #[.pointer (some ⟨b, 0, none⟩), .int .u64 j] wr fun e w' => e = .returned (.tuple #[.int .u64 u, .nilIface]) ∧ MemAt w' b bc (Wd hn ((i : Int) + 1 + j + 1)) 16 ∧ Only [b, bc] wr w') := by rw [eu]; rw [← gd]; exact LD.out
              have EU := Lib.hid eu
              clear eu
              have tj : ((j : Int) != (at' : Int)) = true := by simp; omega
              clear gd LD
              go_wp2_with fail
              go_at_call 9
              refine LD2.out.mono ?_
              rintro e w5 ⟨rfl, hm5, ho5⟩
              have M5 := Lib.hid hm5
              have Q5 := Lib.hid (HQ4.out.only ho5 (by simp; omega))
              have O5 := Lib.hid (ho4.trans ho5)
              have cq5 := row_u64 Q5.out j (by rw [HS.out.len]; exact hlt)
              rw [← EU.out] at cq5
              clear hm5 ho5
              go_wp2_with fail
              go_roundw
              case rel => exact ⟨j + 1, by omega, by go_num, by rw [show ((j + 1 : Nat) : Int) = (j : Int) + 1 by omega, ← Int.add_assoc]; exact M5.out, Q5.out, O5.out⟩
              case measure => simp [intOf]; omega
          · have hb4 : Below w.heap.size w wr := hb'.trans (ho4.below (by simp; omega) hb'.size)
            clear hm4 hq4
            go_wp2_with fail
            go_at_call 13
            refine (AW.out _).mono ?_
            rintro e w6 ⟨rfl, hb6⟩
            go_wp2_with fail
            go_ret
            exact ⟨rfl, hb4.trans (hb6.mono hb4.size)⟩)

set_option maxHeartbeats 8000000 in
set_option maxRecDepth 100000 in
theorem memApart_3 (d a' n' wd' : Int) (ad at' : Nat) (old v : Int) (hd : d % 5 = 3) (hat : at' < 16) (had : (ad : Int) % 16 = at') (hadr : (ad : Int) ≤ 18446744073709551615) (o0 : 0 ≤ old) (o1 : old ≤ 18446744073709551615) (v0 : 0 ≤ v) (v1 : v ≤ 18446744073709551615)
    (w : World) (A : Option Addr) (cap : Nat) (zs : List Int) (hl : zs.length ≤ maxLen) (hs : IntsIn w .u64 A zs) (hw : ∀ z ∈ zs, (Lit.int .u64 z).wf = true) :
    Calls Try.prog 3 #[.slice A zs.length cap, .agg #[.int .i64 d, .int .i64 a', .int .i64 n', .int .i64 wd', .int .u64 ad, .int .u64 old, .int .u64 v]] w fun e w' => e = .returned (.bool true) ∧ Below w.heap.size w w' := by
  have U := Lib.hid (fun i h => u64_mem hw i h)
  have S0 := Lib.hid hs
  have WI := Lib.hid (fun W => within_any d 5 (by omega) (by omega) W)
  rw [hd] at WI
  have AW := Lib.hid awake_any
  have NW := Lib.hid (full_any 16 (by omega) (by omega) (w.alloc (.cells #[.int .i64 d, .int .i64 a', .int .i64 n', .int .i64 wd', .int .u64 ad, .int .u64 old, .int .u64 v] 25)))
  have XB := Row.new w [.int .i64 d, .int .i64 a', .int .i64 n', .int .i64 wd', .int .u64 ad, .int .u64 old, .int .u64 v] 25
  obtain ⟨x0, hx0⟩ : ∃ x0, x0 = w.heap.size := ⟨_, rfl⟩
  have hbW : Below w.heap.size w (w.alloc (.cells #[.int .i64 d, .int .i64 a', .int .i64 n', .int .i64 wd', .int .u64 ad, .int .u64 old, .int .u64 v] 25)) := (Below.refl _ _).alloc (Nat.le_refl _) _
  obtain ⟨L, hL⟩ : ∃ L, L = zs.length := ⟨_, rfl⟩
  rw [← hL] at hl ⊢
  unfold maxLen at hl
  have HL := Lib.hid hL
  have XX := Lib.hid XB
  clear hL hs hw hd XB hx0
  have HAD := Lib.hid had
  clear had
  go_enter Try.func3, Try.ntmps3
  go_wp2_with fail
  go_at_call 6
  refine NW.out.mono ?_
  rintro e w1 ⟨b, bc, rfl, hm, hb, hb1, hb2⟩
  simp only [World.size_alloc] at hb1 hb2
  have hb' : Below w.heap.size w w1 := hbW.trans (hb.mono (by simp))
  have XB1 := Lib.hid (XX.out.below hb (by simp))
  have M := Lib.hid (show MemAt w1 b bc (Wd (List.replicate 16 0) 0) 16 from hm)
  clear hb hbW hm
  go_wp2_with fail
  have Q := Lib.hid (Row.new w1 (List.replicate 16 (Value.int .u64 0)) 28)
  go_loopw [7] (fun vi wr => ∃ (i : Nat) (hs : List Int), i ≤ 16 ∧ i ≤ L ∧ vi = .int .i64 i ∧ Sixteen hs ∧ MemAt wr b bc (Wd hs i) 16 ∧ Row wr w1.heap.size (hs.map (Value.int .u64)) ∧ Only [b, bc] w1 wr) (fun vi _ => 16 - (intOf vi).toNat)
  case atStart => exact ⟨0, List.replicate 16 0, by omega, by omega, rfl, sixteen_zero, M.out.alloc _, Q.out, (Only.refl _ _).alloc _⟩
  case round =>
    obtain ⟨i, hs, hi, hiL, rfl, S, hm, hq, ho⟩ := hrel
    have hbr : Below w.heap.size w wr := hb'.trans (ho.below (by simp; omega) hb'.size)
    have bq1 : b < w1.heap.size := M.out.top.lt
    have bq2 : bc < w1.heap.size := M.out.lt
    by_cases hlt : i < 16 ∧ i < L
    · obtain ⟨hlt1, hlt2⟩ := hlt
      have hlz : i < zs.length := by rw [← HL.out]; exact hlt2
      obtain ⟨a, rfl, hal, hac⟩ := S0.out i hlz
      obtain ⟨z0, z1⟩ := U.out i hlz
      have hac' : wr.cell? (a.add i) = some (.int .u64 (zs.getD i 0)) := by rw [hbr.cell (p := a.add i) (by rw [ChangeShapes.block_add]; exact hal)]; exact hac
      obtain ⟨z, ez⟩ : ∃ z, z = zs.getD i 0 := ⟨_, rfl⟩
      rw [← ez] at z0 z1 hac'
      have ST := Lib.hid (wd_store hs S i (by omega) (by omega) i hlt1 z z0 z1 hm)
      have HS := Lib.hid S
      have HQ := Lib.hid hq
      clear ez hac S hm hq
      go_wp2_with fail
      go_at_call 7
      refine ST.out.mono ?_
      rintro e w3 ⟨rfl, hm3, ho3⟩
      have M3 := Lib.hid hm3
      have Q3 := Lib.hid (HQ.out.only ho3 (by simp; omega))
      have hac3 : w3.cell? (a.add i) = some (.int .u64 z) := by
        rw [World.cell?_of_block (ho3.block (a.add i).block (by rw [ChangeShapes.block_add]; exact Nat.lt_of_lt_of_le hal hbr.size) (by rw [ChangeShapes.block_add]; simp; omega))]; exact hac'
      have hc3 := row_u64 Q3.out i (by rw [HS.out.len]; exact hlt1)
      have hf3 := Q3.out.free i (by rw [List.length_map, HS.out.len]; exact hlt1)
      obtain ⟨y, ey⟩ : ∃ y, y = hs.getD i 0 := ⟨_, rfl⟩
      rw [← ey] at hc3
      have O3 := Lib.hid (ho.trans ho3)
      clear hm3 hac' ey ho3
      go_wp2_with fail
      go_roundw
      case rel =>
        refine ⟨i + 1, hs.set i z, by omega, by omega, by go_num, HS.out.set i z hlt1 z0 z1, ?_, ?_, O3.out.setCell (Or.inr (by simp)) _⟩
        · exact M3.out.of_blocks (Below.heap_setCell _ _ _ _ (by simp; omega)) (Below.heap_setCell _ _ _ _ (by simp; omega))
        · rw [List.map_set]; exact Q3.out.set i (by rw [List.length_map, HS.out.len]; exact hlt1) _
      case measure => simp [intOf]; omega
    · have XBr := (XB1.out.only ho (by simp; omega))
      have x0 := XBr.cell 0 (by simp)
      have x4 := XBr.cell 4 (by simp)
      have x5 := XBr.cell 5 (by simp)
      have x6 := XBr.cell 6 (by simp)
      simp only [List.getElem_cons_zero, List.getElem_cons_succ] at x0 x4 x5 x6
      have cq := row_u64 hq at' (by rw [S.len]; exact hat)
      have OPC := Lib.hid (wd_add hs S i (by omega) (by omega) at' hat v v0 v1 hm)
      have SN : Hid (Sixteen (hs.set at' (summ 64 (hs.getD at' 0) v))) := S.set at' _ hat (summ_range _ _ _).1 (summ_range _ _ _).2
      have GD : Hid (∀ j, j ≠ at' → (hs.set at' (summ 64 (hs.getD at' 0) v)).getD j 0 = hs.getD j 0) := fun j hj => by rw [getD_set _ _ _ _ (by rw [S.len]; exact hat), if_neg (Ne.symm hj)]
      have HS := Lib.hid S
      have HQ := Lib.hid hq
      obtain ⟨y, ey⟩ : ∃ y, y = hs.getD at' 0 := ⟨_, rfl⟩
      rw [← ey] at cq
      have OP2 : Hid (Calls Try.prog 11 #[.pointer (some ⟨b, 0, none⟩), .int .u64 at', .int .u64 v] wr fun e w' => e = .returned (.tuple #[.int .u64 y, .nilIface]) ∧ MemAt w' b bc (Wd (hs.set at' (summ 64 (hs.getD at' 0) v)) (i + 1)) 16 ∧ Only [b, bc] wr w') := by
        rw [ey]; exact OPC.out
      have EY := Lib.hid ey
      obtain ⟨hn, ehn⟩ : ∃ hn, hn = hs.set at' (summ 64 (hs.getD at' 0) v) := ⟨_, rfl⟩
      rw [← ehn] at SN GD OP2
      have had := HAD.out
      have HX := Lib.hid XBr
      clear ey ehn S hm hq OPC XBr
      have hexit : 16 ≤ i ∨ (i < 16 ∧ L ≤ i) := by omega
      clear hlt
      obtain ⟨wo, rfl⟩ : ∃ wo : World, wo = wr := ⟨_, rfl⟩
      rcases hexit with he | ⟨he, he2⟩
      all_goals (
        go_wp2_with (go_at_call 8; refine (WI.out _).mono ?_; rintro e w' ⟨rfl, rfl⟩)
        go_at_call 11
        refine OP2.out.mono ?_
        rintro e w3 ⟨rfl, hm3, ho3⟩
        have M3 := Lib.hid hm3
        have Q3 := Lib.hid (HQ.out.only ho3 (by simp; omega))
        have O3 := Lib.hid (ho.trans ho3)
        have cq3 := row_u64 Q3.out at' (by rw [HS.out.len]; exact hat)
        rw [← EY.out] at cq3
        clear hm3 ho3
        clear cq x0 x4 x5 x6 had
        go_wp2_with fail
        go_loopw [11] (fun vj wr2 => ∃ j : Nat, j ≤ 16 ∧ vj = .int .u64 j ∧ MemAt wr2 b bc (Wd hn ((i : Int) + 1 + j)) 16 ∧ Row wr2 w1.heap.size (hs.map (Value.int .u64)) ∧ Only [b, bc] w1 wr2) (fun vj _ => 16 - (intOf vj).toNat)
        case atStart => exact ⟨0, by omega, rfl, by simpa using M3.out, Q3.out, O3.out⟩
        case round =>
          obtain ⟨j, hj, rfl, hm4, hq4, ho4⟩ := hrel
          by_cases hlt : j < 16
          · have LD := Lib.hid (wd_load hn SN.out ((i : Int) + 1 + j) (by omega) (by omega) j hlt hm4)
            have HQ4 := Lib.hid hq4
            clear hm4 hq4
            by_cases hja : j = at'
            · subst hja
              go_wp2_with fail
              go_at_call 9
              refine LD.out.mono ?_
              rintro e w5 ⟨rfl, hm5, ho5⟩
              have M5 := Lib.hid hm5
              have Q5 := Lib.hid (HQ4.out.only ho5 (by simp; omega))
              have O5 := Lib.hid (ho4.trans ho5)
              have cq5 := row_u64 Q5.out j (by rw [HS.out.len]; exact hlt)
              clear hm5 ho5
              go_wp2_with fail
              go_roundw
              case rel => exact ⟨j + 1, by omega, by go_num, by rw [show ((j + 1 : Nat) : Int) = (j : Int) + 1 by omega, ← Int.add_assoc]; exact M5.out, Q5.out, O5.out⟩
              case measure => simp [intOf]; omega
            · have gd := GD.out j hja
              obtain ⟨u, eu⟩ : ∃ u, u = hs.getD j 0 := ⟨_, rfl⟩
              have LD2 : Hid (Calls Try.prog 9 #[.pointer (some ⟨b, 0, none⟩), .int .u64 j] wr fun e w' => e = .returned (.tuple #[.int .u64 u, .nilIface]) ∧ MemAt w' b bc (Wd hn ((i : Int) + 1 + j + 1)) 16 ∧ Only [b, bc] wr w') := by rw [eu]; rw [← gd]; exact LD.out
              have EU := Lib.hid eu
              clear eu
              have tj : ((j : Int) != (at' : Int)) = true := by simp; omega
              clear gd LD
              go_wp2_with fail
              go_at_call 9
              refine LD2.out.mono ?_
              rintro e w5 ⟨rfl, hm5, ho5⟩
              have M5 := Lib.hid hm5
              have Q5 := Lib.hid (HQ4.out.only ho5 (by simp; omega))
              have O5 := Lib.hid (ho4.trans ho5)
              have cq5 := row_u64 Q5.out j (by rw [HS.out.len]; exact hlt)
              rw [← EU.out] at cq5
              clear hm5 ho5
              go_wp2_with fail
              go_roundw
              case rel => exact ⟨j + 1, by omega, by go_num, by rw [show ((j + 1 : Nat) : Int) = (j : Int) + 1 by omega, ← Int.add_assoc]; exact M5.out, Q5.out, O5.out⟩
              case measure => simp [intOf]; omega
          · have hb4 : Below w.heap.size w wr := hb'.trans (ho4.below (by simp; omega) hb'.size)
            clear hm4 hq4
            go_wp2_with fail
            go_at_call 13
            refine (AW.out _).mono ?_
            rintro e w6 ⟨rfl, hb6⟩
            go_wp2_with fail
            go_ret
            exact ⟨rfl, hb4.trans (hb6.mono hb4.size)⟩)

set_option maxHeartbeats 8000000 in
set_option maxRecDepth 100000 in
theorem memApart_4 (d a' n' wd' : Int) (ad at' : Nat) (old v : Int) (hd : d % 5 = 4) (hat : at' < 16) (had : (ad : Int) % 16 = at') (hadr : (ad : Int) ≤ 18446744073709551615) (o0 : 0 ≤ old) (o1 : old ≤ 18446744073709551615) (v0 : 0 ≤ v) (v1 : v ≤ 18446744073709551615)
    (w : World) (A : Option Addr) (cap : Nat) (zs : List Int) (hl : zs.length ≤ maxLen) (hs : IntsIn w .u64 A zs) (hw : ∀ z ∈ zs, (Lit.int .u64 z).wf = true) :
    Calls Try.prog 3 #[.slice A zs.length cap, .agg #[.int .i64 d, .int .i64 a', .int .i64 n', .int .i64 wd', .int .u64 ad, .int .u64 old, .int .u64 v]] w fun e w' => e = .returned (.bool true) ∧ Below w.heap.size w w' := by
  have U := Lib.hid (fun i h => u64_mem hw i h)
  have S0 := Lib.hid hs
  have WI := Lib.hid (fun W => within_any d 5 (by omega) (by omega) W)
  rw [hd] at WI
  have AW := Lib.hid awake_any
  have NW := Lib.hid (full_any 16 (by omega) (by omega) (w.alloc (.cells #[.int .i64 d, .int .i64 a', .int .i64 n', .int .i64 wd', .int .u64 ad, .int .u64 old, .int .u64 v] 25)))
  have XB := Row.new w [.int .i64 d, .int .i64 a', .int .i64 n', .int .i64 wd', .int .u64 ad, .int .u64 old, .int .u64 v] 25
  obtain ⟨x0, hx0⟩ : ∃ x0, x0 = w.heap.size := ⟨_, rfl⟩
  have hbW : Below w.heap.size w (w.alloc (.cells #[.int .i64 d, .int .i64 a', .int .i64 n', .int .i64 wd', .int .u64 ad, .int .u64 old, .int .u64 v] 25)) := (Below.refl _ _).alloc (Nat.le_refl _) _
  obtain ⟨L, hL⟩ : ∃ L, L = zs.length := ⟨_, rfl⟩
  rw [← hL] at hl ⊢
  unfold maxLen at hl
  have HL := Lib.hid hL
  have XX := Lib.hid XB
  clear hL hs hw hd XB hx0
  have HAD := Lib.hid had
  clear had
  go_enter Try.func3, Try.ntmps3
  go_wp2_with fail
  go_at_call 6
  refine NW.out.mono ?_
  rintro e w1 ⟨b, bc, rfl, hm, hb, hb1, hb2⟩
  simp only [World.size_alloc] at hb1 hb2
  have hb' : Below w.heap.size w w1 := hbW.trans (hb.mono (by simp))
  have XB1 := Lib.hid (XX.out.below hb (by simp))
  have M := Lib.hid (show MemAt w1 b bc (Wd (List.replicate 16 0) 0) 16 from hm)
  clear hb hbW hm
  go_wp2_with fail
  have Q := Lib.hid (Row.new w1 (List.replicate 16 (Value.int .u64 0)) 28)
  go_loopw [7] (fun vi wr => ∃ (i : Nat) (hs : List Int), i ≤ 16 ∧ i ≤ L ∧ vi = .int .i64 i ∧ Sixteen hs ∧ MemAt wr b bc (Wd hs i) 16 ∧ Row wr w1.heap.size (hs.map (Value.int .u64)) ∧ Only [b, bc] w1 wr) (fun vi _ => 16 - (intOf vi).toNat)
  case atStart => exact ⟨0, List.replicate 16 0, by omega, by omega, rfl, sixteen_zero, M.out.alloc _, Q.out, (Only.refl _ _).alloc _⟩
  case round =>
    obtain ⟨i, hs, hi, hiL, rfl, S, hm, hq, ho⟩ := hrel
    have hbr : Below w.heap.size w wr := hb'.trans (ho.below (by simp; omega) hb'.size)
    have bq1 : b < w1.heap.size := M.out.top.lt
    have bq2 : bc < w1.heap.size := M.out.lt
    by_cases hlt : i < 16 ∧ i < L
    · obtain ⟨hlt1, hlt2⟩ := hlt
      have hlz : i < zs.length := by rw [← HL.out]; exact hlt2
      obtain ⟨a, rfl, hal, hac⟩ := S0.out i hlz
      obtain ⟨z0, z1⟩ := U.out i hlz
      have hac' : wr.cell? (a.add i) = some (.int .u64 (zs.getD i 0)) := by rw [hbr.cell (p := a.add i) (by rw [ChangeShapes.block_add]; exact hal)]; exact hac
      obtain ⟨z, ez⟩ : ∃ z, z = zs.getD i 0 := ⟨_, rfl⟩
      rw [← ez] at z0 z1 hac'
      have ST := Lib.hid (wd_store hs S i (by omega) (by omega) i hlt1 z z0 z1 hm)
      have HS := Lib.hid S
      have HQ := Lib.hid hq
      clear ez hac S hm hq
      go_wp2_with fail
      go_at_call 7
      refine ST.out.mono ?_
      rintro e w3 ⟨rfl, hm3, ho3⟩
      have M3 := Lib.hid hm3
      have Q3 := Lib.hid (HQ.out.only ho3 (by simp; omega))
      have hac3 : w3.cell? (a.add i) = some (.int .u64 z) := by
        rw [World.cell?_of_block (ho3.block (a.add i).block (by rw [ChangeShapes.block_add]; exact Nat.lt_of_lt_of_le hal hbr.size) (by rw [ChangeShapes.block_add]; simp; omega))]; exact hac'
      have hc3 := row_u64 Q3.out i (by rw [HS.out.len]; exact hlt1)
      have hf3 := Q3.out.free i (by rw [List.length_map, HS.out.len]; exact hlt1)
      obtain ⟨y, ey⟩ : ∃ y, y = hs.getD i 0 := ⟨_, rfl⟩
      rw [← ey] at hc3
      have O3 := Lib.hid (ho.trans ho3)
      clear hm3 hac' ey ho3
      go_wp2_with fail
      go_roundw
      case rel =>
        refine ⟨i + 1, hs.set i z, by omega, by omega, by go_num, HS.out.set i z hlt1 z0 z1, ?_, ?_, O3.out.setCell (Or.inr (by simp)) _⟩
        · exact M3.out.of_blocks (Below.heap_setCell _ _ _ _ (by simp; omega)) (Below.heap_setCell _ _ _ _ (by simp; omega))
        · rw [List.map_set]; exact Q3.out.set i (by rw [List.length_map, HS.out.len]; exact hlt1) _
      case measure => simp [intOf]; omega
    · have XBr := (XB1.out.only ho (by simp; omega))
      have x0 := XBr.cell 0 (by simp)
      have x4 := XBr.cell 4 (by simp)
      have x5 := XBr.cell 5 (by simp)
      have x6 := XBr.cell 6 (by simp)
      simp only [List.getElem_cons_zero, List.getElem_cons_succ] at x0 x4 x5 x6
      have cq := row_u64 hq at' (by rw [S.len]; exact hat)
      have OPC := Lib.hid (wd_cas hs S i (by omega) (by omega) at' hat old v o0 o1 v0 v1 hm)
      have SN : Hid (Sixteen (hs.set at' (casVal 64 (hs.getD at' 0) old v))) := S.set at' _ hat (casVal_good 64 _ old v v0 v1 (S.h0 at') (S.h1 at') (cut64 _)).1 (casVal_good 64 _ old v v0 v1 (S.h0 at') (S.h1 at') (cut64 _)).2.1
      have GD : Hid (∀ j, j ≠ at' → (hs.set at' (casVal 64 (hs.getD at' 0) old v)).getD j 0 = hs.getD j 0) := fun j hj => by rw [getD_set _ _ _ _ (by rw [S.len]; exact hat), if_neg (Ne.symm hj)]
      have HS := Lib.hid S
      have HQ := Lib.hid hq
      obtain ⟨y, ey⟩ : ∃ y, y = hs.getD at' 0 := ⟨_, rfl⟩
      rw [← ey] at cq
      have OP2 : Hid (Calls Try.prog 12 #[.pointer (some ⟨b, 0, none⟩), .int .u64 at', .int .u64 old, .int .u64 v] wr fun e w' => e = .returned (.tuple #[.int .u64 y, .nilIface]) ∧ MemAt w' b bc (Wd (hs.set at' (casVal 64 (hs.getD at' 0) old v)) (i + 1)) 16 ∧ Only [b, bc] wr w') := by
        rw [ey]; exact OPC.out
      have EY := Lib.hid ey
      obtain ⟨hn, ehn⟩ : ∃ hn, hn = hs.set at' (casVal 64 (hs.getD at' 0) old v) := ⟨_, rfl⟩
      rw [← ehn] at SN GD OP2
      have had := HAD.out
      have HX := Lib.hid XBr
      clear ey ehn S hm hq OPC XBr
      have hexit : 16 ≤ i ∨ (i < 16 ∧ L ≤ i) := by omega
      clear hlt
      obtain ⟨wo, rfl⟩ : ∃ wo : World, wo = wr := ⟨_, rfl⟩
      rcases hexit with he | ⟨he, he2⟩
      all_goals (
        go_wp2_with (go_at_call 8; refine (WI.out _).mono ?_; rintro e w' ⟨rfl, rfl⟩)
        go_at_call 12
        refine OP2.out.mono ?_
        rintro e w3 ⟨rfl, hm3, ho3⟩
        have M3 := Lib.hid hm3
        have Q3 := Lib.hid (HQ.out.only ho3 (by simp; omega))
        have O3 := Lib.hid (ho.trans ho3)
        have cq3 := row_u64 Q3.out at' (by rw [HS.out.len]; exact hat)
        rw [← EY.out] at cq3
        clear hm3 ho3
        clear cq x0 x4 x5 x6 had
        go_wp2_with fail
        go_loopw [11] (fun vj wr2 => ∃ j : Nat, j ≤ 16 ∧ vj = .int .u64 j ∧ MemAt wr2 b bc (Wd hn ((i : Int) + 1 + j)) 16 ∧ Row wr2 w1.heap.size (hs.map (Value.int .u64)) ∧ Only [b, bc] w1 wr2) (fun vj _ => 16 - (intOf vj).toNat)
        case atStart => exact ⟨0, by omega, rfl, by simpa using M3.out, Q3.out, O3.out⟩
        case round =>
          obtain ⟨j, hj, rfl, hm4, hq4, ho4⟩ := hrel
          by_cases hlt : j < 16
          · have LD := Lib.hid (wd_load hn SN.out ((i : Int) + 1 + j) (by omega) (by omega) j hlt hm4)
            have HQ4 := Lib.hid hq4
            clear hm4 hq4
            by_cases hja : j = at'
            · subst hja
              go_wp2_with fail
              go_at_call 9
              refine LD.out.mono ?_
              rintro e w5 ⟨rfl, hm5, ho5⟩
              have M5 := Lib.hid hm5
              have Q5 := Lib.hid (HQ4.out.only ho5 (by simp; omega))
              have O5 := Lib.hid (ho4.trans ho5)
              have cq5 := row_u64 Q5.out j (by rw [HS.out.len]; exact hlt)
              clear hm5 ho5
              go_wp2_with fail
              go_roundw
              case rel => exact ⟨j + 1, by omega, by go_num, by rw [show ((j + 1 : Nat) : Int) = (j : Int) + 1 by omega, ← Int.add_assoc]; exact M5.out, Q5.out, O5.out⟩
              case measure => simp [intOf]; omega
            · have gd := GD.out j hja
              obtain ⟨u, eu⟩ : ∃ u, u = hs.getD j 0 := ⟨_, rfl⟩
              have LD2 : Hid (Calls Try.prog 9 #[.pointer (some ⟨b, 0, none⟩), .int .u64 j] wr fun e w' => e = .returned (.tuple #[.int .u64 u, .nilIface]) ∧ MemAt w' b bc (Wd hn ((i : Int) + 1 + j + 1)) 16 ∧ Only [b, bc] wr w') := by rw [eu]; rw [← gd]; exact LD.out
              have EU := Lib.hid eu
              clear eu
              have tj : ((j : Int) != (at' : Int)) = true := by simp; omega
              clear gd LD
              go_wp2_with fail
              go_at_call 9
              refine LD2.out.mono ?_
              rintro e w5 ⟨rfl, hm5, ho5⟩
              have M5 := Lib.hid hm5
              have Q5 := Lib.hid (HQ4.out.only ho5 (by simp; omega))
              have O5 := Lib.hid (ho4.trans ho5)
              have cq5 := row_u64 Q5.out j (by rw [HS.out.len]; exact hlt)
              rw [← EU.out] at cq5
              clear hm5 ho5
              go_wp2_with fail
              go_roundw
              case rel => exact ⟨j + 1, by omega, by go_num, by rw [show ((j + 1 : Nat) : Int) = (j : Int) + 1 by omega, ← Int.add_assoc]; exact M5.out, Q5.out, O5.out⟩
              case measure => simp [intOf]; omega
          · have hb4 : Below w.heap.size w wr := hb'.trans (ho4.below (by simp; omega) hb'.size)
            clear hm4 hq4
            go_wp2_with fail
            go_at_call 13
            refine (AW.out _).mono ?_
            rintro e w6 ⟨rfl, hb6⟩
            go_wp2_with fail
            go_ret
            exact ⟨rfl, hb4.trans (hb6.mono hb4.size)⟩)

theorem memApart_walk (d a' n' wd' ad old v : Int) (_w0 : (Lit.int .i64 d).wf = true) (_w1 : (Lit.int .i64 a').wf = true) (_w2 : (Lit.int .i64 n').wf = true) (_w3 : (Lit.int .i64 wd').wf = true) (w4 : (Lit.int .u64 ad).wf = true) (w5 : (Lit.int .u64 old).wf = true) (w6 : (Lit.int .u64 v).wf = true)
    (w : World) (A : Option Addr) (cap : Nat) (zs : List Int) (hl : zs.length ≤ maxLen) (hs : IntsIn w .u64 A zs) (hw : ∀ z ∈ zs, (Lit.int .u64 z).wf = true) :
    Calls Try.prog 3 #[.slice A zs.length cap, .agg #[.int .i64 d, .int .i64 a', .int .i64 n', .int .i64 wd', .int .u64 ad, .int .u64 old, .int .u64 v]] w fun e w' => e = .returned (.bool true) ∧ Below w.heap.size w w' := by
  obtain ⟨r4, q4⟩ := u64_wf w4
  obtain ⟨r5, q5⟩ := u64_wf w5
  obtain ⟨r6, q6⟩ := u64_wf w6
  obtain ⟨ad, rfl⟩ : ∃ n : Nat, ad = n := ⟨ad.toNat, by omega⟩
  have hm : ((ad % 16 : Nat) : Int) = (ad : Int) % 16 := by omega
  have h5 : d % 5 = 0 ∨ d % 5 = 1 ∨ d % 5 = 2 ∨ d % 5 = 3 ∨ d % 5 = 4 := by omega
  rcases h5 with h | h | h | h | h
  · exact memApart_0 d a' n' wd' ad (ad % 16) old v h (by omega) hm.symm q4 r5 q5 r6 q6 w A cap zs hl hs hw
  · exact memApart_1 d a' n' wd' ad (ad % 16) old v h (by omega) hm.symm q4 r5 q5 r6 q6 w A cap zs hl hs hw
  · exact memApart_2 d a' n' wd' ad (ad % 16) old v h (by omega) hm.symm q4 r5 q5 r6 q6 w A cap zs hl hs hw
  · exact memApart_3 d a' n' wd' ad (ad % 16) old v h (by omega) hm.symm q4 r5 q5 r6 q6 w A cap zs hl hs hw
  · exact memApart_4 d a' n' wd' ad (ad % 16) old v h (by omega) hm.symm q4 r5 q5 r6 q6 w A cap zs hl hs hw
end Go.Proofs.Ytdnamjlknmcdjaa
