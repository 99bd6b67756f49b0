/- The walk of MemGone: it returns true; of what was there nothing has turned. The condition: the library's variable errors.errorType holds the type error. -/
import Derived.Test.YtdnamjlknmcdjaaDoorMemAwake
import Derived.Test.YtdnamjlknmcdjaaDoorMemUnmap
import Derived.Test.YtdnamjlknmcdjaaDoorSameAt
import Derived.Test.YtdnamjlknmcdjaaDoorKeepWithin
import Derived.Test.YtdnamjlknmcdjaaDoorLawClose
namespace Go.Proofs.YtdnamjlknmcdjaaDoor
open Go.RowKit
set_option linter.unusedVariables false

theorem rep_getD (k : Int) (c j : Nat) (h : j < c) : (List.replicate c k).getD j 0 = k := by
  rw [List.getD, List.getElem?_replicate, if_pos h]; rfl
/-- Thirty-two wide cells. -/
def Gw (hs : List Int) (n : Int) : Cells := { ws := List.replicate 32 64, hs := hs, n := n }
/-- A row of them is not there. -/
def Gu (hs : List Int) (a c : Nat) (n : Int) : Cells := { ws := fillIn 0 (List.replicate 32 64) a c, hs := fillIn 0 hs a c, n := n }
/-- It is narrow. -/
def Gn (hs : List Int) (a c : Nat) (n : Int) : Cells := { ws := fillIn 32 (fillIn 0 (List.replicate 32 64) a c) a c, hs := fillIn 0 (fillIn 0 hs a c) a c, n := n }
theorem gw_width (hs : List Int) (n : Int) (i : Nat) (h : i < 32) : widthAt (Gw hs n).ws i = 64 := rep_getD 64 32 i h
theorem gw_store {W : World} {b bc : Nat} (hs : List Int) (n : Int) (g : Good (Gw hs n)) (hn : 0 ≤ n) (hn1 : n ≤ 1000) (i : Nat) (hi : i < 32) (v : Int) (v0 : 0 ≤ v) (v1 : v ≤ 18446744073709551615) (h : MemAt W b bc (Gw hs n) 32) :
    Calls Tryd.prog 22 #[.pointer (some ⟨b, 0, none⟩), .int .u64 i, .int .u64 v] W fun e w' => e = .returned .nilIface ∧ MemAt w' b bc (Gw (hs.set i v) (n + 1)) 32 ∧ Only [b, bc] W w' := by
  have := memStore h g hn (by show n < _; omega) i v v0 v1 (by rw [gw_width hs n i hi]; omega)
  rw [gw_width hs n i hi, cut64] at this
  exact this
theorem gw_good (hs : List Int) (n N : Int) (g : Good (Gw hs n)) (i : Nat) (hi : i < 32) (v : Int) (v0 : 0 ≤ v) (v1 : v ≤ 18446744073709551615) : Good (Gw (hs.set i v) N) :=
  g.acc (i := i) (by simpa [Gw] using hi) v0 v1 (by rw [gw_width hs n i hi, cut64])
theorem gu_unmap {W : World} {b bc : Nat} (hs : List Int) (n : Int) (a c : Nat) (hc : 1 ≤ c) (hac : a + c ≤ 32) (h : MemAt W b bc (Gw hs n) 32) (x : Int) (hx : x = (c : Int)) :
    Calls Tryd.prog 23 #[.pointer (some ⟨b, 0, none⟩), .int .i64 a, .int .i64 x] W fun e w' => e = .returned .nilIface ∧ MemAt w' b bc (Gu hs a c n) (32 - (c : Int)) ∧ Only [b, bc] W w' := by
  have := memUnmap_done h (by simp [Gw]) a c hc (by simpa [Gw] using hac) (firstZ_of _ _ _ fun j h1 h2 => by
    show (List.replicate 32 (64 : Int)).getD j 0 ≠ 0
    rw [rep_getD 64 32 j (by omega)]; omega) (by omega) (by omega)
  rw [hx]; exact this
theorem gu_good (hs : List Int) (n : Int) (a c : Nat) (hac : a + c ≤ 32) (g : Good (Gw hs n)) : Good (Gu hs a c n) := g.fill (by simpa [Gw] using hac) (Or.inl rfl)
theorem gu_width (hs : List Int) (n : Int) (a c : Nat) (hc : 1 ≤ c) (hac : a + c ≤ 32) : widthAt (Gu hs a c n).ws a = 0 := by
  show (fillIn 0 (List.replicate 32 64) a c).getD a 0 = 0
  rw [fillIn_getD _ _ _ _ _ (by simpa using hac), if_pos (by omega)]
theorem gn_map {W : World} {b bc : Nat} (hs : List Int) (n : Int) (a c : Nat) (hc : 1 ≤ c) (hac : a + c ≤ 32) (h : MemAt W b bc (Gu hs a c n) (32 - (c : Int))) (x : Int) (hx : x = (c : Int)) :
    Calls Tryd.prog 17 #[.pointer (some ⟨b, 0, none⟩), .int .i64 a, .int .i64 x, .int .i64 32] W fun e w' => e = .returned .nilIface ∧ MemAt w' b bc (Gn hs a c n) 32 ∧ Only [b, bc] W w' := by
  have := memMap_done h (by simp [Gu, fillIn_length]) a c 32 hc (by simpa [Gu, fillIn_length] using hac) (Or.inr rfl) (firstNZ_of _ _ _ fun j h1 h2 => by
    show (fillIn 0 (List.replicate 32 64) a c).getD j 0 = 0
    rw [fillIn_getD _ _ _ _ _ (by simpa using hac), if_pos ⟨h1, h2⟩]) (by omega) (by omega)
  rw [show 32 - (c : Int) + (c : Int) = 32 by omega] at this
  rw [hx]; exact this
theorem gn_load {W : World} {b bc : Nat} (hs : List Int) (v n : Int) (a c : Nat) (hac : a + c ≤ 32) (g : Good (Gw hs n)) (hv : ∀ j, j < 32 → hs.getD j 0 = v) (N : Int) (hN : 0 ≤ N) (hN1 : N ≤ 1000) (i : Nat) (hi : i < 32) (h : MemAt W b bc (Gn hs a c N) 32) :
    Calls Tryd.prog 21 #[.pointer (some ⟨b, 0, none⟩), .int .u64 i] W fun e w' => e = .returned (.tuple #[.int .u64 (if a ≤ i ∧ i < a + c then 0 else v), .nilIface]) ∧ MemAt w' b bc (Gn hs a c (N + 1)) 32 ∧ Only [b, bc] W w' := by
  have lh : hs.length = 32 := by have := g.len; simpa [Gw] using this
  have gg : Good (Gn hs a c N) := (gu_good hs n a c hac g).fill (by simpa [Gu, fillIn_length] using hac) (Or.inr (Or.inl rfl))
  have hw : widthAt (Gn hs a c N).ws i ≠ 0 := by
    show (fillIn 32 (fillIn 0 (List.replicate 32 64) a c) a c).getD i 0 ≠ 0
    rw [fillIn_getD _ _ _ _ _ (by simpa [fillIn_length] using hac)]; split
    · omega
    · rename_i hh
      rw [fillIn_getD _ _ _ _ _ (by simpa using hac), if_neg hh, rep_getD 64 32 i hi]; omega
  have hh : (Gn hs a c N).hs.getD i 0 = if a ≤ i ∧ i < a + c then 0 else v := by
    show (fillIn 0 (fillIn 0 hs a c) a c).getD i 0 = _
    rw [fillIn_getD _ _ _ _ _ (by rw [fillIn_length, lh]; exact hac)]
    split
    · rfl
    · rename_i q
      rw [fillIn_getD _ _ _ _ _ (by rw [lh]; exact hac), if_neg q, hv i hi]
  refine (memLoad h gg hN (by show N < _; omega) i hw).mono ?_
  rintro e w' ⟨he, hm, ho⟩
  have e1 : (Gn hs a c N).hs.set i ((Gn hs a c N).hs.getD i 0) = (Gn hs a c N).hs := set_self _ i
  rw [e1] at hm
  rw [hh] at he
  exact ⟨he, hm, ho⟩

set_option maxHeartbeats 8000000 in
set_option maxRecDepth 100000 in
theorem memGone_main (d f v : Int) (a q : Nat) (hd : d % 32 = a) (ha : a < 32) (hf : f % (32 - (a : Int)) = q) (hq : a + (q + 1) ≤ 32) (v0 : 0 ≤ v) (v1 : v ≤ 18446744073709551615) (w : World) (hg : ErrType w) :
    Calls Tryd.prog 6 #[.int .i64 d, .int .i64 f, .int .u64 v] w fun e w' => e = .returned (.bool true) ∧ Below w.heap.size w w' := by
  have W1 := Lib.hid (fun W => within_any d 32 (by omega) (by omega) W)
  rw [hd] at W1
  have W2 := Lib.hid (fun W => within_any f (32 - (a : Int)) (by omega) (by omega) W)
  rw [hf] at W2
  have AW := Lib.hid awake_any
  have NN := Lib.hid (fun W => no_any memS a 2 W)
  have NW := Lib.hid (full_any 32 (by omega) (by omega) w)
  have HG := Lib.hid hg
  have hgl : 0 < w.heap.size := cell_lt hg
  clear hd hf hg
  go_enter Tryd.func6, Tryd.ntmps6
  go_wp2_with fail
  go_at_call 19
  refine NW.out.mono ?_
  rintro e w1 ⟨b, bc, rfl, hm, hb, hb1, hb2⟩
  have g0 : Good (Gw (List.replicate 32 0) 0) := by
    have := (Good.fresh 32 (by omega)).fill (a := 0) (c := 32) (N := 0) (by simp) (Or.inr (Or.inr (rfl : (64 : Int) = 64)))
    rw [fill_rep, fill_rep] at this
    exact this
  have M := Lib.hid (show MemAt w1 b bc (Gw (List.replicate 32 0) 0) 32 from hm)
  have G0 := Lib.hid g0
  clear hm g0
  go_wp2_with (go_at_call 7; first | ((with_reducible refine (W1.out _).mono ?_); rintro e w' ⟨rfl, rfl⟩) | ((with_reducible refine (W2.out _).mono ?_); rintro e w' ⟨rfl, rfl⟩))
  go_loopw [8] (fun vi wr => ∃ (i : Nat) (hs : List Int), i ≤ 32 ∧ vi = .int .u64 i ∧ Good (Gw hs i) ∧ MemAt wr b bc (Gw hs i) 32 ∧ Hid (∀ j, j < i → hs.getD j 0 = v) ∧ Only [b, bc] w1 wr) (fun vi _ => 32 - (intOf vi).toNat)
  case atStart => exact ⟨0, List.replicate 32 0, by omega, rfl, G0.out, M.out, Lib.hid (fun j hj => by omega), Only.refl _ _⟩
  case round =>
    obtain ⟨i, hs, hi, rfl, g, hm, hv, ho⟩ := hrel
    by_cases hlt : i < 32
    · have ST := Lib.hid (gw_store hs i g (by omega) (by omega) i hlt v v0 v1 hm)
      have g' := gw_good hs i (i + 1) g i hlt v v0 v1
      have hv' : Hid (∀ j, j < i + 1 → (hs.set i v).getD j 0 = v) := fun j hj => by
        rw [getD_set _ _ _ _ (by have := g.len; simp [Gw] at this; omega)]; split
        · rfl
        · exact hv.out j (by omega)
      have G' := Lib.hid g'
      have O' := Lib.hid ho
      clear g g' hm ho hv
      go_wp2_with fail
      go_at_call 22
      refine ST.out.mono ?_
      rintro e w3 ⟨rfl, hm3, ho3⟩
      have M3 := Lib.hid hm3
      have O3 := Lib.hid (O'.out.trans ho3)
      clear hm3 ho3
      go_wp2_with fail
      go_roundw
      case rel => exact ⟨i + 1, hs.set i v, by omega, by go_num, by have := G'.out; simpa using this, by have := M3.out; simpa using this, hv', O3.out⟩
      case measure => simp [intOf]; omega
    · obtain rfl : i = 32 := by omega
      have G := Lib.hid g
      have hbr : Below w.heap.size w wr := hb.trans (ho.below (by simp; omega) hb.size)
      have UN := Lib.hid (gu_unmap hs 32 a (q + 1) (by omega) hq hm (1 + (q : Int)) (by omega))
      clear g hm ho M G0
      go_wp2_with fail
      go_at_call 23
      refine UN.out.mono ?_
      rintro e w3 ⟨rfl, hm3, ho3⟩
      have hb3 : Below w.heap.size w w3 := hbr.trans (ho3.below (by simp; omega) hbr.size)
      have T3 := Lib.hid (memThere hm3)
      rw [show (32 : Int) - ((q + 1 : Nat) : Int) = 32 - (1 + (q : Int)) by omega] at T3
      have gu := gu_good hs 32 a (q + 1) hq G.out
      have WD := Lib.hid (memWidth hm3 gu.small a)
      have LB := Lib.hid (memLoad_bad hm3 gu a (by omega) (gu_width hs 32 a (q + 1) (by omega) hq))
      rw [gu_width hs 32 a (q + 1) (by omega) hq] at WD
      rw [show badPlace a = (a : Int) from if_neg (by omega)] at LB
      have M3 := Lib.hid hm3
      have SA := Lib.hid (same_new memS a 2 (by omega) (by omega) w3 (errType_below hb3 HG.out hgl))
      clear hm3 ho3 gu
      go_wp2_with (first | (go_at_call 15; refine T3.out.mono ?_; rintro e w' ⟨rfl, rfl⟩) | (go_at_call 18; refine WD.out.mono ?_; rintro e w' ⟨rfl, rfl⟩) | (go_at_call 21; refine LB.out.mono ?_; rintro e w' ⟨rfl, rfl⟩) | (go_at_call 14; refine (NN.out _).mono ?_; rintro e w' ⟨rfl, rfl⟩))
      go_at_call 13
      refine SA.out.mono ?_
      rintro e w4 ⟨rfl, hb4⟩
      have hm4 := M3.out.only (F := []) (Only.of_below hb4) (by simp) (by simp)
      have MP := Lib.hid (gn_map hs 32 a (q + 1) (by omega) hq hm4 (1 + (q : Int)) (by omega))
      have hb4' : Below w.heap.size w w4 := hb3.trans (hb4.mono hb3.size)
      clear hm4 hb4
      go_wp2_with fail
      go_at_call 17
      refine MP.out.mono ?_
      rintro e w5 ⟨rfl, hm5, ho5⟩
      have hb5 : Below w.heap.size w w5 := hb4'.trans (ho5.below (by simp; omega) hb4'.size)
      have M5 := Lib.hid hm5
      clear hm5 ho5
      go_wp2_with fail
      obtain ⟨wo, rfl⟩ : ∃ wo : World, wo = wr := ⟨_, rfl⟩
      go_loopw [11] (fun vj wr => ∃ j : Nat, j ≤ 32 ∧ vj = .int .i64 j ∧ MemAt wr b bc (Gn hs a (q + 1) (32 + (j : Int))) 32 ∧ Below w.heap.size w wr) (fun vj _ => 32 - (intOf vj).toNat)
      case atStart => exact ⟨0, by omega, rfl, by have := M5.out; simpa using this, hb5⟩
      case round =>
        obtain ⟨j, hj, rfl, hm6, hb6⟩ := hrel
        by_cases hlj : j < 32
        · have LD := Lib.hid (gn_load hs v 32 a (q + 1) hq G.out hv.out (32 + (j : Int)) (by omega) (by omega) j hlj hm6)
          clear hm6
          have hc : (j < a) ∨ (a ≤ j ∧ j < a + (q + 1)) ∨ (a + (q + 1) ≤ j) := by omega
          rcases hc with hc | ⟨hc, hc2⟩ | hc
          · rw [if_neg (by omega)] at LD
            go_wp2_with fail
            go_at_call 21
            refine LD.out.mono ?_
            rintro e w7 ⟨rfl, hm7, ho7⟩
            have M7 := Lib.hid hm7
            have hb7 : Below w.heap.size w w7 := hb6.trans (ho7.below (by simp; omega) hb6.size)
            clear hm7 ho7
            go_wp2_with fail
            go_roundw
            case rel => exact ⟨j + 1, by omega, by go_num, by have := M7.out; rw [show (32 : Int) + ((j + 1 : Nat) : Int) = 32 + (j : Int) + 1 by omega]; exact this, hb7⟩
            case measure => simp [intOf]; omega
          · rw [if_pos ⟨hc, hc2⟩] at LD
            go_wp2_with fail
            go_at_call 21
            refine LD.out.mono ?_
            rintro e w7 ⟨rfl, hm7, ho7⟩
            have M7 := Lib.hid hm7
            have hb7 : Below w.heap.size w w7 := hb6.trans (ho7.below (by simp; omega) hb6.size)
            clear hm7 ho7
            go_wp2_with fail
            go_roundw
            case rel => exact ⟨j + 1, by omega, by go_num, by have := M7.out; rw [show (32 : Int) + ((j + 1 : Nat) : Int) = 32 + (j : Int) + 1 by omega]; exact this, hb7⟩
            case measure => simp [intOf]; omega
          · rw [if_neg (by omega)] at LD
            go_wp2_with fail
            go_at_call 21
            refine LD.out.mono ?_
            rintro e w7 ⟨rfl, hm7, ho7⟩
            have M7 := Lib.hid hm7
            have hb7 : Below w.heap.size w w7 := hb6.trans (ho7.below (by simp; omega) hb6.size)
            clear hm7 ho7
            go_wp2_with fail
            go_roundw
            case rel => exact ⟨j + 1, by omega, by go_num, by have := M7.out; rw [show (32 : Int) + ((j + 1 : Nat) : Int) = 32 + (j : Int) + 1 by omega]; exact this, hb7⟩
            case measure => simp [intOf]; omega
        · clear hm6
          go_wp2_with fail
          go_at_call 12
          refine (AW.out _).mono ?_
          rintro e w8 ⟨rfl, hb8⟩
          go_wp2_with fail
          go_ret
          exact ⟨rfl, hb6.trans (hb8.mono hb6.size)⟩

theorem memGone_walk (d f v : Int) (_w0 : (Lit.int .i64 d).wf = true) (_w1 : (Lit.int .i64 f).wf = true) (w2 : (Lit.int .u64 v).wf = true) (w : World) (hg : ErrType w) :
    Calls Tryd.prog 6 #[.int .i64 d, .int .i64 f, .int .u64 v] w fun e w' => e = .returned (.bool true) ∧ Below w.heap.size w w' := by
  obtain ⟨v0, v1⟩ := u64_wf w2
  have h1 := Int.emod_nonneg d (show (32 : Int) ≠ 0 by omega)
  have h2 := Int.emod_lt_of_pos d (show (0 : Int) < 32 by omega)
  obtain ⟨a, ha⟩ : ∃ a : Nat, d % 32 = a := ⟨(d % 32).toNat, by omega⟩
  have h3 := Int.emod_nonneg f (show 32 - (a : Int) ≠ 0 by omega)
  have h4 := Int.emod_lt_of_pos f (show (0 : Int) < 32 - (a : Int) by omega)
  obtain ⟨q, hq⟩ : ∃ q : Nat, f % (32 - (a : Int)) = q := ⟨(f % (32 - (a : Int))).toNat, by omega⟩
  exact memGone_main d f v a q ha (by omega) hq (by omega) v0 v1 w hg
end Go.Proofs.YtdnamjlknmcdjaaDoor
