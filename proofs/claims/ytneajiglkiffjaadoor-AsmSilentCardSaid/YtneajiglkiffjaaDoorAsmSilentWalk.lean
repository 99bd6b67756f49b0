/- The walk of the statement on lines that say nothing (layer 5). The condition: the program's table of names holds the names. -/
import Derived.Test.YtneajiglkiffjaaDoorAsmAwake
import Derived.Test.YtneajiglkiffjaaDoorSilentPlain
import Derived.Test.YtneajiglkiffjaaDoorCodeSame
import Derived.Test.YtneajiglkiffjaaDoorKeepWithin
import Derived.Deep.CutRange
import Derived.Deep.DeepCutAuto
import Derived.Deep.CutBlock
import Derived.Deep.Light
import Derived.Deep.RegionHeld3
namespace Go.Proofs.YtneajiglkiffjaaDoor
open Go.RowKit
set_option linter.unusedVariables false

theorem names_lt0 {w : World} (N : NamesAt w) : 1 < w.heap.size := World.block_lt_of_cell? _ _ (N 0 _ rfl)
theorem alike_cases {r r' : PRes} (h : AlikeP r r') : (∃ c l l', r = .ok c l ∧ r' = .ok c l' ∧ bare l = bare l') ∨ ((∀ c l, r ≠ .ok c l) ∧ (∀ c l, r' ≠ .ok c l)) := by
  cases r <;> cases r' <;> first | exact h.elim | (obtain ⟨rfl, h2⟩ := h; exact .inl ⟨_, _, _, rfl, rfl, h2⟩) | exact .inr ⟨(fun _ _ h => by cases h), (fun _ _ h => by cases h)⟩
theorem parOut_bad {r : PRes} {w w' : World} {e : Ending} (h : ParOut r w e w') (hr : ∀ c l, r ≠ .ok c l) : (∃ t v, e = .returned (.tuple #[.slice none 0 0, .slice none 0 0, .iface t v])) ∧ Below w.heap.size w w' := by
  obtain ⟨hb, h⟩ := h
  cases r with
  | ok c l => exact (hr c l rfl).elim
  | text n => obtain ⟨x, h1, _⟩ := h; exact ⟨⟨_, _, h1⟩, hb⟩
  | err => obtain ⟨t, v, h1⟩ := h; exact ⟨⟨_, _, h1⟩, hb⟩
/-- Labels lie there. -/
def LabIn (W : World) (A : Option Addr) (l : Labs) : Prop := ∀ i, i < l.length → ∃ g, A = some ⟨g, 0, none⟩ ∧ g < W.heap.size ∧ W.cell? ⟨g, i * 2, none⟩ = some (.string (bytesA (l.getD i ([], 0, 0)).1)) ∧ W.cell? ⟨g, i * 2 + 1, none⟩ = some (.int .i64 ((l.getD i ([], 0, 0)).2.1 : Int))
theorem LabIn.below {W W' : World} {A : Option Addr} {l : Labs} (h : LabIn W A l) (hb : Below W.heap.size W W') : LabIn W' A l := fun i hi => by
  obtain ⟨g, e, hg, c0, c1⟩ := h i hi
  exact ⟨g, e, Nat.lt_of_lt_of_le hg hb.size, by rw [hb.cell (p := ⟨g, i * 2, none⟩) hg]; exact c0, by rw [hb.cell (p := ⟨g, i * 2 + 1, none⟩) hg]; exact c1⟩
theorem labIn_own {W : World} {base : Nat} {v : Value} {l : Labs} (h : W.ownsRow base 33 2 v l.length (flatLab l)) : ∃ A cap, v = .slice A l.length cap ∧ LabIn W A l ∧ l.length ≤ 9223372036854775807 := by
  rcases h.2 with ⟨hv, h0⟩ | ⟨g, cap, cur, hv, hb, hh, hn, hm, _⟩
  · exact ⟨none, 0, by rw [hv, h0], fun i hi => by omega, by omega⟩
  · unfold maxLen at hm
    refine ⟨some ⟨g, 0, none⟩, cap, hv, fun i hi => ?_, by omega⟩
    subst hv
    obtain ⟨f0, f1⟩ := flatLab_get l i (l.getD i ([], 0, 0)) (by rw [List.getD_eq_getElem?_getD, List.getElem?_eq_getElem hi]; rfl)
    exact ⟨g, rfl, (Array.getElem?_eq_some_iff.1 hh).1, own_cell h _ _ f0, own_cell h _ _ f1⟩
theorem insIn_own {W : World} {base : Nat} {v : Value} {c : List Inst} (h : W.ownsRow base 37 7 v c.length (flatCs c)) : ∃ A cap, v = .slice A c.length cap ∧ InsIn W A c := by
  rcases h.2 with ⟨hv, h0⟩ | ⟨g, cap, cur, hv, hb, hh, hn, hm, _⟩
  · exact ⟨none, 0, by rw [hv, h0], fun i hi => by omega⟩
  · refine ⟨some ⟨g, 0, none⟩, cap, hv, fun i hi => ?_⟩
    subst hv
    have e : (⟨g, 0, none⟩ : Addr).add (i * 7) = ⟨g, i * 7, none⟩ := by unfold Addr.add; split <;> simp_all
    have k : ∀ k u, k < 7 → (c.getD i inst0).cs[k]? = some u → W.cell? ⟨g, i * 7 + k, none⟩ = some u := fun k u hk hu => own_cell h _ _ (by rw [flatCs_get c i k hi hk]; exact hu)
    exact ⟨_, rfl, (Array.getElem?_eq_some_iff.1 hh).1, by rw [e]; exact k 0 _ (by omega) rfl, by rw [e]; exact k 1 _ (by omega) rfl, by rw [e]; exact k 2 _ (by omega) rfl, by rw [e]; exact k 3 _ (by omega) rfl, by rw [e]; exact k 4 _ (by omega) rfl, by rw [e]; exact k 5 _ (by omega) rfl, by rw [e]; exact k 6 _ (by omega) rfl⟩
theorem parOut_ok {c : List Inst} {l : Labs} {w w' : World} {e : Ending} (h : ParOut (.ok c l) w e w') : (∃ A cap B cap2, e = .returned (.tuple #[.slice A c.length cap, .slice B l.length cap2, .nilIface]) ∧ InsIn w' A c ∧ LabIn w' B l ∧ l.length ≤ 9223372036854775807) ∧ Below w.heap.size w w' := by
  obtain ⟨hb, vc, vl, he, h1, h2⟩ := h
  obtain ⟨A, cap, rfl, i1⟩ := insIn_own h1
  obtain ⟨B, cap2, rfl, i2, i3⟩ := labIn_own h2
  exact ⟨⟨A, cap, B, cap2, he, i1, i2, i3⟩, hb⟩
theorem parse_ok_len {T : List UInt8} {c : List Inst} {l : Labs} (h : parseP T = .ok c l) : c.length ≤ 2048 := by
  unfold parseP at h
  split at h
  · cases h
  · split at h
    · unfold finishP at h
      split at h
      · cases h
      · split at h
        · cases h
        · rename_i hh; cases h; omega
    · cases h
    · cases h
theorem more_put (i : Nat) (hi : i < 5) : bytesA (moreB i) ++ bytesA (silentL.getD i [] ++ [10]) = bytesA (moreB (i + 1)) := by
  apply ByteArray.ext
  rw [ByteArray.data_append, more_step i hi]
  simp
/-- The text with the lines put in. -/
def putA (s : ByteArray) (k n : Nat) : ByteArray := s.extract 0 k ++ bytesA (moreB n) ++ s.extract k s.size
theorem putA_list (s : ByteArray) (k n : Nat) (hk : k ≤ s.size) : (putA s k n).data.toList = s.data.toList.take k ++ moreB n ++ s.data.toList.drop k := by
  unfold putA
  have e1 : (s.extract 0 k).data.toList = s.data.toList.take k := Lib.extract_from_zero s k
  have e2 : (s.extract k s.size).data.toList = s.data.toList.drop k := Lib.extract_to_end s k
  simp only [ByteArray.data_append, Array.toList_append, e1, e2]
theorem putA_size (s : ByteArray) (k n : Nat) (hk : k ≤ s.size) : (putA s k n).size ≤ s.size + 40 := by
  have h1 := congrArg List.length (putA_list s k n hk)
  have h2 := more_len n
  simp only [List.length_append, List.length_take, List.length_drop, Array.length_toList] at h1
  have h3 : (putA s k n).data.size = (putA s k n).size := rfl
  have h4 : s.data.size = s.size := rfl
  omega
set_option maxHeartbeats 8000000 in
set_option maxRecDepth 100000 in
theorem asmSilent_walk (s : ByteArray) (at_ n : Int) (hs : s.size ≤ maxLen) (h1 : (Lit.int .i64 at_).wf = true) (h2 : (Lit.int .i64 n).wf = true) (w : World) (N : NamesAt w) : Calls Tryd.prog 3 #[.string s, .int .i64 at_, .int .i64 n] w fun e w' => e = .returned (.bool true) ∧ Below w.heap.size w w' := by
  unfold maxLen at hs
  have AW := Lib.hid (show ∀ W, Below w.heap.size w W → Calls Tryd.prog 6 #[] W fun e w' => e = .returned (.bool true) ∧ Below w.heap.size w w' from fun W hW =>
    (awake_any W (N.below hW (names_lt0 N)) (Nat.lt_of_lt_of_le (names_lt0 N) hW.size)).mono fun e w' ⟨h1, h2⟩ => ⟨h1, hW.trans (h2.mono hW.size)⟩)
  have PA := Lib.hid (fun t (ht : t.size ≤ 9223372036854775807) W (hW : Below w.heap.size w W) => asmParse_any t ht W (N.below hW (names_lt0 N)) (Nat.lt_of_lt_of_le (names_lt0 N) hW.size))
  have WN := Lib.hid (fun W => within_any n 5 (by omega) (by omega) W)
  have b1 := Int.emod_nonneg n (show (5 : Int) ≠ 0 by omega)
  have b2 := Int.emod_lt_of_pos n (show (0 : Int) < 5 by omega)
  obtain ⟨m, hm⟩ : ∃ m : Nat, n % 5 = m := ⟨(n % 5).toNat, by omega⟩
  have hm5 : m < 5 := by omega
  rw [hm] at WN
  clear b1 b2 hm h1 h2 N
  by_cases h5 : 5000 < s.size
  · have i1 : (5000 : Int) < (s.size : Int) := by omega
    clear h5
    go_enter Tryd.func3, Tryd.ntmps3
    go_wp2_with fail
    go_at_call 5
    refine (WN.out _).mono ?_
    rintro e w' ⟨rfl, rfl⟩
    go_wp2_with fail
    go_at_call 6
    refine (AW.out _ (Below.refl _ _)).mono ?_
    rintro e w' ⟨rfl, hb⟩
    have HB := Lib.hid hb
    clear hb
    go_wp2_with fail
    go_ret
    exact ⟨rfl, HB.out⟩
  have i1 : ¬ (5000 : Int) < (s.size : Int) := by omega
  have WA := Lib.hid (fun W => within_any at_ (s.size + 1) (by omega) (by omega) W)
  have c1 := Int.emod_nonneg at_ (show ((s.size : Int) + 1) ≠ 0 by omega)
  have c2 := Int.emod_lt_of_pos at_ (show (0 : Int) < (s.size : Int) + 1 by omega)
  obtain ⟨k0, hk⟩ : ∃ k0 : Nat, at_ % ((s.size : Int) + 1) = k0 := ⟨(at_ % ((s.size : Int) + 1)).toNat, by omega⟩
  have hk0 : k0 ≤ s.size := by omega
  rw [hk] at WA
  clear c1 c2 hk
  have hs5 : s.size ≤ 5000 := by omega
  clear h5 hs
  go_enter Tryd.func3, Tryd.ntmps3
  go_wp2_with fail
  go_at_call 5
  refine (WN.out _).mono ?_
  rintro e w' ⟨rfl, rfl⟩
  go_wp2_with fail
  go_at_call 5
  refine (WA.out _).mono ?_
  rintro e w' ⟨rfl, rfl⟩
  clear WN WA
  go_upto_block 0 with fail
  go_cut [7] from 28 to 38 (fun s7 w' => ∃ k : Nat, k ≤ s.size ∧ s7 = .int .i64 k ∧ Hid (k = 0 ∨ s.data.toList[k - 1]? = some 10) ∧ w = w')
  case first =>
   as_aux_lemma =>
    go_wp2_with fail
    go_loop [7] (fun vk => ∃ k : Nat, k ≤ s.size ∧ vk = .int .i64 k) (fun vk => (intOf vk).toNat)
    case atStart => exact ⟨k0, hk0, rfl⟩
    case round =>
      obtain ⟨k, hk, rfl⟩ := hrel
      by_cases hk1 : k = 0
      · subst hk1
        clear AW PA
        go_wp2_with fail
        go_meet
        exact ⟨0, by omega, rfl, Lib.hid (.inl rfl), rfl⟩
      · obtain ⟨j, rfl⟩ : ∃ j, k = j + 1 := ⟨k - 1, by omega⟩
        have p1 : (0 : Int) < ((j + 1 : Nat) : Int) := by omega
        have p2 : IntKind.i64.wrap (((j + 1 : Nat) : Int) - 1) = (j : Int) := by
          rw [IntWalk.i64_in _ (by omega)]; omega
        have p3 : ((j : Int)).toNat = j := by omega
        by_cases h10 : (s[j].toNat : Int) = 10
        · have e10 : ((s[j].toNat : Int) == 10) = true := by rw [h10]; rfl
          have G := Lib.hid (show s.data.toList[j + 1 - 1]? = some 10 from by
            rw [Nat.add_sub_cancel, Array.getElem?_toList, Array.getElem?_eq_getElem (show j < s.data.size from hk)]
            have : s.data[j] = s[j] := rfl
            rw [this]
            congr 1
            exact UInt8.toNat_inj.1 (by show s[j].toNat = 10; omega))
          clear h10 AW PA
          go_wp2_with fail
          go_meet
          exact ⟨j + 1, by omega, rfl, Lib.hid (.inr G.out), rfl⟩
        · have e10 : ((s[j].toNat : Int) == 10) = false := beq_eq_false_iff_ne.2 h10
          clear h10 AW PA
          go_wp2_with fail
          go_round
          case rel => exact ⟨j, by omega, by go_num⟩
          case measure => simp [intOf]
  case rest =>
  obtain ⟨k, hk, rfl, HK, rfl⟩ := hcut
  clear hk0
  have AL := Lib.hid (alike_cases (silent_text s.data.toList k m (by simpa using hk) HK.out (by simpa using hs5)))
  rw [← putA_list s k m hk] at AL
  clear HK
  go_wp2_with fail
  go_loopw [8, 9] (fun v8 vi wr => ∃ i : Nat, ∃ z : Int, i ≤ m ∧ z = i ∧ vi = .int .i64 z ∧ v8 = .string (bytesA (moreB i)) ∧ Hid (Below w.heap.size w wr)) (fun _ vi _ => m - (intOf vi).toNat)
  case atStart => exact ⟨0, 0, by omega, rfl, rfl, rfl, Lib.hid (Below.refl _ _)⟩
  case round =>
    obtain ⟨i, z, hi, hz, rfl, rfl, HB⟩ := hrel
    by_cases hlt : i < m
    · obtain ⟨ma, hma⟩ : ∃ a, a = bytesA (moreB i) := ⟨_, rfl⟩
      have hml : ma.size ≤ 40 := by rw [hma, show (bytesA (moreB i)).size = (moreB i).length by simp [ByteArray.size]]; exact more_len i
      have HM := Lib.hid (show ma ++ bytesA (silentL.getD i [] ++ [10]) = bytesA (moreB (i + 1)) from by rw [hma]; exact more_put i (by omega))
      rw [← hma]
      clear hma
      have q1 : ¬ 9223372036854775807 < ma.size + 1 := by omega
      have q2 : ¬ 9223372036854775807 < ma.size + 4 := by omega
      have q3 : ¬ 9223372036854775807 < ma.size + 14 := by omega
      have q4 : z < (m : Int) := by omega
      have hi4 : i = 0 ∨ i = 1 ∨ i = 2 ∨ i = 3 := by omega
      clear AW PA AL hs5 i1
      rcases hi4 with rfl | rfl | rfl | rfl
      · obtain rfl : z = 0 := by omega
        have LT := Lib.hid hlt
        clear hz hi hlt hk
        go_wp2_with fail
        go_roundw
        case rel => exact ⟨1, 1, LT.out, rfl, rfl, by rw [← HM.out]; rfl, Lib.hid (HB.out.alloc HB.out.size _)⟩
        case measure => have := LT.out; simp [intOf]; omega
      · obtain rfl : z = 1 := by omega
        have LT := Lib.hid hlt
        clear hz hi hlt hk
        go_wp2_with fail
        go_roundw
        case rel => exact ⟨2, 2, LT.out, rfl, rfl, by rw [← HM.out]; rfl, Lib.hid (HB.out.alloc HB.out.size _)⟩
        case measure => have := LT.out; simp [intOf]; omega
      · obtain rfl : z = 2 := by omega
        have LT := Lib.hid hlt
        clear hz hi hlt hk
        go_wp2_with fail
        go_roundw
        case rel => exact ⟨3, 3, LT.out, rfl, rfl, by rw [← HM.out]; rfl, Lib.hid (HB.out.alloc HB.out.size _)⟩
        case measure => have := LT.out; simp [intOf]; omega
      · obtain rfl : z = 3 := by omega
        have LT := Lib.hid hlt
        clear hz hi hlt hk
        go_wp2_with fail
        go_roundw
        case rel => exact ⟨4, 4, LT.out, rfl, rfl, by rw [← HM.out]; rfl, Lib.hid (HB.out.alloc HB.out.size _)⟩
        case measure => have := LT.out; simp [intOf]; omega
    · obtain rfl : i = m := by omega
      obtain rfl : z = (i : Int) := hz
      have hml := more_len i
      have hms : (bytesA (moreB i)).size = (moreB i).length := by simp [ByteArray.size]
      have P1 := Lib.hid (PA.out s (by omega) wr HB.out)
      have P2 := Lib.hid (fun W hW => PA.out (putA s k i) (by have := putA_size s k i hk; omega) W hW)
      unfold putA at P2
      obtain ⟨ma, hma⟩ : ∃ a, a = bytesA (moreB i) := ⟨_, rfl⟩
      have hma4 : ma.size ≤ 40 := by rw [hma, hms]; exact hml
      have AL2 := Lib.hid AL.out
      unfold putA at AL2
      rw [← hma] at P2 AL2 ⊢
      clear hma hml hms PA AL
      rcases AL2.out with ⟨c, l, l', r1, r2, hb⟩ | ⟨r1, r2⟩
      · have cl := parse_ok_len r1
        rw [r1] at P1
        rw [r2] at P2
        have P1b := Lib.hid (P1.out.mono fun e w' h => parOut_ok h)
        have P2b := Lib.hid (fun W hW => (P2.out W hW).mono fun e w' h => parOut_ok h)
        have hll : l.length = l'.length := by have := congrArg List.length hb; simpa [bare] using this
        have LB := Lib.hid (show ∀ t, t < l.length → (l'.getD t ([], 0, 0)).1 = (l.getD t ([], 0, 0)).1 ∧ (l'.getD t ([], 0, 0)).2.1 = (l.getD t ([], 0, 0)).2.1 from fun t ht => by
          have := congrArg (fun x => x[t]?) hb
          simp only [bare, List.getElem?_map] at this
          rw [List.getElem?_eq_getElem ht, List.getElem?_eq_getElem (by omega)] at this
          simp only [Option.map_some, Option.some.injEq, Prod.mk.injEq] at this
          rw [List.getD_eq_getElem?_getD, List.getD_eq_getElem?_getD, List.getElem?_eq_getElem ht, List.getElem?_eq_getElem (by omega)]
          exact ⟨this.1.symm, this.2.symm⟩)
        rw [← hll] at P2b
        have HL2 := Lib.hid hll
        obtain ⟨nC, hnC⟩ : ∃ k, k = c.length := ⟨_, rfl⟩
        obtain ⟨nL, hnL⟩ : ∃ k, k = l.length := ⟨_, rfl⟩
        have HNC := Lib.hid hnC
        have HNL := Lib.hid hnL
        rw [← hnC, ← hnL] at P1b P2b
        rw [← hnL] at LB HL2
        clear P1 P2 r1 r2 AL2 hb hll hnC hnL
        go_wp2_with fail
        go_at_call 7
        refine P1b.out.mono ?_
        rintro e w1 ⟨⟨A1, cap1, B1, capB1, rfl, I1, J1, hlen⟩, hb1⟩
        have HB1 := Lib.hid (HB.out.trans (hb1.mono HB.out.size))
        have HI1 := Lib.hid I1
        have HJ1 := Lib.hid J1
        clear hb1 I1 J1 P1b
        go_wp2_with fail
        have P2c := Lib.hid (P2b.out w1.drew HB1.out.drew)
        have hkI : (k : Int) ≤ (s.size : Int) := by omega
        have e0 : (s.extract 0 k).size = k := by simp; omega
        have e1 : (s.extract k s.size).size = s.size - k := by simp
        have q5 : ¬ 9223372036854775807 < k + ma.size := by omega
        have q6 : ¬ 9223372036854775807 < k + ma.size + (s.size - k) := by omega
        clear P2b HB hlt hi hm5 hs5 i1
        go_region_held3 (fun _ => True) (exact trivial) (first | (go_at_call 7; ((with_reducible refine P2c.out.mono ?_); rintro e w2 ⟨⟨A2, cap2, B2, capB2, rfl, I2, J2, hlen2⟩, hb2⟩)))
        have HB2 := Lib.hid (HB1.out.drew.trans (hb2.mono HB1.out.size))
        have HI2 := Lib.hid I2
        have HJ2 := Lib.hid J2
        have HI1b := Lib.hid (HI1.out.below ((Below.refl _ _).drew.trans hb2))
        have HJ1b := Lib.hid (HJ1.out.below ((Below.refl _ _).drew.trans hb2))
        have CS := Lib.hid (code_same A1 A2 cap1 cap2 c w2 (by omega) HI1b.out HI2.out)
        rw [← HNC.out] at CS
        clear hb2 P2c I2 J2 HI1 HJ1 e0 e1 q5 q6 hkI
        go_wp2_with fail
        go_at_call 8
        refine CS.out.mono ?_
        rintro e w3 ⟨rfl, hb3⟩
        have HB3 := Lib.hid (HB2.out.trans (hb3.mono HB2.out.size))
        have HJ1c := Lib.hid (HJ1b.out.below hb3)
        have HJ2c := Lib.hid (HJ2.out.below hb3)
        clear hb3 CS HJ1b HJ2 HI1b HI2 HB2 HB1
        go_wp2_with fail
        obtain ⟨wr1, rfl⟩ : ∃ x, x = wr := ⟨_, rfl⟩
        go_loopw [16] (fun vi wr => ∃ j : Nat, j ≤ nL ∧ vi = .int .i64 j ∧ Hid (Below w3.heap.size w3 wr)) (fun vi _ => nL - (intOf vi).toNat)
        case atStart => exact ⟨0, by omega, rfl, Lib.hid (Below.refl _ _)⟩
        case round =>
          obtain ⟨j, hj, rfl, HBJ⟩ := hrel
          by_cases hlt : j < nL
          · obtain ⟨g1, rfl, _, c0, c1⟩ := (HJ1c.out.below HBJ.out) j (by rw [← HNL.out]; exact hlt)
            obtain ⟨g2, rfl, _, d0, d1⟩ := (HJ2c.out.below HBJ.out) j (by have := LB.out; rw [← HL2.out]; exact hlt)
            obtain ⟨y1, y2⟩ := LB.out j hlt
            rw [y1] at d0
            rw [y2] at d1
            generalize bytesA (l.getD j ([], 0, 0)).1 = sq at c0 d0
            generalize ((l.getD j ([], 0, 0)).2.1 : Int) = pq at c1 d1
            have ss : (sq.toList == sq.toList) = true := by simp
            have BD := Lib.hid (fun n => (⟨HBJ.out.os, HBJ.out.tape, HBJ.out.output, HBJ.out.size, HBJ.out.block⟩ : Below w3.heap.size w3 (wr.drewN n)))
            clear y1 y2
            go_upto_region 21 with fail
            go_quiet (fail)
            go_wp2_with fail
            go_roundw
            case rel => exact ⟨j + 1, by omega, by go_num, Lib.hid (BD.out _)⟩
            case measure => simp [intOf]; omega
          · have HBF := Lib.hid (HB3.out.trans (HBJ.out.mono HB3.out.size))
            go_wp2_with fail
            go_at_call 6
            refine (AW.out _ HBF.out).mono ?_
            rintro e w' ⟨rfl, hb⟩
            have HBE := Lib.hid hb
            clear hb
            go_wp2_with fail
            go_ret
            exact ⟨rfl, HBE.out⟩
      · have P1b := Lib.hid (P1.out.mono fun e w' h => parOut_bad h r1)
        have P2b := Lib.hid (fun W hW => (P2.out W hW).mono fun e w' h => parOut_bad h r2)
        clear P1 P2 r1 r2 AL2
        go_wp2_with fail
        go_at_call 7
        refine P1b.out.mono ?_
        rintro e w1 ⟨⟨t, v, rfl⟩, hb1⟩
        have HB1 := Lib.hid (HB.out.trans (hb1.mono HB.out.size))
        clear hb1
        go_wp2_with fail
        have P2c := Lib.hid (P2b.out w1.drew HB1.out.drew)
        have hkI : (k : Int) ≤ (s.size : Int) := by omega
        have e0 : (s.extract 0 k).size = k := by simp; omega
        have e1 : (s.extract k s.size).size = s.size - k := by simp
        have q5 : ¬ 9223372036854775807 < k + ma.size := by omega
        have q6 : ¬ 9223372036854775807 < k + ma.size + (s.size - k) := by omega
        clear P2b HB hlt hi hm5 hs5 i1
        go_region_held3 (fun _ => True) (exact trivial) (first | (go_at_call 7; ((with_reducible refine P2c.out.mono ?_); rintro e w2 ⟨⟨t2, v2, rfl⟩, hb2⟩)))
        have HB2 := Lib.hid (HB1.out.drew.trans (hb2.mono HB1.out.size))
        clear hb2 P2c
        go_wp2_with fail
        go_at_call 6
        refine (AW.out _ HB2.out).mono ?_
        rintro e w' ⟨rfl, hb⟩
        have HBE := Lib.hid hb
        clear hb
        go_wp2_with fail
        go_ret
        exact ⟨rfl, HBE.out⟩
end Go.Proofs.YtneajiglkiffjaaDoor
