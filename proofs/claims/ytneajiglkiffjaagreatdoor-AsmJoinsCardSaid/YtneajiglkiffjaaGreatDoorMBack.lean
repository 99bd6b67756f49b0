/- What Parse leaves, opened; Find at a label's own name; the walk of the statement that what is printed is read as the same (layer 5). -/
import Derived.Test.YtneajiglkiffjaaGreatDoorAsmAwake
import Derived.Test.YtneajiglkiffjaaGreatDoorInsIn
import Derived.Test.YtneajiglkiffjaaGreatDoorErrAs2
import Derived.Lib.Hide
import Derived.Test.YtneajiglkiffjaaGreatDoorMPrint
namespace Go.Proofs.YtneajiglkiffjaaGreatDoor
open Go.RowKit
set_option linter.unusedVariables false

theorem names_lt0 {w : World} (N : NamesAt w) : 0 < w.heap.size := World.block_lt_of_cell? _ _ (N 0 _ rfl)
theorem parOut_bad {r : PRes} {w w' : World} {e : Ending} (h : ParOut r w e w') (hr : ∀ c l, r ≠ .ok c l) : (∃ t v, e = .returned (.tuple #[.slice none 0 0, .slice none 0 0, .iface t v])) ∧ Below w.heap.size w w' := by
  obtain ⟨hb, h⟩ := h
  cases r with
  | ok c l => exact (hr c l rfl).elim
  | text n => obtain ⟨x, h1, _⟩ := h; exact ⟨⟨_, _, h1⟩, hb⟩
  | err => obtain ⟨t, v, h1⟩ := h; exact ⟨⟨_, _, h1⟩, hb⟩
/-- Labels lie there. -/
def LabIn (W : World) (A : Option Addr) (l : Labs) : Prop := ∀ i, i < l.length → ∃ g, A = some ⟨g, 0, none⟩ ∧ g < W.heap.size ∧ W.cell? ⟨g, i * 2, none⟩ = some (.string (bytesA (l.getD i ([], 0, 0)).1)) ∧ W.cell? ⟨g, i * 2 + 1, none⟩ = some (.int .i64 ((l.getD i ([], 0, 0)).2.1 : Int))
theorem LabIn.below {W W' : World} {A : Option Addr} {l : Labs} (h : LabIn W A l) (hb : Below W.heap.size W W') : LabIn W' A l := fun i hi => by
  obtain ⟨g, e, hg, c0, c1⟩ := h i hi
  exact ⟨g, e, Nat.lt_of_lt_of_le hg hb.size, by rw [hb.cell (p := ⟨g, i * 2, none⟩) hg]; exact c0, by rw [hb.cell (p := ⟨g, i * 2 + 1, none⟩) hg]; exact c1⟩
theorem labIn_own {W : World} {base : Nat} {v : Value} {l : Labs} (h : W.ownsRow base 41 2 v l.length (flatLab l)) : ∃ A cap, v = .slice A l.length cap ∧ LabIn W A l ∧ l.length ≤ 9223372036854775807 := by
  rcases h.2 with ⟨hv, h0⟩ | ⟨g, cap, cur, hv, hb, hh, hn, hm, _⟩
  · exact ⟨none, 0, by rw [hv, h0], fun i hi => by omega, by omega⟩
  · unfold maxLen at hm
    refine ⟨some ⟨g, 0, none⟩, cap, hv, fun i hi => ?_, by omega⟩
    subst hv
    obtain ⟨f0, f1⟩ := flatLab_get l i (l.getD i ([], 0, 0)) (by rw [List.getD_eq_getElem?_getD, List.getElem?_eq_getElem hi]; rfl)
    exact ⟨g, rfl, (Array.getElem?_eq_some_iff.1 hh).1, own_cell h _ _ f0, own_cell h _ _ f1⟩
theorem insIn_own {W : World} {base : Nat} {v : Value} {c : List Inst} (h : W.ownsRow base 44 7 v c.length (flatCs c)) : ∃ A cap, v = .slice A c.length cap ∧ InsIn W A c := by
  rcases h.2 with ⟨hv, h0⟩ | ⟨g, cap, cur, hv, hb, hh, hn, hm, _⟩
  · exact ⟨none, 0, by rw [hv, h0], fun i hi => by omega⟩
  · refine ⟨some ⟨g, 0, none⟩, cap, hv, fun i hi => ?_⟩
    subst hv
    have e : (⟨g, 0, none⟩ : Addr).add (i * 7) = ⟨g, i * 7, none⟩ := by unfold Addr.add; split <;> simp_all
    have k : ∀ k u, k < 7 → (c.getD i inst0).cs[k]? = some u → W.cell? ⟨g, i * 7 + k, none⟩ = some u := fun k u hk hu => own_cell h _ _ (by rw [flatCs_get c i k hi hk]; exact hu)
    exact ⟨_, rfl, (Array.getElem?_eq_some_iff.1 hh).1, by rw [e]; exact k 0 _ (by omega) rfl, by rw [e]; exact k 1 _ (by omega) rfl, by rw [e]; exact k 2 _ (by omega) rfl, by rw [e]; exact k 3 _ (by omega) rfl, by rw [e]; exact k 4 _ (by omega) rfl, by rw [e]; exact k 5 _ (by omega) rfl, by rw [e]; exact k 6 _ (by omega) rfl⟩
theorem parOut_ok {c : List Inst} {l : Labs} {w w' : World} {e : Ending} (h : ParOut (.ok c l) w e w') : (∃ A cap B cap2, e = .returned (.tuple #[.slice A c.length cap, .slice B l.length cap2, .nilIface]) ∧ InsIn w' A c ∧ LabIn w' B l ∧ l.length ≤ 9223372036854775807) ∧ Below w.heap.size w w' := by
  obtain ⟨hb, vc, vl, he, h1, h2⟩ := h
  obtain ⟨A, cap, rfl, i1⟩ := insIn_own h1
  obtain ⟨B, cap2, rfl, i2, i3⟩ := labIn_own h2
  exact ⟨⟨A, cap, B, cap2, he, i1, i2, i3⟩, hb⟩
theorem parse_ok_len {T : List UInt8} {c : List Inst} {l : Labs} (h : parseP T = .ok c l) : c.length ≤ 2048 := by
  unfold parseP at h
  split at h
  · cases h
  · split at h
    · unfold finishP at h
      split at h
      · cases h
      · split at h
        · cases h
        · rename_i hh; cases h; omega
    · cases h
    · cases h
/-- A label, as a call gets it. -/
abbrev labV (q : List UInt8 × Nat × Nat) : Value := .agg #[.string (bytesA q.1), .int .i64 (q.2.1 : Int)]
set_option maxHeartbeats 400000 in
theorem sameName_any (q : List UInt8 × Nat × Nat) (X : Nat) (u : List UInt8) (w : World) (h : w.cell? ⟨X, 0, none⟩ = some (.string (bytesA u))) :
    Calls Tryz.prog 32 #[labV q, .pointer (some ⟨X, 0, none⟩)] w fun e w' => e = .returned (.bool (decide (q.1 = u))) ∧ Below w.heap.size w w' := by
  have hX := World.block_lt_of_cell? _ _ h
  have E := Lib.hid (bytesA_ne q.1 u)
  unfold labV
  generalize decide (q.1 = u) = r at E ⊢
  generalize bytesA q.1 = a at E ⊢
  generalize bytesA u = c at E h
  generalize (q.2.1 : Int) = z
  have E2 : (a.toList == c.toList) = r := E.out
  have HB := Lib.hid (show Below w.heap.size w (w.alloc (.cells #[.string a, .int .i64 z] 41)) from (Below.refl _ _).alloc (Nat.le_refl _) _)
  clear E
  go_enter Tryz.func32, Tryz.ntmps32
  cases r with
  | true =>
    go_wp2
    go_ret
    exact ⟨rfl, HB.out⟩
  | false =>
    go_wp2
    go_ret
    exact ⟨rfl, HB.out⟩
set_option maxHeartbeats 1000000 in
set_option maxRecDepth 100000 in
/-- The place of a label's own name, where no earlier label bears it. -/
theorem indexName_any (B : Option Addr) (cap : Nat) (l : Labs) (i : Nat) (X : Nat) (u : List UInt8) (w : World) (hi : i < l.length) (hl : l.length ≤ 9223372036854775807) (hL : LabIn w B l) (h : w.cell? ⟨X, 0, none⟩ = some (.string (bytesA u))) (hu : (l.getD i ([], 0, 0)).1 = u) (h0 : ∀ t, t < i → (l.getD t ([], 0, 0)).1 ≠ u) :
    Calls Tryz.prog 31 #[.slice B l.length cap, .func (.func 32) #[] #[.pointer (some ⟨X, 0, none⟩)]] w fun e w' => e = .returned (.int .i64 (i : Int)) ∧ Below w.heap.size w w' := by
  have SN := Lib.hid (fun (q : List UInt8 × Nat × Nat) W (hb : Below w.heap.size w W) => sameName_any q X u W (by rw [hb.cell (p := ⟨X, 0, none⟩) (World.block_lt_of_cell? _ _ h)]; exact h))
  have HL := Lib.hid hL
  obtain ⟨n, hn⟩ : ∃ n, n = l.length := ⟨_, rfl⟩
  have HN := Lib.hid hn
  have HU := Lib.hid hu
  have H0 := Lib.hid h0
  rw [← hn] at hi hl ⊢
  clear hL h hu h0 hn
  go_enter Tryz.func31, Tryz.ntmps31
  go_wp2_with fail
  go_loopw [8] (fun vi wr => ∃ t : Nat, t ≤ i ∧ vi = .int .i64 t ∧ Hid (Below w.heap.size w wr)) (fun vi _ => i - (intOf vi).toNat)
  case atStart => exact ⟨0, by omega, rfl, Lib.hid (Below.refl _ _)⟩
  case round =>
    obtain ⟨t, ht, rfl, hbl⟩ := hrel
    obtain ⟨g, rfl, hg, c0, c1⟩ := (HL.out.below hbl.out) t (by rw [← HN.out]; omega)
    have htn : t < n := by omega
    have S1 := SN.out (l.getD t ([], 0, 0)) wr hbl.out
    by_cases hq : t = i
    · subst hq
      have S2 := Lib.hid (show Calls Tryz.prog 32 #[.agg #[.string (bytesA (l.getD t ([], 0, 0)).1), .int .i64 ((l.getD t ([], 0, 0)).2.1 : Int)], .pointer (some ⟨X, 0, none⟩)] wr fun e w' => e = .returned (.bool true) ∧ Below wr.heap.size wr w' from by rw [decide_eq_true HU.out] at S1; exact S1)
      generalize bytesA (l.getD t ([], 0, 0)).1 = a at c0 S2
      generalize ((l.getD t ([], 0, 0)).2.1 : Int) = z at c1 S2
      clear S1
      go_wp2_with fail
      go_at_call 32
      refine S2.out.mono ?_
      rintro e w2 ⟨rfl, hb2⟩
      have BL2 := Lib.hid (hbl.out.trans (hb2.mono hbl.out.size))
      clear hb2
      go_wp2_with fail
      go_ret
      exact ⟨rfl, BL2.out⟩
    · have S2 := Lib.hid (show Calls Tryz.prog 32 #[.agg #[.string (bytesA (l.getD t ([], 0, 0)).1), .int .i64 ((l.getD t ([], 0, 0)).2.1 : Int)], .pointer (some ⟨X, 0, none⟩)] wr fun e w' => e = .returned (.bool false) ∧ Below wr.heap.size wr w' from by rw [decide_eq_false (H0.out t (by omega))] at S1; exact S1)
      generalize bytesA (l.getD t ([], 0, 0)).1 = a at c0 S2
      generalize ((l.getD t ([], 0, 0)).2.1 : Int) = z at c1 S2
      clear S1
      go_wp2_with fail
      go_at_call 32
      refine S2.out.mono ?_
      rintro e w2 ⟨rfl, hb2⟩
      have BL2 := Lib.hid (hbl.out.trans (hb2.mono hbl.out.size))
      clear hb2
      go_wp2_with fail
      go_roundw
      case rel => exact ⟨t + 1, by omega, by go_num, BL2⟩
      case measure => simp [intOf]; omega
set_option maxHeartbeats 1000000 in
theorem findOwn_any (B : Option Addr) (cap : Nat) (l : Labs) (i : Nat) (u : List UInt8) (w : World) (hi : i < l.length) (hl : l.length ≤ 9223372036854775807) (hL : LabIn w B l) (hu : (l.getD i ([], 0, 0)).1 = u) (h0 : ∀ t, t < i → (l.getD t ([], 0, 0)).1 ≠ u) :
    Calls Tryz.prog 13 #[.slice B l.length cap, .string (bytesA u)] w fun e w' => e = .returned (.tuple #[.int .i64 ((l.getD i ([], 0, 0)).2.1 : Int), .bool true]) ∧ Below w.heap.size w w' := by
  have HB0 := Lib.hid (show Below w.heap.size w (w.alloc (.cells #[.string (bytesA u)] 9)) from (Below.refl _ _).alloc (Nat.le_refl _) _)
  have IX := Lib.hid (indexName_any B cap l i w.heap.size u _ hi hl (hL.below HB0.out) (by rw [World.cell?_alloc_at _ _ _ _ rfl]; rfl) hu h0)
  have HL := Lib.hid (fun W (hW : Below w.heap.size w W) => (hL.below hW) i hi)
  obtain ⟨n, hn⟩ : ∃ n, n = l.length := ⟨_, rfl⟩
  rw [← hn] at IX hi ⊢
  generalize ((l.getD i ([], 0, 0)).2.1 : Int) = z at HL ⊢
  generalize bytesA u = a at IX HB0 ⊢
  clear hL hu h0 hn hl
  go_enter Tryz.func13, Tryz.ntmps13
  go_wp2_with fail
  go_at_call 31
  refine IX.out.mono ?_
  rintro e w2 ⟨rfl, hb2⟩
  have HB2 := Lib.hid (HB0.out.trans (hb2.mono HB0.out.size))
  obtain ⟨g, rfl, hg, c0, c1⟩ := HL.out w2 HB2.out
  clear hb2
  go_wp2_with fail
  go_ret2
  exact ⟨rfl, HB2.out⟩
end Go.Proofs.YtneajiglkiffjaaGreatDoor

namespace Go.Proofs.YtneajiglkiffjaaGreatDoor
open Go.RowKit
set_option linter.unusedVariables false

theorem labs_sorted (q : UInt8) (T : Nat → Bool) : ∀ (r : List Inst) (i p : Nat), (labsT q T r i p).Pairwise fun a b => a.2 < b.2
  | [], _, _ => List.Pairwise.nil
  | x :: r, i, p => by
    rw [labsT, List.pairwise_append]
    refine ⟨by split <;> simp, labs_sorted q T r (i + 1) (p + 1), fun a ha b hb => ?_⟩
    obtain ⟨j, _, _, rfl⟩ := (labs_mem _ _ _ _ _ _).1 hb
    split at ha
    · rw [List.mem_singleton.1 ha]; simp only; omega
    · simp at ha
/-- The labels of a printed text: their places, no name twice. -/
theorem labs_own {l : List Inst} {ls : Labs} (h : bare ls = labsT 112 (targetB l) l 0 0) (i : Nat) (hi : i < ls.length) : (ls.getD i ([], 0, 0)).2.1 < l.length ∧ ∀ t, t < i → (ls.getD t ([], 0, 0)).1 ≠ (ls.getD i ([], 0, 0)).1 := by
  have at_ : ∀ t, t < ls.length → ((ls.getD t ([], 0, 0)).1, (ls.getD t ([], 0, 0)).2.1) ∈ labsT 112 (targetB l) l 0 0 := fun t ht => by
    rw [← h]
    refine bare_mem ?_
    rw [List.getD_eq_getElem?_getD, List.getElem?_eq_getElem ht]; exact List.getElem_mem _
  obtain ⟨j, h1, _, h3⟩ := (labs_mem _ _ _ _ _ _).1 (at_ i hi)
  simp only [Prod.mk.injEq, Nat.zero_add] at h3
  refine ⟨by omega, fun t ht he => ?_⟩
  obtain ⟨j', _, _, h3'⟩ := (labs_mem _ _ _ _ _ _).1 (at_ t (by omega))
  simp only [Prod.mk.injEq, Nat.zero_add] at h3'
  have hj : j' = j := nameT_inj (q := 112) (by rw [← h3'.1, ← h3.1]; exact he)
  have hp := labs_sorted 112 (targetB l) l 0 0
  rw [← h, List.pairwise_iff_getElem] at hp
  have hl : (bare ls).length = ls.length := by simp [bare]
  have := hp t i (by omega) (by omega) ht
  simp only [bare, List.getElem_map] at this
  rw [List.getD_eq_getElem?_getD, List.getElem?_eq_getElem (show t < ls.length by omega), Option.getD_some] at h3'
  rw [List.getD_eq_getElem?_getD, List.getElem?_eq_getElem hi, Option.getD_some] at h3
  omega
theorem errType_keep {w w' : World} (h : ErrType w) (hb : Below w.heap.size w w') : ErrType w' := errType_only (Only.of_below hb) (F := []) (by simp) h
set_option maxHeartbeats 4000000 in
set_option maxRecDepth 100000 in
theorem asmBack_walk (w : World) (A : Option Addr) (cap : Nat) (l : List Inst) (hr : l.length * 56 ≤ 140737488355328) (hI : InsIn w A l) (hO : ∀ i, i < l.length → InsOk (l.getD i inst0)) (hE : ErrType w) (N : NamesAt w) (T : Pow10 w) :
    Calls Tryz.prog 4 #[.slice A l.length cap] w fun e w' => e = .returned (.bool true) ∧ Below w.heap.size w w' := by
  have NG : 0 < w.heap.size := World.block_lt_of_cell? _ _ (N 0 _ rfl)
  have AW := Lib.hid (show ∀ W, Below w.heap.size w W → Calls Tryz.prog 11 #[] W fun e w' => e = .returned (.bool true) ∧ Below w.heap.size w w' from fun W hW =>
    (awake_any W (names_below N hW) (Nat.lt_of_lt_of_le NG hW.size)).mono fun e w' ⟨h1, h2⟩ => ⟨h1, hW.trans (h2.mono hW.size)⟩)
  have CC := Lib.hid (copyCode_any A cap l w hI hr)
  have PR := Lib.hid (fun B c W (hW : Below w.heap.size w W) (hB : InsIn W B l) => asmPrint_any B c l W (by omega) hB hO (errType_keep hE hW) (names_below N hW) (pow10_below hW T))
  have PA := Lib.hid (fun s (hs : s.size ≤ 9223372036854775807) W (hW : Below w.heap.size w W) => asmParse_any s hs W (names_below N hW) (Nat.lt_of_lt_of_le NG hW.size))
  have PP := Lib.hid (fun h1 h2 h3 => print_parse l h1 h2 h3)
  have CS := Lib.hid (fun A2 cap2 W (hW : Below w.heap.size w W) (h2 : InsIn W A2 l) => code_same A A2 cap cap2 l W (by omega) (hI.below hW) h2)
  obtain ⟨n, hn⟩ : ∃ n, n = l.length := ⟨_, rfl⟩
  have HN := Lib.hid hn
  rw [← hn] at CC PR CS ⊢
  clear hr hI hO hE N T NG hn
  go_enter Tryz.func4, Tryz.ntmps4
  go_wp2_with fail
  go_at_call 6
  refine CC.out.mono ?_
  rintro e w1 ⟨B, c, rfl, hB, hb1, _⟩
  have P1 := Lib.hid (PR.out B c w1 hb1 hB)
  have HB1 := Lib.hid hb1
  clear hB hb1 CC PR
  go_wp2_with fail
  go_at_call 7
  refine P1.out.mono ?_
  rintro e w2 ⟨hb2, ⟨t, v, rfl⟩ | ⟨rfl, h1, h2⟩⟩
  · have HB2 := Lib.hid (HB1.out.trans (hb2.mono HB1.out.size))
    clear hb2 P1 PA PP CS
    go_wp2_with fail
    go_at_call 11
    refine (AW.out _ HB2.out).mono ?_
    rintro e w' ⟨rfl, hb⟩
    have HBE := Lib.hid hb
    clear hb
    go_wp2_with fail
    go_ret
    exact ⟨rfl, HBE.out⟩
  · have HB2 := Lib.hid (HB1.out.trans (hb2.mono HB1.out.size))
    have sz : (bytesA (printT l)).size = (printT l).length := bytesA_size _
    have ls : (bytesA (printT l)).data.toList = printT l := by simp
    have H12 := Lib.hid (And.intro h1 h2)
    obtain ⟨s, hs⟩ : ∃ s, s = bytesA (printT l) := ⟨_, rfl⟩
    have HS := Lib.hid hs
    rw [← hs] at sz ls ⊢
    clear hb2 P1 h1 h2 hs
    by_cases hbig : 65536 < s.size
    · have i1 : (65536 : Int) < (s.size : Int) := by omega
      clear hbig sz ls PA PP CS
      go_wp2_with fail
      go_at_call 11
      refine (AW.out _ HB2.out).mono ?_
      rintro e w' ⟨rfl, hb⟩
      have HBE := Lib.hid hb
      clear hb
      go_wp2_with fail
      go_ret
      exact ⟨rfl, HBE.out⟩
    · have i1 : ¬ (65536 : Int) < (s.size : Int) := by omega
      obtain ⟨lb, hp, hbare⟩ := PP.out H12.out.2 H12.out.1 (by omega)
      have P3 := PA.out s (by omega) w2 HB2.out
      rw [ls, hp] at P3
      have P3b := Lib.hid (P3.mono fun e w' h => parOut_ok h)
      have HLB := Lib.hid hbare
      rw [← HN.out] at P3b
      obtain ⟨nL, hnL⟩ : ∃ k, k = lb.length := ⟨_, rfl⟩
      have HNL := Lib.hid hnL
      rw [← hnL] at P3b
      clear P3 hp hbare hbig sz ls PA PP hnL H12
      go_wp2_with fail
      go_at_call 12
      refine P3b.out.mono ?_
      rintro e w3 ⟨⟨A2, cap2, B2, capB2, rfl, I2, J2, hlen⟩, hb3⟩
      have HB3 := Lib.hid (HB2.out.trans (hb3.mono HB2.out.size))
      have CS2 := Lib.hid (CS.out A2 cap2 w3 HB3.out I2)
      have HJ2 := Lib.hid J2
      clear hb3 I2 J2 P3b CS
      go_wp2_with fail
      go_at_call 10
      refine CS2.out.mono ?_
      rintro e w4 ⟨rfl, hb4⟩
      have HB4 := Lib.hid (HB3.out.trans (hb4.mono HB3.out.size))
      have HJ4 := Lib.hid (HJ2.out.below hb4)
      clear hb4 CS2 HJ2
      go_wp2_with fail
      go_loopw [7] (fun vi wr => ∃ i : Nat, i ≤ nL ∧ vi = .int .i64 i ∧ Hid (Below w4.heap.size w4 wr)) (fun vi _ => nL - (intOf vi).toNat)
      case atStart => exact ⟨0, by omega, rfl, Lib.hid (Below.refl _ _)⟩
      case round =>
        obtain ⟨i, hi, rfl, HBJ⟩ := hrel
        by_cases hlt : i < nL
        · have hil : i < lb.length := by rw [← HNL.out]; exact hlt
          obtain ⟨o1, o2⟩ := labs_own HLB.out i hil
          have FO := findOwn_any B2 capB2 lb i (lb.getD i ([], 0, 0)).1 wr hil (by rw [← HNL.out]; exact hlen) (HJ4.out.below HBJ.out) rfl o2
          rw [← HNL.out] at FO
          have HFO := Lib.hid FO
          have HJW := Lib.hid (fun W (hW : Below wr.heap.size wr W) => ((HJ4.out.below HBJ.out).below hW) i hil)
          obtain ⟨g1, rfl, hg1, c0, c1⟩ := (HJ4.out.below HBJ.out) i hil
          have z0 : (0 : Int) ≤ ((lb.getD i ([], 0, 0)).2.1 : Int) := by omega
          have z1 : ((lb.getD i ([], 0, 0)).2.1 : Int) < (n : Int) := by rw [HN.out]; omega
          generalize bytesA (lb.getD i ([], 0, 0)).1 = nm at HFO HJW c0
          generalize ((lb.getD i ([], 0, 0)).2.1 : Int) = z at HFO HJW c1 z0 z1
          clear FO o1 o2 hil
          go_wp2_with fail
          go_at_call 13
          refine HFO.out.mono ?_
          rintro e w5 ⟨rfl, hb5⟩
          obtain ⟨g2, hg2, _, d0, d1⟩ := HJW.out w5 hb5
          cases hg2
          have HB5 := Lib.hid (HBJ.out.trans (hb5.mono HBJ.out.size))
          have y0 : ¬ (z < 0) := by omega
          have y1 : ¬ ((n : Int) ≤ z) := by omega
          clear hb5 HFO HJW c0 c1
          go_wp2_with fail
          go_roundw
          case rel => exact ⟨i + 1, by omega, by go_num, HB5⟩
          case measure => simp [intOf]; omega
        · have HBF := Lib.hid (HB4.out.trans (HBJ.out.mono HB4.out.size))
          go_wp2_with fail
          go_at_call 11
          refine (AW.out _ HBF.out).mono ?_
          rintro e w' ⟨rfl, hb⟩
          have HBE := Lib.hid hb
          clear hb
          go_wp2_with fail
          go_ret
          exact ⟨rfl, HBE.out⟩
end Go.Proofs.YtneajiglkiffjaaGreatDoor
