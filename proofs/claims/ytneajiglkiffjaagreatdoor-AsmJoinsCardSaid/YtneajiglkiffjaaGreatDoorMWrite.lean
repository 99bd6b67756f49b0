/- Contracts of package asm's small texts and of lineOf (layer 5). The conditions: the instruction may be in a code; the tables of names and of the powers of ten lie there. -/
import Derived.Test.YtneajiglkiffjaaGreatDoorPrint
import Derived.Test.YtneajiglkiffjaaGreatDoorAsmReg
import Derived.Test.YtneajiglkiffjaaGreatDoorMSay
import Derived.Deep.CutRange
import Derived.Deep.DeepCutAuto
import Derived.Deep.CutBlock
import Derived.Deep.Light
import Derived.Deep.RegionHeld3
import Derived.BigQuiet
import Derived.Test.YtneajiglkiffjaaGreatDoorAsmOp
import Derived.Test.YtneajiglkiffjaaGreatDoorOpsOf
namespace Go.Proofs.YtneajiglkiffjaaGreatDoor
open Go.RowKit
set_option linter.unusedVariables false

theorem pow10_below {w w' : World} (hb : Below w.heap.size w w') (h : Pow10 w) : Pow10 w' := by
  have hn : Tryz.prog.globalNamed "internal/strconv.uint64pow10" = some 3 := by kernel_rfl
  have hlt : 3 < w.heap.size := by
    rcases Nat.lt_or_ge 3 w.heap.size with g | g
    · exact g
    · unfold Pow10 Lib.TabIs World.var? at h
      simp [hn, Array.getElem?_eq_none g] at h
  exact var?_below hb hn hlt h
/-- A text is returned. -/
def Says (l : List UInt8) (w : World) (e : Ending) (w' : World) : Prop := e = .returned (.string (bytesA l)) ∧ Below w.heap.size w w'
theorem dec_size (v : Int) (h : v < 18446744073709551616) : (bytesA (decT v)).size ≤ 20 := by
  rw [bytesA_size]; exact dec_len v.toNat 20 (by omega) (by omega)
theorem print_dec (v : Int) (h0 : 0 ≤ v) (h1 : v < 18446744073709551616) (w : World) (T : Pow10 w) : Calls Tryz.prog 38 #[.int .u64 v] w (Says (decT v) w) := by
  obtain ⟨u, rfl⟩ : ∃ u : Nat, v = u := ⟨v.toNat, by omega⟩
  exact print_any u (by omega) w T
theorem bytes_cons (c : UInt8) (l : List UInt8) : (⟨#[c]⟩ : ByteArray) ++ bytesA l = bytesA (c :: l) := by
  apply ByteArray.ext; simp [ByteArray.data_append]
theorem bytes_app (a b : List UInt8) : bytesA a ++ bytesA b = bytesA (a ++ b) := by
  apply ByteArray.ext; simp [ByteArray.data_append]
set_option maxHeartbeats 1000000 in
theorem regText_any (r : Int) (h : regB r = true) (w : World) (T : Pow10 w) : Calls Tryz.prog 62 #[.int .i64 r] w (Says (regT r) w) := by
  simp only [regB, Bool.and_eq_true, decide_eq_true_eq] at h
  have PR := Lib.hid (print_dec r (by omega) (by omega) w T)
  obtain ⟨d, hd⟩ : ∃ d, d = bytesA (decT r) := ⟨_, rfl⟩
  have hs : d.size ≤ 20 := by rw [hd]; exact dec_size r (by omega)
  have FIN := Lib.hid (show (⟨#[114]⟩ : ByteArray) ++ d = bytesA (regT r) from by rw [hd, bytes_cons]; rfl)
  unfold Says at PR ⊢
  rw [← hd] at PR
  have q : ¬ 9223372036854775807 < 1 + d.size := by omega
  have e1 : IntKind.u64.wrap r = r := by simp [IntKind.wrap, IntKind.signed, IntKind.bits]; omega
  clear hd T hs
  go_enter Tryz.func62, Tryz.ntmps62
  go_wp2_with fail
  go_at_call 38
  refine PR.out.mono ?_
  rintro e w' ⟨rfl, hb⟩
  have HB := Lib.hid hb
  clear hb
  go_wp2_with fail
  go_ret
  exact ⟨by rw [← FIN.out]; rfl, HB.out⟩
set_option maxHeartbeats 1000000 in
theorem nameOf_any (v : Int) (h0 : 0 ≤ v) (h1 : v < 18446744073709551616) (w : World) (T : Pow10 w) : Calls Tryz.prog 19 #[.int .u64 v] w (Says (nameT 112 v) w) := by
  have PR := Lib.hid (print_dec v h0 h1 w T)
  obtain ⟨d, hd⟩ : ∃ d, d = bytesA (decT v) := ⟨_, rfl⟩
  have hs : d.size ≤ 20 := by rw [hd]; exact dec_size v h1
  have FIN := Lib.hid (show (⟨#[112]⟩ : ByteArray) ++ d = bytesA (nameT 112 v) from by rw [hd, bytes_cons]; rfl)
  unfold Says at PR ⊢
  rw [← hd] at PR
  have q : ¬ 9223372036854775807 < 1 + d.size := by omega
  clear hd T hs
  go_enter Tryz.func19, Tryz.ntmps19
  go_wp2_with fail
  go_at_call 38
  refine PR.out.mono ?_
  rintro e w' ⟨rfl, hb⟩
  have HB := Lib.hid hb
  clear hb
  go_wp2_with fail
  go_ret
  exact ⟨by rw [← FIN.out]; rfl, HB.out⟩
/-- What the cell of an instruction may be. -/
theorem boxed (w : World) (x : Inst) : Below w.heap.size w (w.alloc (.cells x.cs.toArray 44)) := (Below.refl _ _).alloc (Nat.le_refl _) _
set_option maxHeartbeats 2000000 in
theorem cellText_any (op a b c v m wh : Int) (hb : regB b = true ∨ b = -1) (h0 : 0 ≤ v) (h1 : v < 18446744073709551616) (w : World) (T : Pow10 w) : Calls Tryz.prog 63 #[.agg #[.int .i64 op, .int .i64 a, .int .i64 b, .int .i64 c, .int .u64 v, .int .i64 m, .int .i64 wh]] w (Says (cellT ⟨op, a, b, c, v, m, wh⟩) w) := by
  have CT : cellT ⟨op, a, b, c, v, m, wh⟩ = if b = -1 then 91 :: decT v ++ [93] else if v = 0 then 91 :: regT b ++ [93] else 91 :: (regT b ++ 43 :: decT v) ++ [93] := rfl
  rw [CT]
  obtain ⟨w0, hw0⟩ : ∃ W, W = w.alloc (.cells #[.int .i64 op, .int .i64 a, .int .i64 b, .int .i64 c, .int .u64 v, .int .i64 m, .int .i64 wh] 44) := ⟨_, rfl⟩
  have B0 : Below w.heap.size w w0 := by rw [hw0]; exact (Below.refl _ _).alloc (Nat.le_refl _) _
  have k2 : w0.cell? ⟨w.heap.size, 2, none⟩ = some (.int .i64 b) := by rw [hw0, World.cell?_alloc_at _ _ _ _ rfl]; rfl
  have k4 : w0.cell? ⟨w.heap.size, 4, none⟩ = some (.int .u64 v) := by rw [hw0, World.cell?_alloc_at _ _ _ _ rfl]; rfl
  have X0 : w.heap.size < w0.heap.size := by rw [hw0]; simp
  have T0 := pow10_below B0 T
  obtain ⟨d, hd⟩ : ∃ d, d = bytesA (decT v) := ⟨_, rfl⟩
  have hs : d.size ≤ 20 := by rw [hd]; exact dec_size v h1
  have PT := Lib.hid (show ∀ W, Below w0.heap.size w0 W → Calls Tryz.prog 38 #[.int .u64 v] W fun e w' => e = .returned (.string d) ∧ Below w0.heap.size w0 w' ∧ w'.cell? ⟨w.heap.size, 2, none⟩ = some (.int .i64 b) ∧ w'.cell? ⟨w.heap.size, 4, none⟩ = some (.int .u64 v) from fun W hW => by
    refine (print_dec v h0 h1 W (pow10_below hW T0)).mono fun e w' ⟨e1, e2⟩ => ?_
    have hb2 := hW.trans (e2.mono hW.size)
    exact ⟨by rw [e1, hd], hb2, by rw [hb2.cell (p := ⟨w.heap.size, 2, none⟩) X0]; exact k2, by rw [hb2.cell (p := ⟨w.heap.size, 4, none⟩) X0]; exact k4⟩)
  have B1 : Below w0.heap.size w0 w0 := Below.refl _ _
  have q91 : ¬ 9223372036854775807 < 1 + d.size := by omega
  have q92 : ¬ 9223372036854775807 < 1 + d.size + 1 := by omega
  by_cases hn : b = -1
  · subst hn
    have FIN := Lib.hid (show (⟨#[91]⟩ : ByteArray) ++ d ++ (⟨#[93]⟩ : ByteArray) = bytesA (91 :: decT v ++ [93]) from by
      rw [hd, bytes_cons]; exact bytes_app _ [93])
    rw [if_pos rfl]
    unfold Says
    generalize bytesA (91 :: decT v ++ [93]) = TX at FIN ⊢
    have PTW := Lib.hid (PT.out w0 B1)
    rw [hw0] at PTW
    have HB0 := Lib.hid B0
    rw [hw0] at HB0
    clear PT k2 k4 hd hs X0 T0 T B0 B1 hw0 CT hb
    go_enter Tryz.func63, Tryz.ntmps63
    go_wp2_with fail
    go_at_call 38
    refine PTW.out.mono ?_
    rintro e w' ⟨rfl, hb, _, _⟩
    have HB := Lib.hid (HB0.out.trans (hb.mono HB0.out.size))
    clear hb
    go_wp2_with fail
    go_ret
    exact ⟨by rw [← FIN.out]; rfl, HB.out⟩
  · have hr := hb.resolve_right hn
    rw [if_neg hn]
    obtain ⟨g, hg⟩ : ∃ g, g = bytesA (regT b) := ⟨_, rfl⟩
    have hgs : g.size ≤ 21 := by
      have := hr
      simp only [regB, Bool.and_eq_true, decide_eq_true_eq] at this
      rw [hg, bytesA_size, regT, List.length_cons]
      have := dec_len b.toNat 20 (by omega) (by omega)
      unfold decT; omega
    have RT := Lib.hid (show ∀ W, Below w0.heap.size w0 W → Calls Tryz.prog 62 #[.int .i64 b] W fun e w' => e = .returned (.string g) ∧ Below w0.heap.size w0 w' ∧ w'.cell? ⟨w.heap.size, 2, none⟩ = some (.int .i64 b) ∧ w'.cell? ⟨w.heap.size, 4, none⟩ = some (.int .u64 v) from fun W hW => by
      refine (regText_any b hr W (pow10_below hW T0)).mono fun e w' ⟨e1, e2⟩ => ?_
      have hb2 := hW.trans (e2.mono hW.size)
      exact ⟨by rw [e1, hg], hb2, by rw [hb2.cell (p := ⟨w.heap.size, 2, none⟩) X0]; exact k2, by rw [hb2.cell (p := ⟨w.heap.size, 4, none⟩) X0]; exact k4⟩)
    have r1 : ¬ 9223372036854775807 < 1 + g.size := by omega
    have r2 : ¬ 9223372036854775807 < 1 + g.size + 1 := by omega
    have r3 : ¬ 9223372036854775807 < 1 + g.size + 1 + d.size := by omega
    have r4 : ¬ 9223372036854775807 < 1 + g.size + 1 + d.size + 1 := by omega
    have hn2 : (b == -1) = false := beq_eq_false_iff_ne.2 hn
    by_cases hv : v = 0
    · subst hv
      rw [if_pos rfl]
      have FIN := Lib.hid (show (⟨#[91]⟩ : ByteArray) ++ g ++ (⟨#[93]⟩ : ByteArray) = bytesA (91 :: regT b ++ [93]) from by
        rw [hg, bytes_cons]; exact bytes_app _ [93])
      unfold Says
      generalize bytesA (91 :: regT b ++ [93]) = TX at FIN ⊢
      have RTW := Lib.hid (RT.out w0 B1)
      rw [hw0] at RTW
      have HB0 := Lib.hid B0
      rw [hw0] at HB0
      clear PT RT k2 k4 hd hs X0 T0 T B0 B1 hw0 CT hb hr hg hgs q91 q92 hn
      go_enter Tryz.func63, Tryz.ntmps63
      go_wp2_with fail
      go_at_call 62
      refine RTW.out.mono ?_
      rintro e w' ⟨rfl, hb, _, _⟩
      have HB := Lib.hid (HB0.out.trans (hb.mono HB0.out.size))
      clear hb
      go_wp2_with fail
      go_ret
      exact ⟨by rw [← FIN.out]; rfl, HB.out⟩
    · have hv2 : (v == 0) = false := beq_eq_false_iff_ne.2 hv
      rw [if_neg hv]
      have FIN := Lib.hid (show (⟨#[91]⟩ : ByteArray) ++ g ++ (⟨#[43]⟩ : ByteArray) ++ d ++ (⟨#[93]⟩ : ByteArray) = bytesA (91 :: (regT b ++ 43 :: decT v) ++ [93]) from by
        rw [hg, hd, bytes_cons, show (⟨#[43]⟩ : ByteArray) = bytesA [43] from rfl, show (⟨#[93]⟩ : ByteArray) = bytesA [93] from rfl, bytes_app, bytes_app, bytes_app]; simp)
      unfold Says
      generalize bytesA (91 :: (regT b ++ 43 :: decT v) ++ [93]) = TX at FIN ⊢
      obtain ⟨X, hX⟩ : ∃ X, X = w.heap.size := ⟨_, rfl⟩
      have HB0 := Lib.hid B0
      have BD : Below w0.heap.size w0 w0.drew := B1.drew
      rw [← hX] at k2 k4 PT RT
      have k2 : w0.drew.cell? ⟨X, 2, none⟩ = some (.int .i64 b) := k2
      have k4 : w0.drew.cell? ⟨X, 4, none⟩ = some (.int .u64 v) := k4
      clear hd hs X0 T0 T B0 B1 CT hb hr hg hgs q91 q92 hn hv
      go_enter Tryz.func63, Tryz.ntmps63
      go_upto_region 5 with fail
      rw [← hw0, ← hX]
      clear hw0 hX
      go_region_held3 (fun w' => w'.cell? ⟨X, 2, none⟩ = some (.int .i64 b) ∧ w'.cell? ⟨X, 4, none⟩ = some (.int .u64 v)) (go_keep)
        (first
          | (go_at_call 62; ((with_reducible refine (RT.out _ (by first | exact BD | exact B2)).mono ?_); rintro e w1 ⟨rfl, B2, k2, k4⟩))
          | (go_at_call 38; ((with_reducible refine (PT.out _ (by first | exact BD | exact B2)).mono ?_); rintro e w1 ⟨rfl, B2, k2, k4⟩)))
      all_goals
        have HB := Lib.hid (HB0.out.trans (B2.mono HB0.out.size))
        clear B2 k2 k4
        go_wp2_with fail
        go_ret
        exact ⟨by rw [← FIN.out]; rfl, HB.out⟩
set_option maxHeartbeats 2000000 in
theorem markText_any (op a b c v m wh : Int) (hm : 0 ≤ m ∧ m ≤ 99) (hw : 0 ≤ wh ∧ wh ≤ 2) (w : World) (T : Pow10 w) : Calls Tryz.prog 40 #[.agg #[.int .i64 op, .int .i64 a, .int .i64 b, .int .i64 c, .int .u64 v, .int .i64 m, .int .i64 wh]] w (Says (markT ⟨op, a, b, c, v, m, wh⟩) w) := by
  have CT : markT ⟨op, a, b, c, v, m, wh⟩ = 33 :: decT m ++ whenT wh := rfl
  rw [CT]
  have HB0 := Lib.hid (show Below w.heap.size w (w.alloc (.cells #[.int .i64 op, .int .i64 a, .int .i64 b, .int .i64 c, .int .u64 v, .int .i64 m, .int .i64 wh] 44)) from (Below.refl _ _).alloc (Nat.le_refl _) _)
  have PT := Lib.hid (print_dec m (by omega) (by omega) _ (pow10_below HB0.out T))
  obtain ⟨d, hd⟩ : ∃ d, d = bytesA (decT m) := ⟨_, rfl⟩
  have hs : d.size ≤ 20 := by rw [hd]; exact dec_size m (by omega)
  unfold Says at PT ⊢
  rw [← hd] at PT
  have FIN := Lib.hid (show (⟨#[33]⟩ : ByteArray) ++ d = bytesA (33 :: decT m) from by rw [hd, bytes_cons])
  have q1 : ¬ 9223372036854775807 < 1 + d.size := by omega
  have q2 : ¬ 9223372036854775807 < 1 + d.size + 2 := by omega
  have e1 : IntKind.u64.wrap m = m := by simp [IntKind.wrap, IntKind.signed, IntKind.bits]; omega
  have hw' : wh = 0 ∨ wh = 1 ∨ wh = 2 := by omega
  clear hd T hs CT hm hw
  rcases hw' with rfl | rfl | rfl
  · have FIN2 := Lib.hid (show (⟨#[33]⟩ : ByteArray) ++ d = bytesA (33 :: decT m ++ whenT 0) from by rw [FIN.out]; simp [whenT])
    generalize bytesA (33 :: decT m ++ whenT 0) = TX at FIN2 ⊢
    go_enter Tryz.func40, Tryz.ntmps40
    go_wp2_with fail
    go_at_call 38
    refine PT.out.mono ?_
    rintro e w' ⟨rfl, hb⟩
    have HB := Lib.hid (HB0.out.trans (hb.mono HB0.out.size))
    have c6 : w'.cell? ⟨w.heap.size, 6, none⟩ = some (.int .i64 0) := by rw [hb.cell (p := ⟨w.heap.size, 6, none⟩) (by simp), World.cell?_alloc_at _ _ _ _ rfl]; rfl
    clear hb
    go_wp2_with fail
    go_ret
    exact ⟨by rw [← FIN2.out]; rfl, HB.out⟩
  · have FIN2 := Lib.hid (show (⟨#[33]⟩ : ByteArray) ++ d ++ (⟨#[61, 48]⟩ : ByteArray) = bytesA (33 :: decT m ++ whenT 1) from by rw [FIN.out]; exact bytes_app _ [61, 48])
    generalize bytesA (33 :: decT m ++ whenT 1) = TX at FIN2 ⊢
    go_enter Tryz.func40, Tryz.ntmps40
    go_wp2_with fail
    go_at_call 38
    refine PT.out.mono ?_
    rintro e w' ⟨rfl, hb⟩
    have HB := Lib.hid (HB0.out.trans (hb.mono HB0.out.size))
    have c6 : w'.cell? ⟨w.heap.size, 6, none⟩ = some (.int .i64 1) := by rw [hb.cell (p := ⟨w.heap.size, 6, none⟩) (by simp), World.cell?_alloc_at _ _ _ _ rfl]; rfl
    clear hb
    go_wp2_with fail
    go_ret
    exact ⟨by rw [← FIN2.out]; rfl, HB.out⟩
  · have FIN2 := Lib.hid (show (⟨#[33]⟩ : ByteArray) ++ d ++ (⟨#[62, 48]⟩ : ByteArray) = bytesA (33 :: decT m ++ whenT 2) from by rw [FIN.out]; exact bytes_app _ [62, 48])
    generalize bytesA (33 :: decT m ++ whenT 2) = TX at FIN2 ⊢
    go_enter Tryz.func40, Tryz.ntmps40
    go_wp2_with fail
    go_at_call 38
    refine PT.out.mono ?_
    rintro e w' ⟨rfl, hb⟩
    have HB := Lib.hid (HB0.out.trans (hb.mono HB0.out.size))
    have c6 : w'.cell? ⟨w.heap.size, 6, none⟩ = some (.int .i64 2) := by rw [hb.cell (p := ⟨w.heap.size, 6, none⟩) (by simp), World.cell?_alloc_at _ _ _ _ rfl]; rfl
    clear hb
    go_wp2_with fail
    go_ret
    exact ⟨by rw [← FIN2.out]; rfl, HB.out⟩
end Go.Proofs.YtneajiglkiffjaaGreatDoor

namespace Go.Proofs.YtneajiglkiffjaaGreatDoor
open Go.RowKit
set_option linter.unusedVariables false

theorem opd_len (q : UInt8) (x : Inst) (k : Nat) (h : okF x k) (h0 : 0 ≤ x.v) (h1 : x.v < 18446744073709551616) : (operandT q x k).length ≤ 30 := by
  have hv : (decT x.v).length ≤ 20 := dec_len x.v.toNat 20 (by omega) (by omega)
  have hr : ∀ r, regB r = true → (regT r).length ≤ 3 := fun r hr => by
    simp only [regB, Bool.and_eq_true, decide_eq_true_eq] at hr
    rw [regT, List.length_cons]
    have := dec_len r.toNat 2 (by omega) (by omega)
    unfold decT; omega
  obtain ⟨k0, k1, k2, k3, k4, k5, k6⟩ := h
  unfold operandT
  split
  · have := hr _ (k0 (by assumption)); omega
  split
  · have := hr _ (k1 (by assumption)); omega
  split
  · have := hr _ (k2 (by assumption)); omega
  split
  · rename_i e
    rcases k3 e with g | g
    · have := hr _ g; split <;> omega
    · rw [if_pos g]; omega
  split
  · rename_i e
    rcases k4 e with g | g
    · have := hr _ g; split <;> omega
    · rw [if_pos g]; omega
  split
  · rename_i e
    unfold cellT
    split
    · simp; omega
    · rename_i hn
      have := hr _ ((k5 e).resolve_right hn)
      split
      · simp; omega
      · simp; omega
  split
  · simp [nameT]; omega
  · omega
set_option maxHeartbeats 1000000 in
theorem opdText_a (op a b c v m wh : Int) (h : regB a = true) (h0 : 0 ≤ v) (h1 : v < 18446744073709551616) (w : World) (T : Pow10 w) : Calls Tryz.prog 39 #[.agg #[.int .i64 op, .int .i64 a, .int .i64 b, .int .i64 c, .int .u64 v, .int .i64 m, .int .i64 wh], .int .i64 0] w (Says (regT a) w) := by
  have HB0 := Lib.hid (show Below w.heap.size w (w.alloc (.cells #[.int .i64 op, .int .i64 a, .int .i64 b, .int .i64 c, .int .u64 v, .int .i64 m, .int .i64 wh] 44)) from (Below.refl _ _).alloc (Nat.le_refl _) _)
  have C := Lib.hid (regText_any a h _ (pow10_below HB0.out T))
  unfold Says at C ⊢
  generalize bytesA (regT a) = TX at C ⊢
  clear T
  go_enter Tryz.func39, Tryz.ntmps39
  go_wp2_with fail
  go_at_call 62
  refine C.out.mono ?_
  rintro e w' ⟨rfl, hb⟩
  have HB := Lib.hid (HB0.out.trans (hb.mono HB0.out.size))
  clear hb
  go_wp2_with fail
  go_ret
  exact ⟨rfl, HB.out⟩
set_option maxHeartbeats 1000000 in
theorem opdText_b (op a b c v m wh : Int) (h : regB b = true) (h0 : 0 ≤ v) (h1 : v < 18446744073709551616) (w : World) (T : Pow10 w) : Calls Tryz.prog 39 #[.agg #[.int .i64 op, .int .i64 a, .int .i64 b, .int .i64 c, .int .u64 v, .int .i64 m, .int .i64 wh], .int .i64 1] w (Says (regT b) w) := by
  have HB0 := Lib.hid (show Below w.heap.size w (w.alloc (.cells #[.int .i64 op, .int .i64 a, .int .i64 b, .int .i64 c, .int .u64 v, .int .i64 m, .int .i64 wh] 44)) from (Below.refl _ _).alloc (Nat.le_refl _) _)
  have C := Lib.hid (regText_any b h _ (pow10_below HB0.out T))
  unfold Says at C ⊢
  generalize bytesA (regT b) = TX at C ⊢
  clear T
  go_enter Tryz.func39, Tryz.ntmps39
  go_wp2_with fail
  go_at_call 62
  refine C.out.mono ?_
  rintro e w' ⟨rfl, hb⟩
  have HB := Lib.hid (HB0.out.trans (hb.mono HB0.out.size))
  clear hb
  go_wp2_with fail
  go_ret
  exact ⟨rfl, HB.out⟩
set_option maxHeartbeats 1000000 in
theorem opdText_c (op a b c v m wh : Int) (h : regB c = true) (h0 : 0 ≤ v) (h1 : v < 18446744073709551616) (w : World) (T : Pow10 w) : Calls Tryz.prog 39 #[.agg #[.int .i64 op, .int .i64 a, .int .i64 b, .int .i64 c, .int .u64 v, .int .i64 m, .int .i64 wh], .int .i64 2] w (Says (regT c) w) := by
  have HB0 := Lib.hid (show Below w.heap.size w (w.alloc (.cells #[.int .i64 op, .int .i64 a, .int .i64 b, .int .i64 c, .int .u64 v, .int .i64 m, .int .i64 wh] 44)) from (Below.refl _ _).alloc (Nat.le_refl _) _)
  have C := Lib.hid (regText_any c h _ (pow10_below HB0.out T))
  unfold Says at C ⊢
  generalize bytesA (regT c) = TX at C ⊢
  clear T
  go_enter Tryz.func39, Tryz.ntmps39
  go_wp2_with fail
  go_at_call 62
  refine C.out.mono ?_
  rintro e w' ⟨rfl, hb⟩
  have HB := Lib.hid (HB0.out.trans (hb.mono HB0.out.size))
  clear hb
  go_wp2_with fail
  go_ret
  exact ⟨rfl, HB.out⟩
set_option maxHeartbeats 1000000 in
theorem opdText_bn (op a b c v m wh : Int) (h : b = -1) (h0 : 0 ≤ v) (h1 : v < 18446744073709551616) (w : World) (T : Pow10 w) : Calls Tryz.prog 39 #[.agg #[.int .i64 op, .int .i64 a, .int .i64 b, .int .i64 c, .int .u64 v, .int .i64 m, .int .i64 wh], .int .i64 3] w (Says (decT v) w) := by
  have HB0 := Lib.hid (show Below w.heap.size w (w.alloc (.cells #[.int .i64 op, .int .i64 a, .int .i64 b, .int .i64 c, .int .u64 v, .int .i64 m, .int .i64 wh] 44)) from (Below.refl _ _).alloc (Nat.le_refl _) _)
  have C := Lib.hid (print_dec v h0 h1 _ (pow10_below HB0.out T))
  subst h
  unfold Says at C ⊢
  generalize bytesA (decT v) = TX at C ⊢
  clear T
  go_enter Tryz.func39, Tryz.ntmps39
  go_wp2_with fail
  go_at_call 38
  refine C.out.mono ?_
  rintro e w' ⟨rfl, hb⟩
  have HB := Lib.hid (HB0.out.trans (hb.mono HB0.out.size))
  clear hb
  go_wp2_with fail
  go_ret
  exact ⟨rfl, HB.out⟩
set_option maxHeartbeats 1000000 in
theorem opdText_bb (op a b c v m wh : Int) (hn : ¬ b = -1) (h : regB b = true) (h0 : 0 ≤ v) (h1 : v < 18446744073709551616) (w : World) (T : Pow10 w) : Calls Tryz.prog 39 #[.agg #[.int .i64 op, .int .i64 a, .int .i64 b, .int .i64 c, .int .u64 v, .int .i64 m, .int .i64 wh], .int .i64 3] w (Says (regT b) w) := by
  have HB0 := Lib.hid (show Below w.heap.size w (w.alloc (.cells #[.int .i64 op, .int .i64 a, .int .i64 b, .int .i64 c, .int .u64 v, .int .i64 m, .int .i64 wh] 44)) from (Below.refl _ _).alloc (Nat.le_refl _) _)
  have C := Lib.hid (regText_any b h _ (pow10_below HB0.out T))
  have hn2 : (b == -1) = false := beq_eq_false_iff_ne.2 hn
  clear hn h
  unfold Says at C ⊢
  generalize bytesA (regT b) = TX at C ⊢
  clear T
  go_enter Tryz.func39, Tryz.ntmps39
  go_wp2_with fail
  go_at_call 62
  refine C.out.mono ?_
  rintro e w' ⟨rfl, hb⟩
  have HB := Lib.hid (HB0.out.trans (hb.mono HB0.out.size))
  clear hb
  go_wp2_with fail
  go_ret
  exact ⟨rfl, HB.out⟩
set_option maxHeartbeats 1000000 in
theorem opdText_cn (op a b c v m wh : Int) (h : c = -1) (h0 : 0 ≤ v) (h1 : v < 18446744073709551616) (w : World) (T : Pow10 w) : Calls Tryz.prog 39 #[.agg #[.int .i64 op, .int .i64 a, .int .i64 b, .int .i64 c, .int .u64 v, .int .i64 m, .int .i64 wh], .int .i64 4] w (Says (decT v) w) := by
  have HB0 := Lib.hid (show Below w.heap.size w (w.alloc (.cells #[.int .i64 op, .int .i64 a, .int .i64 b, .int .i64 c, .int .u64 v, .int .i64 m, .int .i64 wh] 44)) from (Below.refl _ _).alloc (Nat.le_refl _) _)
  have C := Lib.hid (print_dec v h0 h1 _ (pow10_below HB0.out T))
  subst h
  unfold Says at C ⊢
  generalize bytesA (decT v) = TX at C ⊢
  clear T
  go_enter Tryz.func39, Tryz.ntmps39
  go_wp2_with fail
  go_at_call 38
  refine C.out.mono ?_
  rintro e w' ⟨rfl, hb⟩
  have HB := Lib.hid (HB0.out.trans (hb.mono HB0.out.size))
  clear hb
  go_wp2_with fail
  go_ret
  exact ⟨rfl, HB.out⟩
set_option maxHeartbeats 1000000 in
theorem opdText_cc (op a b c v m wh : Int) (hn : ¬ c = -1) (h : regB c = true) (h0 : 0 ≤ v) (h1 : v < 18446744073709551616) (w : World) (T : Pow10 w) : Calls Tryz.prog 39 #[.agg #[.int .i64 op, .int .i64 a, .int .i64 b, .int .i64 c, .int .u64 v, .int .i64 m, .int .i64 wh], .int .i64 4] w (Says (regT c) w) := by
  have HB0 := Lib.hid (show Below w.heap.size w (w.alloc (.cells #[.int .i64 op, .int .i64 a, .int .i64 b, .int .i64 c, .int .u64 v, .int .i64 m, .int .i64 wh] 44)) from (Below.refl _ _).alloc (Nat.le_refl _) _)
  have C := Lib.hid (regText_any c h _ (pow10_below HB0.out T))
  have hn2 : (c == -1) = false := beq_eq_false_iff_ne.2 hn
  clear hn h
  unfold Says at C ⊢
  generalize bytesA (regT c) = TX at C ⊢
  clear T
  go_enter Tryz.func39, Tryz.ntmps39
  go_wp2_with fail
  go_at_call 62
  refine C.out.mono ?_
  rintro e w' ⟨rfl, hb⟩
  have HB := Lib.hid (HB0.out.trans (hb.mono HB0.out.size))
  clear hb
  go_wp2_with fail
  go_ret
  exact ⟨rfl, HB.out⟩
set_option maxHeartbeats 1000000 in
theorem opdText_cell (op a b c v m wh : Int) (h : regB b = true ∨ b = -1) (h0 : 0 ≤ v) (h1 : v < 18446744073709551616) (w : World) (T : Pow10 w) : Calls Tryz.prog 39 #[.agg #[.int .i64 op, .int .i64 a, .int .i64 b, .int .i64 c, .int .u64 v, .int .i64 m, .int .i64 wh], .int .i64 5] w (Says (cellT ⟨op, a, b, c, v, m, wh⟩) w) := by
  have HB0 := Lib.hid (show Below w.heap.size w (w.alloc (.cells #[.int .i64 op, .int .i64 a, .int .i64 b, .int .i64 c, .int .u64 v, .int .i64 m, .int .i64 wh] 44)) from (Below.refl _ _).alloc (Nat.le_refl _) _)
  have C := Lib.hid (cellText_any op a b c v m wh h h0 h1 _ (pow10_below HB0.out T))
  unfold Says at C ⊢
  generalize bytesA (cellT ⟨op, a, b, c, v, m, wh⟩) = TX at C ⊢
  clear T
  go_enter Tryz.func39, Tryz.ntmps39
  go_wp2_with fail
  go_at_call 63
  refine C.out.mono ?_
  rintro e w' ⟨rfl, hb⟩
  have HB := Lib.hid (HB0.out.trans (hb.mono HB0.out.size))
  clear hb
  go_wp2_with fail
  go_ret
  exact ⟨rfl, HB.out⟩
set_option maxHeartbeats 1000000 in
theorem opdText_name (op a b c v m wh : Int)  (h0 : 0 ≤ v) (h1 : v < 18446744073709551616) (w : World) (T : Pow10 w) : Calls Tryz.prog 39 #[.agg #[.int .i64 op, .int .i64 a, .int .i64 b, .int .i64 c, .int .u64 v, .int .i64 m, .int .i64 wh], .int .i64 6] w (Says (nameT 112 v) w) := by
  have HB0 := Lib.hid (show Below w.heap.size w (w.alloc (.cells #[.int .i64 op, .int .i64 a, .int .i64 b, .int .i64 c, .int .u64 v, .int .i64 m, .int .i64 wh] 44)) from (Below.refl _ _).alloc (Nat.le_refl _) _)
  have C := Lib.hid (nameOf_any v h0 h1 _ (pow10_below HB0.out T))
  unfold Says at C ⊢
  generalize bytesA (nameT 112 v) = TX at C ⊢
  clear T
  go_enter Tryz.func39, Tryz.ntmps39
  go_wp2_with fail
  go_at_call 19
  refine C.out.mono ?_
  rintro e w' ⟨rfl, hb⟩
  have HB := Lib.hid (HB0.out.trans (hb.mono HB0.out.size))
  clear hb
  go_wp2_with fail
  go_ret
  exact ⟨rfl, HB.out⟩
set_option maxHeartbeats 1000000 in
theorem opdText_v7 (op a b c v m wh : Int)  (h0 : 0 ≤ v) (h1 : v < 18446744073709551616) (w : World) (T : Pow10 w) : Calls Tryz.prog 39 #[.agg #[.int .i64 op, .int .i64 a, .int .i64 b, .int .i64 c, .int .u64 v, .int .i64 m, .int .i64 wh], .int .i64 7] w (Says (decT v) w) := by
  have HB0 := Lib.hid (show Below w.heap.size w (w.alloc (.cells #[.int .i64 op, .int .i64 a, .int .i64 b, .int .i64 c, .int .u64 v, .int .i64 m, .int .i64 wh] 44)) from (Below.refl _ _).alloc (Nat.le_refl _) _)
  have C := Lib.hid (print_dec v h0 h1 _ (pow10_below HB0.out T))
  unfold Says at C ⊢
  generalize bytesA (decT v) = TX at C ⊢
  clear T
  go_enter Tryz.func39, Tryz.ntmps39
  go_wp2_with fail
  go_at_call 38
  refine C.out.mono ?_
  rintro e w' ⟨rfl, hb⟩
  have HB := Lib.hid (HB0.out.trans (hb.mono HB0.out.size))
  clear hb
  go_wp2_with fail
  go_ret
  exact ⟨rfl, HB.out⟩
set_option maxHeartbeats 1000000 in
theorem opdText_v8 (op a b c v m wh : Int)  (h0 : 0 ≤ v) (h1 : v < 18446744073709551616) (w : World) (T : Pow10 w) : Calls Tryz.prog 39 #[.agg #[.int .i64 op, .int .i64 a, .int .i64 b, .int .i64 c, .int .u64 v, .int .i64 m, .int .i64 wh], .int .i64 8] w (Says (decT v) w) := by
  have HB0 := Lib.hid (show Below w.heap.size w (w.alloc (.cells #[.int .i64 op, .int .i64 a, .int .i64 b, .int .i64 c, .int .u64 v, .int .i64 m, .int .i64 wh] 44)) from (Below.refl _ _).alloc (Nat.le_refl _) _)
  have C := Lib.hid (print_dec v h0 h1 _ (pow10_below HB0.out T))
  unfold Says at C ⊢
  generalize bytesA (decT v) = TX at C ⊢
  clear T
  go_enter Tryz.func39, Tryz.ntmps39
  go_wp2_with fail
  go_at_call 38
  refine C.out.mono ?_
  rintro e w' ⟨rfl, hb⟩
  have HB := Lib.hid (HB0.out.trans (hb.mono HB0.out.size))
  clear hb
  go_wp2_with fail
  go_ret
  exact ⟨rfl, HB.out⟩
theorem opdText_any (x : Inst) (k : Nat) (hk : k ≤ 8) (h : okF x k) (h0 : 0 ≤ x.v) (h1 : x.v < 18446744073709551616) (w : World) (T : Pow10 w) : Calls Tryz.prog 39 #[.agg #[.int .i64 x.op, .int .i64 x.a, .int .i64 x.b, .int .i64 x.c, .int .u64 x.v, .int .i64 x.m, .int .i64 x.wh], .int .i64 (k : Int)] w (Says (operandT 112 x k) w) := by
  obtain ⟨op, a, b, c, v, m, wh⟩ := x
  obtain ⟨k0, k1, k2, k3, k4, k5, k6⟩ := h
  match k, hk with
  | 0, _ => exact opdText_a op a b c v m wh (k0 rfl) h0 h1 w T
  | 1, _ => exact opdText_b op a b c v m wh (k1 rfl) h0 h1 w T
  | 2, _ => exact opdText_c op a b c v m wh (k2 rfl) h0 h1 w T
  | 3, _ =>
    have e : operandT 112 ⟨op, a, b, c, v, m, wh⟩ 3 = if b = -1 then decT v else regT b := rfl
    rw [e]
    by_cases hn : b = -1
    · rw [if_pos hn]; exact opdText_bn op a b c v m wh hn h0 h1 w T
    · rw [if_neg hn]; exact opdText_bb op a b c v m wh hn ((k3 rfl).resolve_right hn) h0 h1 w T
  | 4, _ =>
    have e : operandT 112 ⟨op, a, b, c, v, m, wh⟩ 4 = if c = -1 then decT v else regT c := rfl
    rw [e]
    by_cases hn : c = -1
    · rw [if_pos hn]; exact opdText_cn op a b c v m wh hn h0 h1 w T
    · rw [if_neg hn]; exact opdText_cc op a b c v m wh hn ((k4 rfl).resolve_right hn) h0 h1 w T
  | 5, _ => exact opdText_cell op a b c v m wh (k5 rfl) h0 h1 w T
  | 6, _ => exact opdText_name op a b c v m wh h0 h1 w T
  | 7, _ => exact opdText_v7 op a b c v m wh h0 h1 w T
  | 8, _ => exact opdText_v8 op a b c v m wh h0 h1 w T
end Go.Proofs.YtneajiglkiffjaaGreatDoor

namespace Go.Proofs.YtneajiglkiffjaaGreatDoor
open Go.RowKit
set_option linter.unusedVariables false

/-- A line's text by now. -/
def lineOn (x : Inst) (i : Nat) : List UInt8 := opTab.getD x.op.toNat [] ++ (((formOf x.op.toNat).take i).map (operandT 112 x)).flatMap fun w => 32 :: w
theorem lineOn_step (x : Inst) (i : Nat) (hi : i < (formOf x.op.toNat).length) : lineOn x (i + 1) = lineOn x i ++ 32 :: operandT 112 x ((formOf x.op.toNat).getD i 0) := by
  unfold lineOn
  have e : (formOf x.op.toNat).take (i + 1) = (formOf x.op.toNat).take i ++ [(formOf x.op.toNat).getD i 0] := by
    rw [List.take_add_one, List.getD_eq_getElem?_getD, List.getElem?_eq_getElem hi]; rfl
  rw [e]; simp
theorem lineOn_end (x : Inst) : lineOn x (formOf x.op.toNat).length ++ (if x.m = 0 then [] else 32 :: markT x) = lineT 112 x := by
  unfold lineOn lineT restT
  rw [List.take_length]
  split <;> simp
theorem forms_small : ∀ f ∈ formsL, f.length ≤ 3 ∧ ∀ k ∈ f, k ≤ 8 := by decide
theorem ops_short : ((List.range 59).all fun k => decide ((opTab.getD k []).length ≤ 4)) = true := by decide +kernel
theorem lineOn_len {x : Inst} {n : Int} (h : Fine x n) : ∀ i, i ≤ (formOf x.op.toNat).length → (lineOn x i).length ≤ 4 + 31 * i
  | 0, _ => by
    have := List.all_eq_true.1 ops_short x.op.toNat (List.mem_range.2 (by have := h.r; omega))
    unfold lineOn
    simpa using this
  | i + 1, hi => by
    have h1 := lineOn_len h i (by omega)
    have hm : (formOf x.op.toNat).getD i 0 ∈ formOf x.op.toNat := by
      rw [List.getD_eq_getElem?_getD, List.getElem?_eq_getElem (by omega)]; exact List.getElem_mem _
    have h2 := opd_len 112 x _ (h.ok _ hm) h.v.1 h.v.2
    rw [lineOn_step x i (by omega), List.length_append, List.length_cons]
    omega
set_option maxHeartbeats 4000000 in
theorem lineOf_any (x : Inst) (n : Int) (h : Fine x n) (w : World) (N : NamesAt w) (T : Pow10 w) : Calls Tryz.prog 20 #[.agg #[.int .i64 x.op, .int .i64 x.a, .int .i64 x.b, .int .i64 x.c, .int .u64 x.v, .int .i64 x.m, .int .i64 x.wh]] w (Says (lineT 112 x) w) := by
  obtain ⟨L, hL⟩ : ∃ L, L = bytesA (lineT 112 x) := ⟨_, rfl⟩
  unfold Says
  rw [← hL]
  obtain ⟨w0, hw0⟩ : ∃ W, W = w.alloc (.cells #[.int .i64 x.op, .int .i64 x.a, .int .i64 x.b, .int .i64 x.c, .int .u64 x.v, .int .i64 x.m, .int .i64 x.wh] 44) := ⟨_, rfl⟩
  have B0 : Below w.heap.size w w0 := by rw [hw0]; exact (Below.refl _ _).alloc (Nat.le_refl _) _
  have X0 : w.heap.size < w0.heap.size := by rw [hw0]; simp
  have T0 := Lib.hid (pow10_below B0 T)
  have hb0 := Lib.hid (show w0.heap[w.heap.size]? = some (.cells #[.int .i64 x.op, .int .i64 x.a, .int .i64 x.b, .int .i64 x.c, .int .u64 x.v, .int .i64 x.m, .int .i64 x.wh] 44) from by rw [hw0]; exact heap_alloc_new _ _)
  obtain ⟨o, ho⟩ : ∃ o : Nat, x.op = o := ⟨x.op.toNat, by have := h.r; omega⟩
  have ho59 : o < 59 := by have := h.r; omega
  have hot : x.op.toNat = o := by omega
  have cN : w.cell? ⟨0, o, none⟩ = some (.string (bytesA (opTab.getD o []))) := by
    have hl : opTab.length = 59 := rfl
    have := N o (.string (bytesA (opTab.getD o []))) (by rw [namesL, List.getElem?_map, List.getElem?_eq_getElem (by rw [hl]; exact ho59), List.getD_eq_getElem?_getD, List.getElem?_eq_getElem (by rw [hl]; exact ho59)]; rfl)
    rwa [Nat.zero_add] at this
  have gN : 0 < w.heap.size := World.block_lt_of_cell? _ _ cN
  have cN0 : w0.cell? ⟨0, o, none⟩ = some (.string (bytesA (opTab.getD o []))) := by rw [B0.cell (p := ⟨0, o, none⟩) gN]; exact cN
  obtain ⟨ks, hks⟩ : ∃ ks, ks = formOf x.op.toNat := ⟨_, rfl⟩
  have hks3 : ks.length ≤ 3 := by rw [hks]; exact (forms_small _ h.fm).1
  have OPS := Lib.hid (opsOf_any x.op w0)
  rw [← hks] at OPS
  have OPD := Lib.hid (fun i (hi : i < ks.length) W (hW : Below w0.heap.size w0 W) => opdText_any x (ks.getD i 0) (by
      have hm : ks.getD i 0 ∈ ks := by rw [List.getD_eq_getElem?_getD, List.getElem?_eq_getElem hi]; exact List.getElem_mem _
      rw [hks] at hm ⊢
      exact (forms_small _ h.fm).2 _ hm) (h.ok _ (by
      have hm : ks.getD i 0 ∈ ks := by rw [List.getD_eq_getElem?_getD, List.getElem?_eq_getElem hi]; exact List.getElem_mem _
      rw [hks] at hm ⊢; exact hm)) h.v.1 h.v.2 W (pow10_below hW T0.out))
  have LN := Lib.hid (fun i (hi : i ≤ ks.length) => show (bytesA (lineOn x i)).size ≤ 4 + 31 * i from by rw [bytesA_size]; exact lineOn_len h i (by rw [← hks]; exact hi))
  have OL := Lib.hid (fun i (hi : i < ks.length) => show (bytesA (operandT 112 x (ks.getD i 0))).size ≤ 30 from by
    rw [bytesA_size]
    refine opd_len 112 x _ (h.ok _ ?_) h.v.1 h.v.2
    have hm : ks.getD i 0 ∈ ks := by rw [List.getD_eq_getElem?_getD, List.getElem?_eq_getElem hi]; exact List.getElem_mem _
    rw [hks] at hm ⊢; exact hm)
  have STEP := Lib.hid (fun i (hi : i < ks.length) => show bytesA (lineOn x i) ++ ((⟨#[32]⟩ : ByteArray) ++ bytesA (operandT 112 x (ks.getD i 0))) = bytesA (lineOn x (i + 1)) from by
    rw [lineOn_step x i (by rw [← hks]; exact hi), bytes_cons, bytes_app, ← hks])
  have MK := Lib.hid (fun W (hW : Below w0.heap.size w0 W) => show Calls Tryz.prog 40 #[.agg #[.int .i64 x.op, .int .i64 x.a, .int .i64 x.b, .int .i64 x.c, .int .u64 x.v, .int .i64 x.m, .int .i64 x.wh]] W (Says (markT x) W) from markText_any x.op x.a x.b x.c x.v x.m x.wh h.m h.wh W (pow10_below hW T0.out))
  have MS := Lib.hid (show (bytesA (markT x)).size ≤ 30 from by
    rw [bytesA_size]
    have := dec_len x.m.toNat 20 (by omega) (by have := h.m; omega)
    unfold markT whenT decT
    rw [List.length_append, List.length_cons]
    split
    · simp; omega
    · split <;> simp <;> omega)
  have END0 := Lib.hid (fun (hm : x.m = 0) => show bytesA (lineOn x ks.length) = L from by
    have := lineOn_end x
    rw [if_pos hm, List.append_nil] at this
    rw [hL, ← this, hks])
  have END1 := Lib.hid (fun (hm : ¬ x.m = 0) => show bytesA (lineOn x ks.length) ++ ((⟨#[32]⟩ : ByteArray) ++ bytesA (markT x)) = L from by
    have := lineOn_end x
    rw [if_neg hm] at this
    rw [hL, ← this, hks, bytes_cons, bytes_app])
  have START := Lib.hid (show bytesA (opTab.getD o []) = bytesA (lineOn x 0) from by unfold lineOn; rw [hot]; simp)
  rw [START.out] at cN0
  have hop : x.op = o := ho
  obtain ⟨xa, hxa⟩ : ∃ y, y = x.a := ⟨_, rfl⟩
  obtain ⟨xb, hxb⟩ : ∃ y, y = x.b := ⟨_, rfl⟩
  obtain ⟨xc, hxc⟩ : ∃ y, y = x.c := ⟨_, rfl⟩
  obtain ⟨xv, hxv⟩ : ∃ y, y = x.v := ⟨_, rfl⟩
  obtain ⟨xm, hxm⟩ : ∃ y, y = x.m := ⟨_, rfl⟩
  obtain ⟨xw, hxw⟩ : ∃ y, y = x.wh := ⟨_, rfl⟩
  rw [hop, ← hxa, ← hxb, ← hxc, ← hxv, ← hxm, ← hxw] at hw0 hb0 OPD MK ⊢
  rw [← hxm] at END0 END1
  rw [hop] at OPS
  have HB0 := Lib.hid B0
  clear hL T N B0 cN gN hks h ho hot hxa hxb hxc hxv hxm hxw hop START T0
  go_enter Tryz.func20, Tryz.ntmps20
  go_upto_region 1 with fail
  rw [← hw0]
  obtain ⟨X, hX⟩ : ∃ X, X = w.heap.size := ⟨_, rfl⟩
  rw [← hX] at X0 hb0
  simp only [← hX]
  clear hX hw0
  have HX := Lib.hid (fun W (hW : Below w0.heap.size w0 W) => show W.cell? ⟨X, 0, none⟩ = some (.int .i64 o) ∧ W.cell? ⟨X, 1, none⟩ = some (.int .i64 xa) ∧ W.cell? ⟨X, 2, none⟩ = some (.int .i64 xb) ∧ W.cell? ⟨X, 3, none⟩ = some (.int .i64 xc) ∧ W.cell? ⟨X, 4, none⟩ = some (.int .u64 xv) ∧ W.cell? ⟨X, 5, none⟩ = some (.int .i64 xm) ∧ W.cell? ⟨X, 6, none⟩ = some (.int .i64 xw) from by
    have hh : W.heap[X]? = _ := (hW.block X X0).trans hb0.out
    refine ⟨?_, ?_, ?_, ?_, ?_, ?_, ?_⟩ <;> (rw [cell_of_row _ X _ _ _ (0, 0) hh]; rfl))
  obtain ⟨x0, x1, x2, x3, x4, x5, x6⟩ := HX.out w0 (Below.refl _ _)
  obtain ⟨l0, hl0⟩ : ∃ l, l = bytesA (lineOn x 0) := ⟨_, rfl⟩
  have HL0 := Lib.hid hl0
  rw [← hl0] at cN0
  clear hl0 hb0 X0
  go_wp2_with fail
  go_at_call 36
  refine OPS.out.mono ?_
  rintro e w1 ⟨A, cap, rfl, KI, KB, hb1⟩
  have HK := Lib.hid KI
  have HB1 := Lib.hid hb1
  obtain ⟨nk, hnk⟩ : ∃ k, k = ks.length := ⟨_, rfl⟩
  have HNK := Lib.hid hnk
  rw [← hnk] at hks3 LN OL STEP OPD END0 END1 ⊢
  clear hnk KI KB hb1 OPS x0 x1 x2 x3 x4 x5 x6 cN0
  go_wp2_with fail
  go_loopw [3, 14] (fun v3 vi wr => ∃ i : Nat, ∃ lt, i ≤ nk ∧ vi = .int .i64 i ∧ v3 = .string lt ∧ Hid (lt = bytesA (lineOn x i)) ∧ Hid (Below w1.heap.size w1 wr)) (fun _ vi _ => nk - (intOf vi).toNat)
  case atStart => exact ⟨0, l0, by omega, rfl, rfl, HL0, Lib.hid (Below.refl _ _)⟩
  case round =>
    obtain ⟨i, lt, hi, rfl, rfl, HLT, HBW⟩ := hrel
    have HBZ := Lib.hid (HB1.out.trans (HBW.out.mono HB1.out.size))
    obtain ⟨x0, x1, x2, x3, x4, x5, x6⟩ := HX.out wr HBZ.out
    have hls : lt.size ≤ 4 + 31 * i := by rw [HLT.out]; exact LN.out i hi
    by_cases hlt : i < nk
    · obtain ⟨b, rfl, hbb, kc⟩ := HK.out i (by rw [← HNK.out]; exact hlt)
      have kc2 : wr.cell? ⟨b, i, none⟩ = some (.int .i64 ((ks.getD i 0 : Nat) : Int)) := by rw [HBW.out.cell (p := ⟨b, i, none⟩) hbb]; exact kc
      have OP := Lib.hid (OPD.out i hlt wr HBZ.out)
      have ST := Lib.hid (STEP.out i hlt)
      have os := OL.out i hlt
      unfold Says at OP
      generalize ks.getD i 0 = k at kc2 OP ST os
      generalize bytesA (operandT 112 x k) = ot at OP ST os
      rw [← HLT.out] at ST
      have q1 : ¬ 9223372036854775807 < 1 + ot.size := by omega
      have q2 : ¬ 9223372036854775807 < lt.size + (1 + ot.size) := by omega
      clear kc os hls
      go_wp2_with fail
      go_at_call 39
      refine OP.out.mono ?_
      rintro e w2 ⟨rfl, hb2⟩
      have HB2 := Lib.hid (HBW.out.trans (hb2.mono HBW.out.size))
      clear hb2
      go_wp2_with fail
      go_roundw
      case rel => exact ⟨i + 1, _, by omega, by go_num, rfl, Lib.hid ST.out, HB2⟩
      case measure => simp [intOf]; omega
    · obtain rfl : i = nk := by omega
      by_cases hm : xm = 0
      · subst hm
        have FIN := Lib.hid (HLT.out.trans (END0.out rfl))
        have HBF := Lib.hid (HB0.out.trans (HBZ.out.mono HB0.out.size))
        clear END0 END1 MK OPD
        go_wp2_with fail
        go_ret
        exact ⟨by rw [← FIN.out]; rfl, HBF.out⟩
      · have hm2 : (xm == 0) = false := beq_eq_false_iff_ne.2 hm
        have FIN := Lib.hid (END1.out hm)
        have MW := Lib.hid (MK.out wr HBZ.out)
        have ms := MS.out
        unfold Says at MW
        generalize bytesA (markT x) = mt at FIN MW ms
        rw [← HLT.out] at FIN
        have q1 : ¬ 9223372036854775807 < 1 + mt.size := by omega
        have q2 : ¬ 9223372036854775807 < lt.size + (1 + mt.size) := by omega
        clear END0 END1 MK OPD hm ms
        go_wp2_with fail
        go_at_call 40
        refine MW.out.mono ?_
        rintro e w2 ⟨rfl, hb2⟩
        have HBF := Lib.hid (HB0.out.trans ((HBZ.out.trans (hb2.mono HBZ.out.size)).mono HB0.out.size))
        clear hb2
        go_wp2_with fail
        go_ret
        exact ⟨by rw [← FIN.out]; rfl, HBF.out⟩
end Go.Proofs.YtneajiglkiffjaaGreatDoor
