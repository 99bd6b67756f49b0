/- Steps into and out of subroutines, and those left to the caller (layer 6): contracts of Step at Jsr and Ret, and at all that is no plain instruction. The conditions: the frame and the code lie there, the instruction may be. -/
import Derived.Test.YtobbmhboahognaaDoorVmStepA
import Derived.Test.YtobbmhboahognaaDoorVmCopied
import Derived.Deep.RegionLaw
namespace Go.Proofs.YtobbmhboahognaaDoor
open Go.RowKit
set_option linter.unusedVariables false

set_option maxHeartbeats 4000000 in
set_option maxRecDepth 100000 in
theorem step_away {w : World} {b : Nat} {N : List Nat} {f : Frm} {A : Option Addr} {cap : Nat} {C : Option Addr} {l : List Inst} {k : Nat} {op a b' c' v m wh : Int} (h : StepIn w b N f A cap C l k ⟨op, a, b', c', v, m, wh⟩) (hx : okB ⟨op, a, b', c', v, m, wh⟩ l.length = true) (capC : Nat) (M : Value) (hop : op < 1 ∨ 21 < op) :
    Calls Tryd.prog 12 #[.pointer (some ⟨b, 0, none⟩), .slice C l.length capC, M] w (WrongPost 1 w) := by
  have n16 : (op == 16) = false := by simp; omega
  have n15 : (op == 15) = false := by simp; omega
  have n12 : (op == 12) = false := by simp; omega
  have n13 : (op == 13) = false := by simp; omega
  have n14 : (op == 14) = false := by simp; omega
  have n17 : (op == 17) = false := by simp; omega
  have n18 : (op == 18) = false := by simp; omega
  have n19 : (op == 19) = false := by simp; omega
  have n20 : (op == 20) = false := by simp; omega
  have n21 : (op == 21) = false := by simp; omega
  have n1 : (op == 1) = false := by simp; omega
  have n2 : (op == 2) = false := by simp; omega
  have n3 : (op == 3) = false := by simp; omega
  have n4 : (op == 4) = false := by simp; omega
  have n5 : (op == 5) = false := by simp; omega
  have n6 : (op == 6) = false := by simp; omega
  have n7 : (op == 7) = false := by simp; omega
  have n8 : (op == 8) = false := by simp; omega
  have n9 : (op == 9) = false := by simp; omega
  have n10 : (op == 10) = false := by simp; omega
  have n11 : (op == 11) = false := by simp; omega
  clear hop
  have hbw := h.fr.top.lt
  have c := h.fr.pc
  rw [h.pc] at c
  obtain ⟨p, rfl, hp, c0, c1, c2, c3, c4, c5, c6⟩ := h.cells
  have lt := h.lt
  have ll := h.ll
  have VA := Lib.hid (fun W => vvalid_any op a b' c' v m wh l.length (by omega) (by omega) h.cok.1 h.cok.2 W)
  rw [hx] at VA
  simp only at c0 c1 c2 c3 c4 c5 c6
  have H := Lib.hid h
  obtain ⟨n, hn⟩ : ∃ n, n = l.length := ⟨_, rfl⟩
  rw [← hn] at VA lt ll ⊢
  clear h hp hx hn
  go_enter Tryd.func12, Tryd.ntmps12
  go_wp2_with fail
  go_at_call 41
  refine (VA.out _).mono ?_
  rintro e w1 ⟨rfl, hb⟩
  have H1 := Lib.hid (H.out.below hb)
  have HB := Lib.hid hb
  clear hb c c0 c1 c2 c3 c4 c5 c6
  have c := H1.out.fr.pc
  rw [H1.out.pc] at c
  obtain ⟨p', e', hp, c0, c1, c2, c3, c4, c5, c6⟩ := H1.out.cells
  obtain rfl : p = p' := Option.some.inj e'
  simp only at c0 c1 c2 c3 c4 c5 c6
  clear e'
  have hlb := H1.out.fr.top.lt
  have pb : (p.add (k * 7)).block < w1.heap.size := by rw [ChangeShapes.block_add]; exact hp
  have S0 := Lib.hid (sbox_new H1.out HB.out hbw)
  have hz1 := HB.out.size
  go_upto_region 3 with fail
  go_cut [0, 1, 2, 6, 7, 8, 9] from 8 to 168 (fun s0 s1 s2 s6 s7 s8 s9 w' => ∃ X, s0 = .pointer (some ⟨b, 0, none⟩) ∧ s1 = .slice (some p) n capC ∧ s2 = M ∧ s6 = .int .i64 0 ∧ s7 = .nilIface ∧ s8 = .pointer (some ⟨X, 0, none⟩) ∧ s9 = .int .i64 ((k : Int) + 1) ∧ SBox w w' X b N f A cap (some p) l k ⟨op, a, b', c', v, m, wh⟩)
  case first =>
   as_aux_lemma =>
    go_region
    go_wp2_with fail
    go_meet
    exact ⟨_, rfl, rfl, rfl, rfl, rfl, rfl, rfl, S0.out⟩
  case rest =>
  as_aux_lemma =>
  obtain ⟨X, rfl, rfl, rfl, rfl, rfl, rfl, rfl, S⟩ := hcut
  clear c c0 c1 c2 c3 c4 c5 c6 hlb pb S0 H1 HB VA H hp hz1 hbw
  have hbX := S.bx
  obtain ⟨x0, x1, x2, x3, x4, x5, x6⟩ := S.r.x.cells
  simp only at x0 x1 x2 x3 x4 x5 x6
  have SS := Lib.hid S
  have FIN := Lib.hid S.r.x.b
  clear S
  go_wp2_with fail
  go_ret2
  exact ⟨rfl, FIN.out⟩

set_option maxHeartbeats 4000000 in
set_option maxRecDepth 100000 in
theorem step_ret0 {w : World} {b : Nat} {N : List Nat} {f : Frm} {A : Option Addr} {cap : Nat} {C : Option Addr} {l : List Inst} {k : Nat} {op a b' c' v m wh : Int} (h : StepIn w b N f A cap C l k ⟨op, a, b', c', v, m, wh⟩) (hx : okB ⟨op, a, b', c', v, m, wh⟩ l.length = true) (capC : Nat) (M : Value) (hop : op = 16) (hb0 : f.back = []) :
    Calls Tryd.prog 12 #[.pointer (some ⟨b, 0, none⟩), .slice C l.length capC, M] w (WrongPost 2 w) := by
  subst hop
  have HB0 := Lib.hid hb0
  have hbw := h.fr.top.lt
  have c := h.fr.pc
  rw [h.pc] at c
  obtain ⟨p, rfl, hp, c0, c1, c2, c3, c4, c5, c6⟩ := h.cells
  have lt := h.lt
  have ll := h.ll
  have VA := Lib.hid (fun W => vvalid_any 16 a b' c' v m wh l.length (by omega) (by omega) h.cok.1 h.cok.2 W)
  rw [hx] at VA
  simp only at c0 c1 c2 c3 c4 c5 c6
  have H := Lib.hid h
  obtain ⟨n, hn⟩ : ∃ n, n = l.length := ⟨_, rfl⟩
  rw [← hn] at VA lt ll ⊢
  clear h hp hx hn hb0
  go_enter Tryd.func12, Tryd.ntmps12
  go_wp2_with fail
  go_at_call 41
  refine (VA.out _).mono ?_
  rintro e w1 ⟨rfl, hb⟩
  have H1 := Lib.hid (H.out.below hb)
  have HB := Lib.hid hb
  clear hb c c0 c1 c2 c3 c4 c5 c6
  have c := H1.out.fr.pc
  rw [H1.out.pc] at c
  obtain ⟨p', e', hp, c0, c1, c2, c3, c4, c5, c6⟩ := H1.out.cells
  obtain rfl : p = p' := Option.some.inj e'
  simp only at c0 c1 c2 c3 c4 c5 c6
  clear e'
  have hlb := H1.out.fr.top.lt
  have pb : (p.add (k * 7)).block < w1.heap.size := by rw [ChangeShapes.block_add]; exact hp
  have S0 := Lib.hid (sbox_new H1.out HB.out hbw)
  have hz1 := HB.out.size
  go_upto_region 3 with fail
  go_cut [0, 1, 2, 6, 7, 8, 9] from 8 to 168 (fun s0 s1 s2 s6 s7 s8 s9 w' => ∃ X, s0 = .pointer (some ⟨b, 0, none⟩) ∧ s1 = .slice (some p) n capC ∧ s2 = M ∧ s6 = .int .i64 0 ∧ s7 = .nilIface ∧ s8 = .pointer (some ⟨X, 0, none⟩) ∧ s9 = .int .i64 ((k : Int) + 1) ∧ SBox w w' X b N f A cap (some p) l k ⟨16, a, b', c', v, m, wh⟩)
  case first =>
   as_aux_lemma =>
    go_region
    go_wp2_with fail
    go_meet
    exact ⟨_, rfl, rfl, rfl, rfl, rfl, rfl, rfl, S0.out⟩
  case rest =>
  as_aux_lemma =>
  obtain ⟨X, rfl, rfl, rfl, rfl, rfl, rfl, rfl, S⟩ := hcut
  clear c c0 c1 c2 c3 c4 c5 c6 hlb pb S0 H1 HB VA H hp hz1 hbw
  have hbX := S.bx
  obtain ⟨x0, x1, x2, x3, x4, x5, x6⟩ := S.r.x.cells
  simp only at x0 x1 x2 x3 x4 x5 x6
  have SS := Lib.hid S
  have FIN := Lib.hid S.r.x.b
  have bk := S.r.f.back
  rw [HB0.out] at bk
  simp only [List.length_nil] at bk
  clear S
  go_wp2_with fail
  go_ret2
  exact ⟨rfl, FIN.out⟩

set_option maxHeartbeats 4000000 in
set_option maxRecDepth 100000 in
theorem step_jsr8 {w : World} {b : Nat} {N : List Nat} {f : Frm} {A : Option Addr} {cap : Nat} {C : Option Addr} {l : List Inst} {k : Nat} {op a b' c' v m wh : Int} (h : StepIn w b N f A cap C l k ⟨op, a, b', c', v, m, wh⟩) (hx : okB ⟨op, a, b', c', v, m, wh⟩ l.length = true) (capC : Nat) (M : Value) (hop : op = 15) (hb0 : 8 ≤ f.back.length) :
    Calls Tryd.prog 12 #[.pointer (some ⟨b, 0, none⟩), .slice C l.length capC, M] w (WrongPost 3 w) := by
  subst hop
  have hbw := h.fr.top.lt
  have c := h.fr.pc
  rw [h.pc] at c
  obtain ⟨p, rfl, hp, c0, c1, c2, c3, c4, c5, c6⟩ := h.cells
  have lt := h.lt
  have ll := h.ll
  have VA := Lib.hid (fun W => vvalid_any 15 a b' c' v m wh l.length (by omega) (by omega) h.cok.1 h.cok.2 W)
  rw [hx] at VA
  simp only at c0 c1 c2 c3 c4 c5 c6
  have H := Lib.hid h
  obtain ⟨n, hn⟩ : ∃ n, n = l.length := ⟨_, rfl⟩
  rw [← hn] at VA lt ll ⊢
  clear h hp hx hn
  go_enter Tryd.func12, Tryd.ntmps12
  go_wp2_with fail
  go_at_call 41
  refine (VA.out _).mono ?_
  rintro e w1 ⟨rfl, hb⟩
  have H1 := Lib.hid (H.out.below hb)
  have HB := Lib.hid hb
  clear hb c c0 c1 c2 c3 c4 c5 c6
  have c := H1.out.fr.pc
  rw [H1.out.pc] at c
  obtain ⟨p', e', hp, c0, c1, c2, c3, c4, c5, c6⟩ := H1.out.cells
  obtain rfl : p = p' := Option.some.inj e'
  simp only at c0 c1 c2 c3 c4 c5 c6
  clear e'
  have hlb := H1.out.fr.top.lt
  have pb : (p.add (k * 7)).block < w1.heap.size := by rw [ChangeShapes.block_add]; exact hp
  have S0 := Lib.hid (sbox_new H1.out HB.out hbw)
  have hz1 := HB.out.size
  go_upto_region 3 with fail
  go_cut [0, 1, 2, 6, 7, 8, 9] from 8 to 168 (fun s0 s1 s2 s6 s7 s8 s9 w' => ∃ X, s0 = .pointer (some ⟨b, 0, none⟩) ∧ s1 = .slice (some p) n capC ∧ s2 = M ∧ s6 = .int .i64 0 ∧ s7 = .nilIface ∧ s8 = .pointer (some ⟨X, 0, none⟩) ∧ s9 = .int .i64 ((k : Int) + 1) ∧ SBox w w' X b N f A cap (some p) l k ⟨15, a, b', c', v, m, wh⟩)
  case first =>
   as_aux_lemma =>
    go_region
    go_wp2_with fail
    go_meet
    exact ⟨_, rfl, rfl, rfl, rfl, rfl, rfl, rfl, S0.out⟩
  case rest =>
  as_aux_lemma =>
  obtain ⟨X, rfl, rfl, rfl, rfl, rfl, rfl, rfl, S⟩ := hcut
  clear c c0 c1 c2 c3 c4 c5 c6 hlb pb S0 H1 HB VA H hp hz1 hbw
  have hbX := S.bx
  obtain ⟨x0, x1, x2, x3, x4, x5, x6⟩ := S.r.x.cells
  simp only at x0 x1 x2 x3 x4 x5 x6
  have SS := Lib.hid S
  have FIN := Lib.hid S.r.x.b
  have bk := S.r.f.back
  generalize f.back.length = L at bk hb0
  have hb1 : (8 : Int) ≤ (L : Int) := by omega
  clear S hb0
  go_wp2_with fail
  go_ret2
  exact ⟨rfl, FIN.out⟩

set_option maxHeartbeats 4000000 in
set_option maxRecDepth 100000 in
theorem step_jsr {w : World} {b : Nat} {N : List Nat} {f : Frm} {A : Option Addr} {cap : Nat} {C : Option Addr} {l : List Inst} {k : Nat} {op a b' c' v m wh : Int} (h : StepIn w b N f A cap C l k ⟨op, a, b', c', v, m, wh⟩) (hx : okB ⟨op, a, b', c', v, m, wh⟩ l.length = true) (capC : Nat) (M : Value) (hop : op = 15) (ha : a = 0) (hv : v < l.length) (hb0 : f.back.length < 8) (hN : Hid (∀ k ∈ N, k < w.heap.size)) :
    Calls Tryd.prog 12 #[.pointer (some ⟨b, 0, none⟩), .slice C l.length capC, M] w (WentPost b N ⟨v, f.r, f.back ++ [(k : Int) + 1]⟩ [b] w) := by
  subst hop
  subst ha
  have wv : IntKind.i64.wrap v = v := by have := h.cok.1; have := h.ll; simp only at *; exact IntWalk.i64_in _ (by omega)
  have hbw := h.fr.top.lt
  have c := h.fr.pc
  rw [h.pc] at c
  obtain ⟨p, rfl, hp, c0, c1, c2, c3, c4, c5, c6⟩ := h.cells
  have lt := h.lt
  have ll := h.ll
  have VA := Lib.hid (fun W => vvalid_any 15 0 b' c' v m wh l.length (by omega) (by omega) h.cok.1 h.cok.2 W)
  rw [hx] at VA
  simp only at c0 c1 c2 c3 c4 c5 c6
  have H := Lib.hid h
  obtain ⟨n, hn⟩ : ∃ n, n = l.length := ⟨_, rfl⟩
  rw [← hn] at VA lt ll ⊢
  clear h hp hx hn hv
  go_enter Tryd.func12, Tryd.ntmps12
  go_wp2_with fail
  go_at_call 41
  refine (VA.out _).mono ?_
  rintro e w1 ⟨rfl, hb⟩
  have H1 := Lib.hid (H.out.below hb)
  have HB := Lib.hid hb
  clear hb c c0 c1 c2 c3 c4 c5 c6
  have c := H1.out.fr.pc
  rw [H1.out.pc] at c
  obtain ⟨p', e', hp, c0, c1, c2, c3, c4, c5, c6⟩ := H1.out.cells
  obtain rfl : p = p' := Option.some.inj e'
  simp only at c0 c1 c2 c3 c4 c5 c6
  clear e'
  have hlb := H1.out.fr.top.lt
  have pb : (p.add (k * 7)).block < w1.heap.size := by rw [ChangeShapes.block_add]; exact hp
  have S0 := Lib.hid (sbox_new H1.out HB.out hbw)
  have hz1 := HB.out.size
  go_upto_region 3 with fail
  go_cut [0, 1, 2, 6, 7, 8, 9] from 8 to 168 (fun s0 s1 s2 s6 s7 s8 s9 w' => ∃ X, s0 = .pointer (some ⟨b, 0, none⟩) ∧ s1 = .slice (some p) n capC ∧ s2 = M ∧ s6 = .int .i64 0 ∧ s7 = .nilIface ∧ s8 = .pointer (some ⟨X, 0, none⟩) ∧ s9 = .int .i64 ((k : Int) + 1) ∧ SBox w w' X b N f A cap (some p) l k ⟨15, 0, b', c', v, m, wh⟩)
  case first =>
   as_aux_lemma =>
    go_region
    go_wp2_with fail
    go_meet
    exact ⟨_, rfl, rfl, rfl, rfl, rfl, rfl, rfl, S0.out⟩
  case rest =>
  as_aux_lemma =>
  obtain ⟨X, rfl, rfl, rfl, rfl, rfl, rfl, rfl, S⟩ := hcut
  clear c c0 c1 c2 c3 c4 c5 c6 hlb pb S0 H1 HB VA H hp hz1 hbw
  have hbX := S.bx
  obtain ⟨x0, x1, x2, x3, x4, x5, x6⟩ := S.r.x.cells
  simp only at x0 x1 x2 x3 x4 x5 x6
  have SS := Lib.hid S
  have bk := S.r.f.back
  have HL := Lib.hid hb0
  have CP := Lib.hid (copied_any A cap f.back wc S.r.f.bk (by omega))
  have hb1 : ¬ (8 : Int) ≤ (f.back.length : Int) := by omega
  obtain ⟨L, hL⟩ : ∃ L, L = f.back.length := ⟨_, rfl⟩
  have HLL := Lib.hid hL
  rw [← hL] at bk CP hb0 hb1
  clear S hL
  go_wp2_with fail
  go_at_call 42
  refine CP.out.mono ?_
  rintro e w2 ⟨vv, rfl, ho, hb2⟩
  obtain ⟨v2, w3, hr, ho3, hb3⟩ := run_addInt ho (by have := HL.out; omega) hb2.size ((k : Int) + 1)
  obtain ⟨B, c2, rfl, hB, hc2, hB2⟩ := ho3.intsIn
  have R3 := SS.out.r.below (hb2.trans hb3)
  have bk := R3.f.back
  have fz := R3.f.free 33 (by omega)
  rw [← HLL.out] at bk
  have hNw : w.heap.size ≤ wc.heap.size := SS.out.r.x.b.size
  have F4 := R3.f.setBack hB hc2 (fun q hq => ⟨fun hm => by have := hN.out _ hm; have := (hB2 q hq).1; omega, by have := (hB2 q hq).1; have := SS.out.s.fr.top.lt; omega, (hB2 q hq).2⟩)
  have X4 := R3.x.r.other ⟨b, 33, none⟩ (by simp; omega) (.slice B (f.back ++ [(k : Int) + 1]).length c2)
  have O4 := (went_below (b := b) R3.x.b).setCell (p := ⟨b, 33, none⟩) (Or.inl (by simp)) (.slice B (f.back ++ [(k : Int) + 1]).length c2)
  obtain ⟨L2, hL2⟩ : ∃ L2, L2 = (f.back ++ [(k : Int) + 1]).length := ⟨_, rfl⟩
  rw [← hL2] at hr F4 X4 O4
  obtain ⟨w4, hw4⟩ : ∃ w4, w4 = w3.setCell ⟨b, 33, none⟩ (.slice B L2 c2) := ⟨_, rfl⟩
  rw [← hw4] at F4 X4 O4
  have HW4 := Lib.hid hw4
  have HR := Lib.hid hr
  have FF := Lib.hid F4
  have XX := Lib.hid X4
  have OO := Lib.hid O4
  have JP := Lib.hid (jumps_any F4 15 b' c' v m wh 0 (by omega) (by omega))
  clear x0 x1 x2 x3 x4 x5 x6
  obtain ⟨x0, x1, x2, x3, x4, x5, x6⟩ := R3.x.cells
  clear hr ho ho3 hb2 hb3 hB hc2 hB2 R3 hL2 hw4 F4 X4 O4 hNw
  go_wp2_with (at_builtin; refine Lib.wpList_append_run _ rfl _ _ 24 24 rfl _ _ rfl rfl _ _ HR.out ?_)
  rw [← HW4.out]
  go_at_call 43
  refine JP.out.mono ?_
  rintro e w5 ⟨rfl, hb5⟩
  have F5 := FF.out.below hb5
  have X5 := XX.out.below hb5 XX.out.lt
  have O5 := OO.out.trans (went_below (b := b) hb5)
  clear x0 x1 x2 x3 x4 x5 x6 bk fz hb5
  have x4 := X5.cell 4 (by simp)
  simp only [List.getElem_cons_zero, List.getElem_cons_succ] at x4
  have g0 := F5.pc
  have g1 := F5.free 0 (by omega)
  have FIN := Lib.hid (F5.setPc v)
  have FIO := Lib.hid (O5.setCell (p := ⟨b, 0, none⟩) (Or.inl (by simp)) (.int .i64 v))
  clear F5 X5 O5
  go_wp2_with fail
  go_ret2
  exact ⟨rfl, ⟨_, _, FIN.out⟩, FIO.out⟩
end Go.Proofs.YtobbmhboahognaaDoor
