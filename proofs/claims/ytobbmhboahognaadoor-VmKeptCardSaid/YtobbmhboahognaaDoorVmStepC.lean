/- Steps that access a cell (layer 6): contracts of Step at Ld, St, Swp, Fad and Cas: without a memory, where there is no such cell, and where there is. The conditions: frame, code and memory lie there, apart; the instruction may be. -/
import Derived.Test.YtobbmhboahognaaDoorVmStepA
import Derived.Test.YtobbmhboahognaaDoorVmAccess
namespace Go.Proofs.YtobbmhboahognaaDoor
open Go.RowKit
set_option linter.unusedVariables false

/-- "vm". -/
def vmS : ByteArray := ⟨#[118, 109]⟩
set_option maxHeartbeats 400000 in
theorem vfault_any (n : Int) (t : TypeId) (x : Value) (w : World) : Calls Tryd.prog 45 #[.int .i64 n, .iface t x] w fun e w' =>
    e = .returned (.iface 108 (.pointer (some ⟨w.heap.size, 0, none⟩))) ∧ w' = w.alloc (.cells #[.string vmS, .int .i64 n, .iface t x] 112) := by
  go_enter Tryd.func45, Tryd.ntmps45
  go_wp2
  go_ret
  exact ⟨rfl, rfl⟩
theorem cells_nil (w : World) : (binOp .eql 93 .nilIface .nilIface).run Tryd.prog w = .ok (.bool true) w := by kernel_rfl
theorem cells_some (a : Addr) (w : World) : (binOp .eql 93 (.iface 25 (.pointer (some a))) .nilIface).run Tryd.prog w = .ok (.bool false) w := by kernel_rfl
theorem err_nil (w : World) : (binOp .neq 37 .nilIface .nilIface).run Tryd.prog w = .ok (.bool false) w := by kernel_rfl
theorem err_some (a : Addr) (w : World) : (binOp .neq 37 (.iface 108 (.pointer (some a))) .nilIface).run Tryd.prog w = .ok (.bool true) w := by kernel_rfl
/-- What an access that goes wrong leaves: an error around the access' own. -/
def AccErr (n place : Int) (w : World) (e : Ending) (w' : World) : Prop := ∃ z1 z2 : Nat, e = .returned (.tuple #[.int .i64 3, .iface 108 (.pointer (some ⟨z1, 0, none⟩))]) ∧
  w'.heap[z1]? = some (.cells #[.string vmS, .int .i64 n, .iface 108 (.pointer (some ⟨z2, 0, none⟩))] 112) ∧
  w'.heap[z2]? = some (.cells #[.string memS, .int .i64 place, .iface 55 (.int .i64 2)] 112) ∧ w.heap.size ≤ z1 ∧ w.heap.size ≤ z2 ∧ Below w.heap.size w w'
/-- What one leaves that goes on. -/
def AccWent (b : Nat) (N : List Nat) (f : Frm) (bm bc : Nat) (m : Cells) (t : Int) (w : World) (e : Ending) (w' : World) : Prop := e = .returned (.tuple #[.int .i64 0, .nilIface]) ∧ FrameAt w' b N f ∧ MemAt w' bm bc m t ∧ Only [b, bm, bc] w w'
theorem acc_err {n place : Int} {w W : World} {z : Nat} {e : Ending} (he : e = .returned (.tuple #[.int .i64 3, .iface 108 (.pointer (some ⟨W.heap.size, 0, none⟩))])) (hb : Below w.heap.size w W) (hz : w.heap.size ≤ z)
    (h : W.heap[z]? = some (.cells #[.string memS, .int .i64 place, .iface 55 (.int .i64 2)] 112)) :
    AccErr n place w e (W.alloc (.cells #[.string vmS, .int .i64 n, .iface 108 (.pointer (some ⟨z, 0, none⟩))] 112)) :=
  ⟨_, z, he, heap_alloc_new _ _, (Below.heap_alloc _ _ _ (Array.getElem?_eq_some_iff.1 h).1).trans h, hb.size, hz, hb.alloc hb.size _⟩

set_option maxHeartbeats 4000000 in
set_option maxRecDepth 100000 in
theorem step_accnil {w : World} {b : Nat} {N : List Nat} {f : Frm} {A : Option Addr} {cap : Nat} {C : Option Addr} {l : List Inst} {k : Nat} {op a b' c' v m wh : Int} (h : StepIn w b N f A cap C l k ⟨op, a, b', c', v, m, wh⟩) (hx : okB ⟨op, a, b', c', v, m, wh⟩ l.length = true) (capC : Nat) (hop : 17 ≤ op ∧ op ≤ 21) :
    Calls Tryd.prog 12 #[.pointer (some ⟨b, 0, none⟩), .slice C l.length capC, .nilIface] w (WrongPost 3 w) := by
  have hops : op = 17 ∨ op = 18 ∨ op = 19 ∨ op = 20 ∨ op = 21 := by omega
  have n16 : (op == 16) = false := by simp; omega
  have n15 : (op == 15) = false := by simp; omega
  have n12 : (op == 12) = false := by simp; omega
  have n13 : (op == 13) = false := by simp; omega
  have n14 : (op == 14) = false := by simp; omega
  have HOPS := Lib.hid hops
  clear hop hops
  have hbw := h.fr.top.lt
  have c := h.fr.pc
  rw [h.pc] at c
  obtain ⟨p, rfl, hp, c0, c1, c2, c3, c4, c5, c6⟩ := h.cells
  have lt := h.lt
  have ll := h.ll
  have VA := Lib.hid (fun W => vvalid_any op a b' c' v m wh l.length (by omega) (by omega) h.cok.1 h.cok.2 W)
  rw [hx] at VA
  simp only at c0 c1 c2 c3 c4 c5 c6
  have H := Lib.hid h
  obtain ⟨n, hn⟩ : ∃ n, n = l.length := ⟨_, rfl⟩
  rw [← hn] at VA lt ll ⊢
  clear h hp hx hn
  go_enter Tryd.func12, Tryd.ntmps12
  go_wp2_with fail
  go_at_call 41
  refine (VA.out _).mono ?_
  rintro e w1 ⟨rfl, hb⟩
  have H1 := Lib.hid (H.out.below hb)
  have HB := Lib.hid hb
  clear hb c c0 c1 c2 c3 c4 c5 c6
  have c := H1.out.fr.pc
  rw [H1.out.pc] at c
  obtain ⟨p', e', hp, c0, c1, c2, c3, c4, c5, c6⟩ := H1.out.cells
  obtain rfl : p = p' := Option.some.inj e'
  simp only at c0 c1 c2 c3 c4 c5 c6
  clear e'
  have hlb := H1.out.fr.top.lt
  have pb : (p.add (k * 7)).block < w1.heap.size := by rw [ChangeShapes.block_add]; exact hp
  have S0 := Lib.hid (sbox_new H1.out HB.out hbw)
  have hz1 := HB.out.size
  go_upto_region 3 with fail
  go_cut [0, 1, 2, 6, 7, 8, 9] from 8 to 168 (fun s0 s1 s2 s6 s7 s8 s9 w' => ∃ X, s0 = .pointer (some ⟨b, 0, none⟩) ∧ s1 = .slice (some p) n capC ∧ s2 = .nilIface ∧ s6 = .int .i64 0 ∧ s7 = .nilIface ∧ s8 = .pointer (some ⟨X, 0, none⟩) ∧ s9 = .int .i64 ((k : Int) + 1) ∧ SBox w w' X b N f A cap (some p) l k ⟨op, a, b', c', v, m, wh⟩)
  case first =>
   as_aux_lemma =>
    go_region
    go_wp2_with fail
    go_meet
    exact ⟨_, rfl, rfl, rfl, rfl, rfl, rfl, rfl, S0.out⟩
  case rest =>
  as_aux_lemma =>
  obtain ⟨X, rfl, rfl, rfl, rfl, rfl, rfl, rfl, S⟩ := hcut
  clear c c0 c1 c2 c3 c4 c5 c6 hlb pb S0 H1 HB VA H hp hz1 hbw
  have hbX := S.bx
  obtain ⟨x0, x1, x2, x3, x4, x5, x6⟩ := S.r.x.cells
  simp only at x0 x1 x2 x3 x4 x5 x6
  have SS := Lib.hid S
  have FIN := Lib.hid S.r.x.b
  have hops := HOPS.out
  have c0 := cells_nil
  clear S HOPS
  go_upto_if 66 with fail
  go_cut [66] from 66 to 71 (fun st w' => st = .bool true ∧ wc = w')
  case first =>
   as_aux_lemma =>
    rcases hops with rfl | rfl | rfl | rfl | rfl
    all_goals
      go_wp2_with fail
      go_meet
      exact ⟨rfl, rfl⟩
  case rest =>
  obtain ⟨rfl, rfl⟩ := hcut
  go_wp2_with fail
  go_ret2
  exact ⟨rfl, FIN.out⟩

set_option maxHeartbeats 4000000 in
set_option maxRecDepth 100000 in
theorem step_accbad {w : World} {b : Nat} {N : List Nat} {f : Frm} {A : Option Addr} {cap : Nat} {C : Option Addr} {l : List Inst} {k : Nat} {op b' c' v m wh : Int} {r : Nat} (h : StepIn w b N f A cap C l k ⟨op, r, b', c', v, m, wh⟩) (hx : okB ⟨op, r, b', c', v, m, wh⟩ l.length = true) (capC : Nat) (bm bc : Nat) (mm : Cells) (t : Int) (MM : MemAt w bm bc mm t) (g : Good mm) (hn0 : 0 ≤ mm.n) (hn1 : mm.n < 9223372036854775807) (hr2 : r < 32) (at' : Nat) (hat : addrP f ⟨op, r, b', c', v, m, wh⟩ = at') (hw : widthAt mm.ws at' = 0) (hop : 17 ≤ op ∧ op ≤ 21) :
    Calls Tryd.prog 12 #[.pointer (some ⟨b, 0, none⟩), .slice C l.length capC, .iface 25 (.pointer (some ⟨bm, 0, none⟩))] w (AccErr k (badPlace at') w) := by
  have hops : op = 17 ∨ op = 18 ∨ op = 19 ∨ op = 20 ∨ op = 21 := by omega
  have n16 : (op == 16) = false := by simp; omega
  have n15 : (op == 15) = false := by simp; omega
  have n12 : (op == 12) = false := by simp; omega
  have n13 : (op == 13) = false := by simp; omega
  have n14 : (op == 14) = false := by simp; omega
  have HOPS := Lib.hid hops
  have HOP := Lib.hid hop
  have HAT := Lib.hid hat
  have HM := Lib.hid MM
  have HW := Lib.hid hw
  clear hop hops hat MM hw
  have hbw := h.fr.top.lt
  have c := h.fr.pc
  rw [h.pc] at c
  obtain ⟨p, rfl, hp, c0, c1, c2, c3, c4, c5, c6⟩ := h.cells
  have lt := h.lt
  have ll := h.ll
  have VA := Lib.hid (fun W => vvalid_any op r b' c' v m wh l.length (by omega) (by omega) h.cok.1 h.cok.2 W)
  rw [hx] at VA
  simp only at c0 c1 c2 c3 c4 c5 c6
  have H := Lib.hid h
  obtain ⟨n, hn⟩ : ∃ n, n = l.length := ⟨_, rfl⟩
  rw [← hn] at VA lt ll ⊢
  clear h hp hx hn
  go_enter Tryd.func12, Tryd.ntmps12
  go_wp2_with fail
  go_at_call 41
  refine (VA.out _).mono ?_
  rintro e w1 ⟨rfl, hb⟩
  have H1 := Lib.hid (H.out.below hb)
  have HB := Lib.hid hb
  clear hb c c0 c1 c2 c3 c4 c5 c6
  have c := H1.out.fr.pc
  rw [H1.out.pc] at c
  obtain ⟨p', e', hp, c0, c1, c2, c3, c4, c5, c6⟩ := H1.out.cells
  obtain rfl : p = p' := Option.some.inj e'
  simp only at c0 c1 c2 c3 c4 c5 c6
  clear e'
  have hlb := H1.out.fr.top.lt
  have pb : (p.add (k * 7)).block < w1.heap.size := by rw [ChangeShapes.block_add]; exact hp
  have S0 := Lib.hid (sbox_new H1.out HB.out hbw)
  have hz1 := HB.out.size
  go_upto_region 3 with fail
  go_cut [0, 1, 2, 6, 7, 8, 9] from 8 to 168 (fun s0 s1 s2 s6 s7 s8 s9 w' => ∃ X, s0 = .pointer (some ⟨b, 0, none⟩) ∧ s1 = .slice (some p) n capC ∧ s2 = .iface 25 (.pointer (some ⟨bm, 0, none⟩)) ∧ s6 = .int .i64 0 ∧ s7 = .nilIface ∧ s8 = .pointer (some ⟨X, 0, none⟩) ∧ s9 = .int .i64 ((k : Int) + 1) ∧ SBox w w' X b N f A cap (some p) l k ⟨op, r, b', c', v, m, wh⟩)
  case first =>
   as_aux_lemma =>
    go_region
    go_wp2_with fail
    go_meet
    exact ⟨_, rfl, rfl, rfl, rfl, rfl, rfl, rfl, S0.out⟩
  case rest =>
  as_aux_lemma =>
  obtain ⟨X, rfl, rfl, rfl, rfl, rfl, rfl, rfl, S⟩ := hcut
  clear c c0 c1 c2 c3 c4 c5 c6 hlb pb S0 H1 HB VA H hp hz1 hbw
  have hbX := S.bx
  obtain ⟨x0, x1, x2, x3, x4, x5, x6⟩ := S.r.x.cells
  simp only at x0 x1 x2 x3 x4 x5 x6
  have SS := Lib.hid S
  have AC := Lib.hid (access_any S.r.f S.s.ok bm bc mm t (HM.out.only (F := []) (Only.of_below S.r.x.b) (by simp) (by simp)) g hn0 hn1 op b' c' v m wh r hr2 HOP.out S.s.cok.1 S.s.cok.2 at' HAT.out)
  have hops := HOPS.out
  have q0 := cells_some ⟨bm, 0, none⟩
  clear S HOPS
  go_upto_if 66 with fail
  go_cut [66] from 66 to 71 (fun st w' => st = .bool true ∧ wc = w')
  case first =>
   as_aux_lemma =>
    rcases hops with rfl | rfl | rfl | rfl | rfl
    all_goals
      go_wp2_with fail
      go_meet
      exact ⟨rfl, rfl⟩
  case rest =>
  obtain ⟨rfl, rfl⟩ := hcut
  go_wp2_with fail
  go_at_call 44
  refine AC.out.mono ?_
  intro e w2 h2
  unfold VAcc at h2
  rw [if_pos HW.out] at h2
  obtain ⟨u, z, rfl, hz, hzs, hb2⟩ := h2
  have q1 := err_some ⟨z, 0, none⟩
  have R2 := SS.out.r.below hb2
  have c := R2.f.pc
  rw [SS.out.s.pc] at c
  have HZ := Lib.hid hz
  have HB2 := Lib.hid R2.x.b
  have HZS := Lib.hid (show w.heap.size ≤ z from Nat.le_trans SS.out.r.x.b.size hzs)
  clear x0 x1 x2 x3 x4 x5 x6 hz hzs hb2 R2 AC
  go_wp2_with fail
  go_at_call 45
  refine (vfault_any _ _ _ _).mono ?_
  rintro e w3 ⟨rfl, rfl⟩
  go_wp2_with fail
  go_ret2
  exact acc_err rfl HB2.out HZS.out HZ.out

set_option maxHeartbeats 4000000 in
set_option maxRecDepth 100000 in
theorem step_accgood {w : World} {b : Nat} {N : List Nat} {f : Frm} {A : Option Addr} {cap : Nat} {C : Option Addr} {l : List Inst} {k : Nat} {op b' c' v m wh : Int} {r : Nat} (h : StepIn w b N f A cap C l k ⟨op, r, b', c', v, m, wh⟩) (hx : okB ⟨op, r, b', c', v, m, wh⟩ l.length = true) (capC : Nat) (bm bc : Nat) (mm : Cells) (t : Int) (MM : MemAt w bm bc mm t) (g : Good mm) (hn0 : 0 ≤ mm.n) (hn1 : mm.n < 9223372036854775807) (hr2 : r < 32) (at' : Nat) (hat : addrP f ⟨op, r, b', c', v, m, wh⟩ = at') (hw : ¬ widthAt mm.ws at' = 0) (hop : 17 ≤ op ∧ op ≤ 21) (hb0 : b ∉ [bm, bc]) (hNN : ∀ k ∈ [bm, bc], k ∈ N) :
    Calls Tryd.prog 12 #[.pointer (some ⟨b, 0, none⟩), .slice C l.length capC, .iface 25 (.pointer (some ⟨bm, 0, none⟩))] w (AccWent b N ⟨k + 1, f.r.set r (accR op (mm.hs.getD at' 0) (f.r.getD r 0)), f.back⟩ bm bc { ws := mm.ws, hs := mm.hs.set at' (accV op (widthAt mm.ws at') (mm.hs.getD at' 0) (f.r.getD r 0) (valP f ⟨op, r, b', c', v, m, wh⟩)), n := mm.n + 1 } t w) := by
  obtain ⟨Y, hY⟩ : ∃ Y, Y = accV op (widthAt mm.ws at') (mm.hs.getD at' 0) (f.r.getD r 0) (valP f ⟨op, r, b', c', v, m, wh⟩) := ⟨_, rfl⟩
  obtain ⟨U, hU⟩ : ∃ U, U = accR op (mm.hs.getD at' 0) (f.r.getD r 0) := ⟨_, rfl⟩
  rw [← hY, ← hU]
  have HY := Lib.hid hY
  have HU := Lib.hid hU
  have HB0 := Lib.hid hb0
  have HNN := Lib.hid hNN
  have hops : op = 17 ∨ op = 18 ∨ op = 19 ∨ op = 20 ∨ op = 21 := by omega
  have n16 : (op == 16) = false := by simp; omega
  have n15 : (op == 15) = false := by simp; omega
  have n12 : (op == 12) = false := by simp; omega
  have n13 : (op == 13) = false := by simp; omega
  have n14 : (op == 14) = false := by simp; omega
  have HOPS := Lib.hid hops
  have HOP := Lib.hid hop
  have HAT := Lib.hid hat
  have HM := Lib.hid MM
  have HW := Lib.hid hw
  clear hop hops hat MM hw hY hU hb0 hNN
  have hbw := h.fr.top.lt
  have c := h.fr.pc
  rw [h.pc] at c
  obtain ⟨p, rfl, hp, c0, c1, c2, c3, c4, c5, c6⟩ := h.cells
  have lt := h.lt
  have ll := h.ll
  have VA := Lib.hid (fun W => vvalid_any op r b' c' v m wh l.length (by omega) (by omega) h.cok.1 h.cok.2 W)
  rw [hx] at VA
  simp only at c0 c1 c2 c3 c4 c5 c6
  have H := Lib.hid h
  obtain ⟨n, hn⟩ : ∃ n, n = l.length := ⟨_, rfl⟩
  rw [← hn] at VA lt ll ⊢
  clear h hp hx hn
  go_enter Tryd.func12, Tryd.ntmps12
  go_wp2_with fail
  go_at_call 41
  refine (VA.out _).mono ?_
  rintro e w1 ⟨rfl, hb⟩
  have H1 := Lib.hid (H.out.below hb)
  have HB := Lib.hid hb
  clear hb c c0 c1 c2 c3 c4 c5 c6
  have c := H1.out.fr.pc
  rw [H1.out.pc] at c
  obtain ⟨p', e', hp, c0, c1, c2, c3, c4, c5, c6⟩ := H1.out.cells
  obtain rfl : p = p' := Option.some.inj e'
  simp only at c0 c1 c2 c3 c4 c5 c6
  clear e'
  have hlb := H1.out.fr.top.lt
  have pb : (p.add (k * 7)).block < w1.heap.size := by rw [ChangeShapes.block_add]; exact hp
  have S0 := Lib.hid (sbox_new H1.out HB.out hbw)
  have hz1 := HB.out.size
  go_upto_region 3 with fail
  go_cut [0, 1, 2, 6, 7, 8, 9] from 8 to 168 (fun s0 s1 s2 s6 s7 s8 s9 w' => ∃ X, s0 = .pointer (some ⟨b, 0, none⟩) ∧ s1 = .slice (some p) n capC ∧ s2 = .iface 25 (.pointer (some ⟨bm, 0, none⟩)) ∧ s6 = .int .i64 0 ∧ s7 = .nilIface ∧ s8 = .pointer (some ⟨X, 0, none⟩) ∧ s9 = .int .i64 ((k : Int) + 1) ∧ SBox w w' X b N f A cap (some p) l k ⟨op, r, b', c', v, m, wh⟩)
  case first =>
   as_aux_lemma =>
    go_region
    go_wp2_with fail
    go_meet
    exact ⟨_, rfl, rfl, rfl, rfl, rfl, rfl, rfl, S0.out⟩
  case rest =>
  as_aux_lemma =>
  obtain ⟨X, rfl, rfl, rfl, rfl, rfl, rfl, rfl, S⟩ := hcut
  clear c c0 c1 c2 c3 c4 c5 c6 hlb pb S0 H1 HB VA H hp hz1 hbw
  have hbX := S.bx
  obtain ⟨x0, x1, x2, x3, x4, x5, x6⟩ := S.r.x.cells
  simp only at x0 x1 x2 x3 x4 x5 x6
  have SS := Lib.hid S
  have AC := Lib.hid (access_any S.r.f S.s.ok bm bc mm t (HM.out.only (F := []) (Only.of_below S.r.x.b) (by simp) (by simp)) g hn0 hn1 op b' c' v m wh r hr2 HOP.out S.s.cok.1 S.s.cok.2 at' HAT.out)
  rw [← HY.out, ← HU.out] at AC
  have hops := HOPS.out
  have q0 := cells_some ⟨bm, 0, none⟩
  have q1 := err_nil
  have hr3 : (r : Int) < 32 := by omega
  clear S HOPS
  go_upto_if 66 with fail
  go_cut [66] from 66 to 71 (fun st w' => st = .bool true ∧ wc = w')
  case first =>
   as_aux_lemma =>
    rcases hops with rfl | rfl | rfl | rfl | rfl
    all_goals
      go_wp2_with fail
      go_meet
      exact ⟨rfl, rfl⟩
  case rest =>
  obtain ⟨rfl, rfl⟩ := hcut
  go_wp2_with fail
  go_at_call 44
  refine AC.out.mono ?_
  intro e w2 h2
  unfold VAcc at h2
  rw [if_neg HW.out] at h2
  obtain ⟨rfl, hm2, ho2⟩ := h2
  have F2 := SS.out.r.f.only ho2 HB0.out HNN.out
  have X2 := SS.out.r.x.r.only ho2 (by have l1 := HM.out.top.lt; have l2 := HM.out.lt; have l3 := SS.out.r.x.x; simp; omega)
  have fr := F2.reg r hr2
  have fz := F2.free (1 + r) (by omega)
  have g0 := F2.pc
  have g1 := F2.free 0 (by omega)
  have FIN := Lib.hid ((F2.setReg r hr2 U).setPc ((k : Int) + 1))
  have FIO := Lib.hid ((((went_below (b := b) SS.out.r.x.b).mono (G := [b, bm, bc]) (by simp)).trans (ho2.mono (by simp))).setCell (p := ⟨b, 1 + r, none⟩) (Or.inl (by simp)) (.int .u64 U) |>.setCell (p := ⟨b, 0, none⟩) (Or.inl (by simp)) (.int .i64 ((k : Int) + 1)))
  have FIM := Lib.hid (hm2.only (F := [b]) (((Only.refl [b] w2).setCell (p := ⟨b, 1 + r, none⟩) (Or.inl (by simp)) (.int .u64 U)).setCell (p := ⟨b, 0, none⟩) (Or.inl (by simp)) (.int .i64 ((k : Int) + 1))) (by have := HB0.out; simp at *; omega) (by have := HB0.out; simp at *; omega))
  clear x0 x1 x2 x3 x4 x5 x6
  have x1 := X2.cell 1 (by simp)
  simp only [List.getElem_cons_zero, List.getElem_cons_succ] at x1
  clear hm2 ho2 F2 X2 AC
  go_upto_region 40 with fail
  go_region
  go_wp2_with fail
  go_ret2
  exact ⟨rfl, ⟨_, _, FIN.out.drewN 1⟩, FIM.out.drew, FIO.out.drew⟩
end Go.Proofs.YtobbmhboahognaaDoor
