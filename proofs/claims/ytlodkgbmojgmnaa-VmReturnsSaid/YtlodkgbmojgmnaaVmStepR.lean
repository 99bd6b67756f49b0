/- A step back out of a subroutine (layer 6): the contract of Step at Ret. The conditions: the frame and the code lie there, the instruction may be. -/
import Derived.Test.YtlodkgbmojgmnaaVmStepB
import Derived.Deep.RegionLaw
import Derived.Deep.RegionWith
namespace Go.Proofs.Ytlodkgbmojgmnaa
open Go.RowKit
set_option linter.unusedVariables false

theorem back_apart {w wc w2 : World} {b : Nat} {N : List Nat} {B : Option Addr} (hN : ∀ k ∈ N, k < w.heap.size) (hs : w.heap.size ≤ wc.heap.size) (hb : b < w.heap.size) (h : ∀ a, B = some a → wc.heap.size ≤ a.block ∧ a.block < w2.heap.size) :
    ∀ a, B = some a → a.block ∉ N ∧ a.block ≠ b ∧ a.block < w2.heap.size := fun a ha => by
  obtain ⟨h1, h2⟩ := h a ha
  refine ⟨fun hm => ?_, by omega, h2⟩
  have := hN _ hm
  omega

set_option maxHeartbeats 40000000 in
set_option maxRecDepth 100000 in
theorem step_ret {w : World} {b : Nat} {N : List Nat} {f : Frm} {A : Option Addr} {cap : Nat} {C : Option Addr} {l : List Inst} {k : Nat} {op a b' c' v m wh : Int} (h : StepIn w b N f A cap C l k ⟨op, a, b', c', v, m, wh⟩) (hx : okB ⟨op, a, b', c', v, m, wh⟩ l.length = true) (capC : Nat) (M : Value) (L : Nat) (hop : op = 16) (hb0 : f.back.length = L + 1) (hN : Hid (∀ k ∈ N, k < w.heap.size)) :
    Calls Try.prog 15 #[.pointer (some ⟨b, 0, none⟩), .slice C l.length capC, M] w (WentPost b N ⟨f.back.getD L 0, f.r, f.back.take L⟩ [b] w) := by
  subst hop
  have HBW := Lib.hid h.fr.top.lt
  have HB0 := Lib.hid hb0
  have hL8 := h.ok.bl
  rw [hb0] at hL8
  obtain ⟨z, hz⟩ : ∃ z, z = f.back.getD L 0 := ⟨_, rfl⟩
  rw [← hz]
  have HZ := Lib.hid hz
  have hbw := h.fr.top.lt
  have c := h.fr.pc
  rw [h.pc] at c
  obtain ⟨p, rfl, hp, c0, c1, c2, c3, c4, c5, c6⟩ := h.cells
  have lt := h.lt
  have ll := h.ll
  have VA := Lib.hid (fun W => vvalid_any 16 a b' c' v m wh l.length (by omega) (by omega) h.cok.1 h.cok.2 W)
  rw [hx] at VA
  simp only at c0 c1 c2 c3 c4 c5 c6
  have H := Lib.hid h
  obtain ⟨n, hn⟩ : ∃ n, n = l.length := ⟨_, rfl⟩
  rw [← hn] at VA lt ll ⊢
  clear h hp hx hn hb0 hz
  go_enter Try.func15, Try.ntmps15
  go_wp2_with fail
  go_at_call 21
  refine (VA.out _).mono ?_
  rintro e w1 ⟨rfl, hb⟩
  have H1 := Lib.hid (H.out.below hb)
  have HB := Lib.hid hb
  clear hb c c0 c1 c2 c3 c4 c5 c6
  have c := H1.out.fr.pc
  rw [H1.out.pc] at c
  obtain ⟨p', e', hp, c0, c1, c2, c3, c4, c5, c6⟩ := H1.out.cells
  obtain rfl : p = p' := Option.some.inj e'
  simp only at c0 c1 c2 c3 c4 c5 c6
  clear e'
  have hlb := H1.out.fr.top.lt
  have pb : (p.add (k * 7)).block < w1.heap.size := by rw [ChangeShapes.block_add]; exact hp
  have S0 := Lib.hid (sbox_new H1.out HB.out hbw)
  have hz1 := HB.out.size
  go_upto_region 3 with fail
  go_cut [0, 1, 2, 6, 7, 8, 9] from 8 to 168 (fun s0 s1 s2 s6 s7 s8 s9 w' => ∃ X, s0 = .pointer (some ⟨b, 0, none⟩) ∧ s1 = .slice (some p) n capC ∧ s2 = M ∧ s6 = .int .i64 0 ∧ s7 = .nilIface ∧ s8 = .pointer (some ⟨X, 0, none⟩) ∧ s9 = .int .i64 ((k : Int) + 1) ∧ SBox w w' X b N f A cap (some p) l k ⟨16, a, b', c', v, m, wh⟩)
  case first =>
    go_region
    go_wp2_with fail
    go_meet
    exact ⟨_, rfl, rfl, rfl, rfl, rfl, rfl, rfl, S0.out⟩
  case rest =>
  obtain ⟨X, rfl, rfl, rfl, rfl, rfl, rfl, rfl, S⟩ := hcut
  clear c c0 c1 c2 c3 c4 c5 c6 hlb pb S0 H1 HB VA H hp hz1 hbw
  have hbX := S.bx
  obtain ⟨x0, x1, x2, x3, x4, x5, x6⟩ := S.r.x.cells
  simp only at x0 x1 x2 x3 x4 x5 x6
  have SS := Lib.hid S
  have bk := S.r.f.back
  have bi := S.r.f.bk
  have fz := S.r.f.free 33 (by omega)
  have hcap := S.r.f.cap
  obtain ⟨q, rfl, hq, ce⟩ := bi L (by rw [HB0.out]; omega)
  rw [← HZ.out] at ce
  rw [HB0.out] at bk hcap
  have CP := Lib.hid (fun V (hV : FrameIn V b N f (some q) cap) => (by
    have := copied_any (some q) cap (f.back.take L) V (fun i hi => by
      rw [List.length_take] at hi
      have := hV.bk i (by omega)
      rw [show (f.back.take L).getD i 0 = f.back.getD i 0 by simp [List.getD, show i < L by omega]]
      exact this) (by rw [List.length_take]; omega)
    rw [show (f.back.take L).length = L by rw [List.length_take, HB0.out]; omega] at this
    exact this : Calls Try.prog 22 #[.slice (some q) L cap] V (CopPost (f.back.take L) V)))
  have hl1 : (L : Int) < (L : Int) + 1 := by omega
  have hl2 : (L : Int) ≤ (cap : Int) := by omega
  clear S bi
  have SD : FrameIn wc.drew b N f (some q) cap := SS.out.r.drew.f
  have HTL := Lib.hid (show L = (f.back.take L).length by rw [List.length_take, HB0.out]; omega)
  go_upto_region 29 with fail
  go_cut [0, 6, 7, 9] from 9 to 168 (fun s0 s6 s7 s9 w' => s0 = .pointer (some ⟨b, 0, none⟩) ∧ s6 = .int .i64 0 ∧ s7 = .nilIface ∧ s9 = .int .i64 z ∧ FrameAt w' b N ⟨f.pc, f.r, f.back.take L⟩ ∧ Only [b] w w')
  case first =>
    go_region_law ((go_simp; go_at_call 22; (with_reducible refine (CP.out _ SD).mono ?_); rintro e w2 ⟨vv, rfl, ho, hb2⟩; obtain ⟨B, c2, rfl, hB, hc2, hB2⟩ := ho.intsIn; rw [← HTL.out]; clear ho; have F2 := SD.below hb2; have bk2 := F2.back; rw [HB0.out] at bk2; have fz2 := F2.free 33 (by omega); have hl3 := hc2; clear hc2; have HI2 := Lib.hid hB; clear hB; have HB3 := Lib.hid hB2; clear hB2; have ce2 : w2.cell? (q.add L) = some (.int .i64 z) := (hb2.cell (p := q.add L) (by rw [ChangeShapes.block_add]; exact hq)).trans ce; have g0 := F2.pc; have g1 := F2.free 0 (by omega); have HBB := Lib.hid hb2; clear hb2; have HF2 := Lib.hid F2; clear F2))
    all_goals
      have F4 := HF2.out.setBack HI2.out hl3 (back_apart hN.out SS.out.r.x.b.size HBW.out HB3.out)
      have FIO := ((went_below (b := b) SS.out.r.x.b).drew.trans (went_below (b := b) HBB.out)).setCell (p := ⟨b, 33, none⟩) (Or.inl (by simp)) (.slice B (f.back.take L).length c2)
      rw [← HTL.out] at F4 FIO
      go_wp2_with fail
      go_meet
      exact ⟨rfl, rfl, rfl, rfl, ⟨_, _, F4⟩, FIO⟩
  case rest =>
  obtain ⟨rfl, rfl, rfl, rfl, ⟨A2, cap2, F4⟩, O4⟩ := hcut
  clear x0 x1 x2 x3 x4 x5 x6 bk fz ce SD SS CP
  have g0 := F4.pc
  have g1 := F4.free 0 (by omega)
  have FIN := Lib.hid (F4.setPc z)
  have FIO := Lib.hid (O4.setCell (p := ⟨b, 0, none⟩) (Or.inl (by simp)) (.int .i64 z))
  clear F4 O4
  go_wp2_with fail
  go_ret2
  exact ⟨rfl, ⟨_, _, FIN.out⟩, FIO.out⟩
end Go.Proofs.Ytlodkgbmojgmnaa
